import PyProof.Rows.All
import Wide.All
import OpenK.AllK
import Wide.FinOn
import HandS.ForMost
import HandS.Zip
import HandS.IsInst
import HandS.Property
import HandS.Wide
import HandS.WideBits
import HandS.TupMul
import HandS.TupAny
import HandS.OwnEq
import HandS.Lambda
import HandS.Flow
import HandS.TryOnly
import HandS.MakeKwOnly
import HandS.Defaults
import HandS.Conv
import KE.GoesMore
import HandS.ClsMeth
import HandS.FStr
import KE.KCallOwn
import PyProof.NeKinds
import PyProof.FactsAll.dict
import KE.KFmtOwn
import HandS.Style
import KE.KTupSum
import HandS.EndTab
import KE.DataMinKey
import HandS.ForExc
import HandS.ExcInit
import HandS.ExcIs
import HandS.ExcField
import HandS.TryMany
import HandS.HotCalls
import KE.KExcLine
import KE.KTryMore
import KE.KExcIs
import HandS.NestedK
import KE.KExcMake
import PySem.Challenge.RW_staycounts_k07_errors_and_class_values
set_option Elab.async false
set_option linter.all false
set_option maxRecDepth 100000
set_option maxHeartbeats 4000000
/-! A layer of plain data over the hand layer: values as data D, results R, what stands in the heap (Rp), a frame's places (Rel), expressions and statements as plain functions (PD, PB, PQ). -/
namespace PL
open PySem PySem.Spec PyProof.Rows L2
/-! ### data -/
inductive D where
  | non | bl (b : Bool) | int (i : Int) | str (s : Str)
  | tup (xs : List D) | lst (xs : List D)
  | scr (ns : List Int)
  | dic (ks : List Key) (vs : List D)
  | ins (C : Str) (ns : List Str) (vs : List D)
  | cls (c : Str)
  | exn (c : Str) (ns : List Str) (vs : List D)
/-- a result: a value, an exception by its class's name and its attributes, or a step that no rule here serves -/
inductive R (α : Type) where
  | ok (a : α) | exc (c : Str) (ns : List Str) (vs : List D) | bad
namespace R
def bind {α β : Type} (x : R α) (f : α → R β) : R β := match x with
  | ok a => f a
  | exc c ns vs => exc c ns vs
  | bad => bad
instance : Monad R where
  pure := ok
  bind := bind
def of {α : Type} : Option α → R α
  | some a => ok a
  | none => bad
@[simp] theorem ok_bind {α β : Type} (a : α) (f : α → R β) : (R.ok a >>= f) = f a := rfl
@[simp] theorem pure_bind' {α β : Type} (a : α) (f : α → R β) : ((pure a : R α) >>= f) = f a := rfl
@[simp] theorem exc_bind {α β : Type} (c : Str) (ns : List Str) (vs : List D) (f : α → R β) : (R.exc c ns vs >>= f) = R.exc c ns vs := rfl
@[simp] theorem bad_bind {α β : Type} (f : α → R β) : ((R.bad : R α) >>= f) = R.bad := rfl
@[simp] theorem of_some {α : Type} (a : α) : R.of (some a) = R.ok a := rfl
@[simp] theorem of_none {α : Type} : R.of (none : Option α) = R.bad := rfl
@[simp] theorem pure_eq {α : Type} (a : α) : (pure a : R α) = R.ok a := rfl
end R
abbrev EXT := Str → List Str → List D → Prop
/-- a result that is wanted -/
def Sat {α : Type} (r : R α) (Q : α → Prop) (EX : EXT) : Prop := match r with
  | .ok a => Q a
  | .exc c ns vs => EX c ns vs
  | .bad => False
theorem sat_bind {α β : Type} {x : R α} {f : α → R β} {Q : β → Prop} {EX : EXT} : Sat (x >>= f) Q EX ↔ Sat x (fun a => Sat (f a) Q EX) EX := by cases x <;> exact Iff.rfl
theorem sat_of {α : Type} {x : Option α} {Q : α → Prop} {EX : EXT} (h : Sat (R.of x) Q EX) : ∃ a, x = some a ∧ Q a := by
  cases x with
  | none => exact h.elim
  | some a => exact ⟨a, rfl, h⟩
theorem Sat.imp {α : Type} {x : R α} {Q Q' : α → Prop} {EX : EXT} (h : Sat x Q EX) (hq : ∀ a, Q a → Q' a) : Sat x Q' EX := by
  cases x with
  | ok a => exact hq a h
  | exc _ _ _ => exact h
  | bad => exact h
/-! ### heaps -/
def Ex (H H' : Hp) : Prop := ∀ a o, H a = some o → H' a = some o
theorem Ex.refl (H : Hp) : Ex H H := fun _ _ h => h
theorem Ex.trans {H H1 H2 : Hp} (a : Ex H H1) (b : Ex H1 H2) : Ex H H2 := fun x o h => b x o (a x o h)
theorem Ex.new {H : Hp} {p : Addr} {o : HO} (h : H p = none) : Ex H (upd H p o) := fun a u e => by
  rw [upd_ne (ne_of_none e h)]
  exact e
theorem ex_rd {H H' : Hp} {a : Addr} {u : HO} (e : Ex H H') (h : Rd H a u) : Rd H' a u := by
  rcases h with h | ⟨o, h⟩
  · exact Or.inl (e a _ h)
  · exact Or.inr ⟨o, e a _ h⟩
theorem ex_l {K : PySem.W.Frag} {H H' : Hp} {a : Addr} {xs : List V} (e : Ex H H') (h : SqL K H a xs) : SqL K H' a xs := by
  rcases h with h | h
  · exact Or.inl (ex_rd e h)
  · exact Or.inr h
theorem ex_t {K : PySem.W.Frag} {H H' : Hp} {a : Addr} {xs : List V} (e : Ex H H') (h : SqT K H a xs) : SqT K H' a xs := by
  rcases h with h | h
  · exact Or.inl (ex_rd e h)
  · exact Or.inr h
/-- the heap without the addresses of L -/
def Frz (H : Hp) (L : List Addr) : Hp := fun a => if a ∈ L then none else H a
theorem frz_ex (H : Hp) (L : List Addr) : Ex (Frz H L) H := fun a o h => by
  unfold Frz at h
  split at h
  · cases h
  · exact h
theorem frz_of {H : Hp} {L : List Addr} {a : Addr} {o : HO} (h : H a = some o) (n : a ∉ L) : Frz H L a = some o := by
  unfold Frz
  rw [if_neg n]
  exact h
theorem frz_mono {H H' : Hp} {L : List Addr} (e : ∀ a o, a ∉ L → H a = some o → H' a = some o) : Ex (Frz H L) (Frz H' L) := fun a o h => by
  unfold Frz at h ⊢
  split at h
  · cases h
  · rename_i n
    rw [if_neg n]
    exact e a o n h
theorem frz_sub {H : Hp} {L L' : List Addr} (s : ∀ a ∈ L', a ∈ L) : Ex (Frz H L) (Frz H L') := fun a o h => by
  unfold Frz at h ⊢
  split at h
  · cases h
  · rename_i n
    rw [if_neg fun z => n (s a z)]
    exact h
/-! ### what a value is -/
/-- an exception at rest -/
def exT (a C : Addr) (d : Option Addr) : HO := .ext fun h => ∃ (o : Obj) (fv : Array Value), h.get? a = some o ∧ o.cls = .ref C ∧ o.dict = d ∧ o.data = .fields fv
mutual
inductive Rp (K : PySem.W.Frag) (ca : Str → Option Addr) (F : Hp) : V → D → Prop
  | non : Rp K ca F .non .non
  | bl (b : Bool) : Rp K ca F (.bl b) (.bl b)
  | int (i : Int) : Rp K ca F (.int i) (.int i)
  | str (x : Str) : Rp K ca F (.str x) (.str x)
  | tup {a : Addr} {xs : List V} {ds : List D} : SqT K F a xs → RpA K ca F xs ds → Rp K ca F (.ref a) (.tup ds)
  | lst {a : Addr} {xs : List V} {ds : List D} : F a = some (.lst xs) → RpA K ca F xs ds → Rp K ca F (.ref a) (.lst ds)
  | scr {a : Addr} {ns : List Int} : SqL K F a (ns.map V.int) → Rp K ca F (.ref a) (.scr ns)
  | dic {a : Addr} {kvs : List (Key × V)} {ds : List D} : F a = some (.dK kvs) → RpA K ca F (kvs.map (·.2)) ds → Rp K ca F (.ref a) (.dic (kvs.map (·.1)) ds)
  | ins {a C dx : Addr} {c : Str} {fs : List (Str × V)} {ds : List D} : F a = some (.ins C dx fs) → ca c = some C → RpA K ca F (fs.map (·.2)) ds → Rp K ca F (.ref a) (.ins c (fs.map (·.1)) ds)
  | cls {C : Addr} {c : Str} : ca c = some C → Rp K ca F (.ref C) (.cls c)
  | exn0 {a C : Addr} {c : Str} : F a = some (exT a C none) → ca c = some C → Rp K ca F (.ref a) (.exn c [] [])
  | exnD {a C dx : Addr} {c : Str} {fs : List (Str × V)} {ds : List D} : F a = some (exT a C (some dx)) → F dx = some (.xd fs) → ca c = some C → RpA K ca F (fs.map (·.2)) ds → Rp K ca F (.ref a) (.exn c (fs.map (·.1)) ds)
inductive RpA (K : PySem.W.Frag) (ca : Str → Option Addr) (F : Hp) : List V → List D → Prop
  | nil : RpA K ca F [] []
  | cons {v : V} {vs : List V} {d : D} {ds : List D} : Rp K ca F v d → RpA K ca F vs ds → RpA K ca F (v :: vs) (d :: ds)
end
section
variable {K : PySem.W.Frag} {ca : Str → Option Addr} {F F' : Hp}
mutual
theorem Rp.mono (e : Ex F F') : ∀ {v : V} {d : D}, Rp K ca F v d → Rp K ca F' v d
  | _, _, .non => .non
  | _, _, .bl b => .bl b
  | _, _, .int i => .int i
  | _, _, .str x => .str x
  | _, _, .tup h r => .tup (ex_t e h) (RpA.mono e r)
  | _, _, .lst h r => .lst (e _ _ h) (RpA.mono e r)
  | _, _, .scr h => .scr (ex_l e h)
  | _, _, .dic h r => .dic (e _ _ h) (RpA.mono e r)
  | _, _, .ins h c r => .ins (e _ _ h) c (RpA.mono e r)
  | _, _, .cls c => .cls c
  | _, _, .exn0 h c => .exn0 (e _ _ h) c
  | _, _, .exnD h g c r => .exnD (e _ _ h) (e _ _ g) c (RpA.mono e r)
theorem RpA.mono (e : Ex F F') : ∀ {vs : List V} {ds : List D}, RpA K ca F vs ds → RpA K ca F' vs ds
  | _, _, .nil => .nil
  | _, _, .cons h r => .cons (Rp.mono e h) (RpA.mono e r)
end
theorem RpA.length : ∀ {vs : List V} {ds : List D}, RpA K ca F vs ds → vs.length = ds.length
  | _, _, .nil => rfl
  | _, _, .cons _ r => congrArg (· + 1) (RpA.length r)
theorem RpA.get : ∀ {vs : List V} {ds : List D} {i : Nat} {d : D}, RpA K ca F vs ds → ds[i]? = some d → ∃ v, vs[i]? = some v ∧ Rp K ca F v d
  | _, _, 0, d, .cons h _, e => by
    simp only [List.length_cons, List.getElem?_cons_zero, Option.some.injEq] at e
    subst e
    exact ⟨_, rfl, h⟩
  | _, _, i + 1, d, .cons _ r, e => by
    obtain ⟨v, e1, h⟩ := RpA.get (i := i) (d := d) r (by simpa using e)
    exact ⟨v, by simpa using e1, h⟩
  | _, _, _, _, .nil, e => by simp at e
theorem RpA.getV : ∀ {vs : List V} {ds : List D} {i : Nat} {v : V}, RpA K ca F vs ds → vs[i]? = some v → ∃ d, ds[i]? = some d ∧ Rp K ca F v d
  | _, _, 0, v, .cons h _, e => by
    simp only [List.length_cons, List.getElem?_cons_zero, Option.some.injEq] at e
    subst e
    exact ⟨_, rfl, h⟩
  | _, _, i + 1, v, .cons _ r, e => by
    obtain ⟨d, e1, h⟩ := RpA.getV (i := i) (v := v) r (by simpa using e)
    exact ⟨d, by simpa using e1, h⟩
  | _, _, _, _, .nil, e => by simp at e
theorem RpA.append : ∀ {vs ws : List V} {ds es : List D}, RpA K ca F vs ds → RpA K ca F ws es → RpA K ca F (vs ++ ws) (ds ++ es)
  | _, _, _, _, .nil, s => s
  | _, _, _, _, .cons h r, s => .cons h (RpA.append r s)
theorem RpA.take : ∀ {vs : List V} {ds : List D} (n : Nat), RpA K ca F vs ds → RpA K ca F (vs.take n) (ds.take n)
  | _, _, 0, _ => .nil
  | _, _, _ + 1, .nil => .nil
  | _, _, n + 1, .cons h r => .cons h (RpA.take n r)
theorem RpA.drop : ∀ {vs : List V} {ds : List D} (n : Nat), RpA K ca F vs ds → RpA K ca F (vs.drop n) (ds.drop n)
  | _, _, 0, r => r
  | _, _, _ + 1, .nil => .nil
  | _, _, n + 1, .cons _ r => RpA.drop n r
theorem RpA.set {v : V} {d : D} (h : Rp K ca F v d) : ∀ {vs : List V} {ds : List D} (i : Nat), RpA K ca F vs ds → RpA K ca F (vs.set i v) (ds.set i d)
  | _, _, _, .nil => .nil
  | _, _, 0, .cons _ r => .cons h r
  | _, _, i + 1, .cons q r => .cons q (RpA.set h i r)
/-- ints, bools, texts: values by themselves -/
def D.ints : List D → Option (List Int)
  | [] => some []
  | .int i :: r => (D.ints r).map (i :: ·)
  | _ :: _ => none
def D.bls : List D → Option (List Bool)
  | [] => some []
  | .bl i :: r => (D.bls r).map (i :: ·)
  | _ :: _ => none
theorem RpA.ints : ∀ {vs : List V} {ds : List D} {ns : List Int}, RpA K ca F vs ds → D.ints ds = some ns → vs = ns.map V.int
  | _, _, ns, .nil, e => by cases e; rfl
  | _, _, ns, .cons h r, e => by
    cases h with
    | int i =>
      simp only [D.ints, Option.map_eq_some_iff] at e
      obtain ⟨m, e1, rfl⟩ := e
      rw [RpA.ints r e1]; rfl
    | _ => simp [D.ints] at e
theorem RpA.bls : ∀ {vs : List V} {ds : List D} {ns : List Bool}, RpA K ca F vs ds → D.bls ds = some ns → vs = ns.map V.bl
  | _, _, ns, .nil, e => by cases e; rfl
  | _, _, ns, .cons h r, e => by
    cases h with
    | bl i =>
      simp only [D.bls, Option.map_eq_some_iff] at e
      obtain ⟨m, e1, rfl⟩ := e
      rw [RpA.bls r e1]; rfl
    | _ => simp [D.bls] at e
theorem RpA.ofInts : ∀ (ns : List Int), RpA K ca F (ns.map V.int) (ns.map D.int)
  | [] => .nil
  | n :: r => .cons (.int n) (RpA.ofInts r)
theorem D.ints_map : ∀ ns : List Int, D.ints (ns.map D.int) = some ns
  | [] => rfl
  | n :: r => by simp [D.ints, D.ints_map r]
end
/-! ### a value that may be a list that the frame owns -/
/-- L: the addresses that are hidden; N: those that may change within an expression -/
def Rb (K : PySem.W.Frag) (ca : Str → Option Addr) (H : Hp) (L N : List Addr) (v : V) (d : D) : Prop :=
  Rp K ca (Frz H L) v d ∨ ∃ a xs ds, v = .ref a ∧ d = .lst ds ∧ a ∉ N ∧ H a = some (.lst xs) ∧ RpA K ca (Frz H L) xs ds
theorem Rb.rp {K : PySem.W.Frag} {ca : Str → Option Addr} {H : Hp} {L N : List Addr} {v : V} {d : D} (h : Rb K ca H L N v d) : Rp K ca H v d := by
  rcases h with h | ⟨a, xs, ds, rfl, rfl, _, h, r⟩
  · exact h.mono (frz_ex H L)
  · exact .lst h (r.mono (frz_ex H L))
theorem Rb.lst {K : PySem.W.Frag} {ca : Str → Option Addr} {H : Hp} {L N : List Addr} {v : V} {ds : List D} (h : Rb K ca H L N v (.lst ds)) :
    ∃ a xs, v = .ref a ∧ H a = some (.lst xs) ∧ RpA K ca (Frz H L) xs ds := by
  rcases h with h | ⟨a, xs, ds', rfl, e, _, h, r⟩
  · cases h with
    | lst h r => exact ⟨_, _, rfl, frz_ex H L _ _ h, r⟩
  · cases e
    exact ⟨a, xs, rfl, h, r⟩
theorem Rb.flat {K : PySem.W.Frag} {ca : Str → Option Addr} {H : Hp} {L N : List Addr} {v : V} {d : D} (h : Rb K ca H L N v d) (n : ∀ ds, d ≠ .lst ds) : Rp K ca (Frz H L) v d := by
  rcases h with h | ⟨a, xs, ds', _, e, _⟩
  · exact h
  · exact absurd e (n ds')
/-! ### tables of code objects -/
abbrev Tb := List (Addr × Str)
def tbs (T : Tb) : List Addr := T.map (·.1)
/-- all but the tables stay -/
def GrT (T : Tb) (H H' : Hp) : Prop := ∀ a o, a ∉ tbs T → H a = some o → H' a = some o
theorem GrT.of {T : Tb} {H H' : Hp} (e : Ex H H') : GrT T H H' := fun a o _ h => e a o h
theorem GrT.refl {T : Tb} {H : Hp} : GrT T H H := fun _ _ _ h => h
theorem GrT.trans {T : Tb} {H H1 H2 : Hp} (a : GrT T H H1) (b : GrT T H1 H2) : GrT T H H2 := fun x o n h => b x o n (a x o n h)
/-- the tables are hidden, and as they are wanted -/
structure TIn (T : Tb) (L : List Addr) (H : Hp) : Prop where
  nd : (tbs T).Nodup
  sub : ∀ a ∈ tbs T, a ∈ L
  tabs : LamX.Tabs T H
theorem TIn.nil {L : List Addr} {H : Hp} : TIn [] L H := ⟨List.nodup_nil, fun _ h => (nomatch h), fun _ h => (nomatch h)⟩
/-- an object that is neither a table nor a code object is written -/
theorem tabs_upd {T : Tb} {H : Hp} {a : Addr} {u o : HO} (t : LamX.Tabs T H) (h : H a = some u) (n1 : ∀ ps, u ≠ .tbl ps) (n2 : ∀ φ, u ≠ .ext φ) : LamX.Tabs T (upd H a o) := fun p hp => by
  obtain ⟨ps, h1, h2, h3⟩ := t p hp
  refine ⟨ps, ?_, h2, fun pos cv hc => ?_⟩
  · rw [upd_ne fun z => ?_]
    · exact h1
    · rw [z, h] at h1
      exact n1 ps (Option.some.inj h1)
  · obtain ⟨c, e1, e2⟩ := h3 pos cv hc
    refine ⟨c, e1, ?_⟩
    rw [upd_ne fun z => ?_]
    · exact e2
    · rw [z, h] at e2
      exact n2 _ (Option.some.inj e2)
theorem tabs_new {T : Tb} {H : Hp} {a : Addr} {o : HO} (t : LamX.Tabs T H) (h : H a = none) : LamX.Tabs T (upd H a o) := t.ext fun b u e => (Ex.new h) b u e
/-! ### a frame -/
/-- what stays through a def's run: the written part, the classes' addresses, the heap at the entry, the in-out object, its place and how it looks -/
structure Z where
  K : PySem.W.Frag
  ca : Str → Option Addr
  H0 : Hp
  pl : Option (Nat × Addr)
  sh : List V → HO
  tb : Tb := []
  /-- what the callers hide; the places that are kept, as they were -/
  bs : List Addr := []
  s0 : L2.St := []
  kp : List Nat := []
abbrev Env := List (Option D)
/-- what may change: the in-out object, the tables of code objects -/
def Z.pls (z : Z) : List Addr := z.pl.toList.map (·.2) ++ tbs z.tb
/-- all that is hidden: the owned lists, the in-out list, what is not to be touched -/
def Z.L (z : Z) (B : List Addr) (P : List (Nat × Addr)) : List Addr := P.map (·.2) ++ (z.pls ++ B)
/-- what an exception's way out leans on -/
def XtOk (z : Z) (B : List Addr) (σ : L2.St) : Prop := (∀ a ∈ z.bs, z.H0 a ≠ none ∧ a ∈ B) ∧ ∀ i ∈ z.kp, σ[i]? = z.s0[i]?
structure Rel (z : Z) (B : List Addr) (P : List (Nat × Addr)) (σ : L2.St) (H : Hp) (ρ : Env) (S : List D) : Prop where
  val : ∀ i d, (∀ p ∈ P, p.1 ≠ i) → ρ[i]? = some (some d) → ∃ v, σ[i]? = some (some v) ∧ Rp z.K z.ca (Frz H (z.L B P)) v d
  own : ∀ p ∈ P, σ[p.1]? = some (some (.ref p.2)) ∧ ∃ xs ds, H p.2 = some (.lst xs) ∧ ρ[p.1]? = some (some (.lst ds)) ∧ RpA z.K z.ca (Frz H (z.L B P)) xs ds
  pool : ∀ i a, z.pl = some (i, a) → σ[i]? = some (some (.ref a)) ∧ ρ[i]? = some none ∧ ∃ xs, H a = some (z.sh xs) ∧ RpA z.K z.ca (Frz H (z.L B P)) xs S
  nd : (z.L B P).Nodup
  there : ∀ b ∈ B, H b ≠ none
  ex : ∀ a o, z.H0 a = some o → a ∉ z.pls → H a = some o
  new : ∀ p ∈ P, z.H0 p.2 = none
  len : σ.length = ρ.length
  tabs : LamX.Tabs z.tb H
  xt : XtOk z B σ
/-- the in-out list alone may have changed -/
def Grow (z : Z) (H H' : Hp) : Prop := ∀ a o, a ∉ z.pls → H a = some o → H' a = some o
theorem Grow.of {z : Z} {H H' : Hp} (e : Ex H H') : Grow z H H' := fun a o _ h => e a o h
theorem Grow.refl {z : Z} {H : Hp} : Grow z H H := fun _ _ _ h => h
theorem Grow.trans {z : Z} {H H1 H2 : Hp} (a : Grow z H H1) (b : Grow z H1 H2) : Grow z H H2 := fun x o n h => b x o n (a x o n h)
theorem Grow.frz {z : Z} {B : List Addr} {P : List (Nat × Addr)} {H H' : Hp} (g : Grow z H H') : Ex (Frz H (z.L B P)) (Frz H' (z.L B P)) := frz_mono fun a o n h => g a o (fun q => n (by
  unfold Z.L
  exact List.mem_append_right _ (List.mem_append_left _ q))) h
theorem Rel.grow {z : Z} {B : List Addr} {P : List (Nat × Addr)} {σ : L2.St} {H H' : Hp} {ρ : Env} {S : List D} (r : Rel z B P σ H ρ S) (e : Ex H H') : Rel z B P σ H' ρ S where
  val := fun i d n h => let ⟨v, e1, q⟩ := r.val i d n h; ⟨v, e1, q.mono ((Grow.of e).frz)⟩
  own := fun p hp => let ⟨e1, xs, ds, e2, e3, q⟩ := r.own p hp; ⟨e1, xs, ds, e _ _ e2, e3, q.mono ((Grow.of e).frz)⟩
  pool := fun i a h => let ⟨e1, e0, xs, e2, q⟩ := r.pool i a h; ⟨e1, e0, xs, e _ _ e2, q.mono ((Grow.of e).frz)⟩
  nd := r.nd
  there := fun b hb => by
    have h := r.there b hb
    cases q : H b with
    | none => exact absurd q h
    | some o => rw [e b o q]; exact fun z => nomatch z
  ex := fun a o h n => e _ _ (r.ex a o h n)
  new := r.new
  len := r.len
  tabs := r.tabs.ext e
  xt := r.xt
theorem Rel.lt {z : Z} {B : List Addr} {P : List (Nat × Addr)} {σ : L2.St} {H : Hp} {ρ : Env} {S : List D} (r : Rel z B P σ H ρ S) {a : Addr} (h : a ∈ z.L B P) : H a ≠ none := by
  unfold Z.L at h
  rcases List.mem_append.mp h with h | h
  · obtain ⟨p, hp, rfl⟩ := List.mem_map.mp h
    obtain ⟨_, xs, ds, e, _⟩ := r.own p hp
    rw [e]; exact fun z => nomatch z
  · rcases List.mem_append.mp h with h | h
    · unfold Z.pls at h
      rcases List.mem_append.mp h with h | h
      · obtain ⟨p, hp, rfl⟩ := List.mem_map.mp h
        obtain ⟨i, a⟩ := p
        have q : z.pl = some (i, a) := by
          cases e : z.pl with
          | none => rw [e] at hp; cases hp
          | some u => rw [e] at hp; simp at hp; rw [hp]
        obtain ⟨_, _, xs, e, _⟩ := r.pool i a q
        rw [e]; exact fun z => nomatch z
      · obtain ⟨p, hp, rfl⟩ := List.mem_map.mp h
        obtain ⟨ps, e, _⟩ := r.tabs p hp
        rw [e]; exact fun z => nomatch z
    · exact r.there a h
/-- a fresh address is not hidden -/
theorem Rel.fresh {z : Z} {B : List Addr} {P : List (Nat × Addr)} {σ : L2.St} {H : Hp} {ρ : Env} {S : List D} (r : Rel z B P σ H ρ S) {a : Addr} (h : H a = none) : a ∉ z.L B P := fun q => r.lt q h
/-! ### expressions -/
/-- e gives what f tells. O: the places of the owned lists -/
def EvE (z : Z) (O : List Nat) (EX : EXT) (t : TE) (f : Env → List D → R (D × List D)) : Prop :=
  ∀ B P σ H ρ S Q, P.map (·.1) = O → Rel z B P σ H ρ S →
    Sat (f ρ S) (fun r => ∀ v H', Grow z H H' → Rel z B P σ H' ρ r.2 → Rp z.K z.ca (Frz H' (z.L B P)) v r.1 → Q v H') EX → t σ H Q
/-- .. it may be an owned list -/
def EvB (z : Z) (O : List Nat) (EX : EXT) (t : TE) (f : Env → List D → R (D × List D)) : Prop :=
  ∀ B P σ H ρ S Q, P.map (·.1) = O → Rel z B P σ H ρ S →
    Sat (f ρ S) (fun r => ∀ v H', Grow z H H' → Rel z B P σ H' ρ r.2 → Rb z.K z.ca H' (z.L B P) z.pls v r.1 → Q v H') EX → t σ H Q
structure PD (X : Cx) (z : Z) (O : List Nat) (EX : EXT) (e : Expr) (f : Env → List D → R (D × List D)) : Prop where
  ex : ∃ t, PE X e t ∧ EvE z O EX t f
structure PB (X : Cx) (z : Z) (O : List Nat) (EX : EXT) (e : Expr) (f : Env → List D → R (D × List D)) : Prop where
  ex : ∃ t, PE X e t ∧ EvB z O EX t f
theorem PD.pb {X : Cx} {z : Z} {O : List Nat} {EX : EXT} {e : Expr} {f : Env → List D → R (D × List D)} (h : PD X z O EX e f) : PB X z O EX e f := by
  obtain ⟨t, h1, h2⟩ := h.ex
  exact ⟨t, h1, fun B P σ H ρ S Q hP r hs => h2 B P σ H ρ S Q hP r (hs.imp fun a q v H' g r' hv => q v H' g r' (.inl hv))⟩
theorem Rb.grow {z : Z} {B : List Addr} {P : List (Nat × Addr)} {H H' : Hp} {v : V} {d : D} (h : Rb z.K z.ca H (z.L B P) z.pls v d) (g : Grow z H H') : Rb z.K z.ca H' (z.L B P) z.pls v d := by
  rcases h with h | ⟨a, xs, ds, rfl, rfl, n, h, r⟩
  · exact .inl (h.mono g.frz)
  · exact .inr ⟨a, xs, ds, rfl, rfl, n, g _ _ n h, r.mono g.frz⟩
end PL
set_option Elab.async false
set_option linter.all false
set_option maxRecDepth 100000
set_option maxHeartbeats 4000000
namespace PL
open PySem PySem.Spec PyProof.Rows L2
/-! ### operators on data -/
abbrev LINE : Nat := 16777216
theorem line_le {n : Nat} (h : n ≤ LINE) : n ≤ sizeLine := by rw [sizeLine_eq]; exact h
theorem line_lt {n : Nat} (h : n < LINE) : n < sizeLine := by rw [sizeLine_eq]; exact h
/-- a two-place rule r answers as g does -/
def Op2 (K : PySem.W.Frag) (ca : Str → Option Addr) (r : R2) (g : D → D → Option D) : Prop :=
  ∀ (H : Hp) (L N : List Addr) (x y : V) (dx dy d : D) (Q : VK), (∀ p, H p = none → p ∉ L) → Rb K ca H L N x dx → Rb K ca H L N y dy → g dx dy = some d →
    (∀ v H', Ex H H' → Rp K ca (Frz H' L) v d → Q v H') → r x y H Q
section
variable {K : PySem.W.Frag} {ca : Str → Option Addr}
theorem Op2.or {r r' : R2} {g g' : D → D → Option D} (h : Op2 K ca r g) (h' : Op2 K ca r' g') : Op2 K ca (fun x y H Q => r x y H Q ∨ r' x y H Q) (fun a b => (g a b).or (g' a b)) := by
  intro H L N x y dx dy d Q fr hx hy hg hq
  dsimp only at hg
  cases e : g dx dy with
  | some u =>
    rw [e] at hg
    cases hg
    exact .inl (h H L N x y dx dy _ Q fr hx hy e hq)
  | none =>
    rw [e] at hg
    exact .inr (h' H L N x y dx dy _ Q fr hx hy hg hq)
theorem frz_new {H : Hp} {L : List Addr} {p : Addr} {o : HO} (n : p ∉ L) : Frz (upd H p o) L p = some o := frz_of upd_same n
theorem frz_up {H : Hp} {L : List Addr} {p : Addr} {o : HO} (h : H p = none) : Ex (Frz H L) (Frz (upd H p o) L) := frz_mono fun a u n e => (Ex.new h) a u e
theorem new_lst {H : Hp} {L : List Addr} {p : Addr} {xs : List V} {ds : List D} (h : H p = none) (n : p ∉ L) (r : RpA K ca (Frz H L) xs ds) : Rp K ca (Frz (upd H p (.lst xs)) L) (.ref p) (.lst ds) :=
  .lst (frz_new n) (r.mono (frz_up h))
theorem new_tup {H : Hp} {L : List Addr} {p : Addr} {xs : List V} {ds : List D} (h : H p = none) (n : p ∉ L) (r : RpA K ca (Frz H L) xs ds) : Rp K ca (Frz (upd H p (.tup xs)) L) (.ref p) (.tup ds) :=
  .tup (SqT.of (frz_new n)) (r.mono (frz_up h))
theorem Rb.int {H : Hp} {L N : List Addr} {v : V} {i : Int} (h : Rb K ca H L N v (.int i)) : v = .int i := by
  cases h.flat (fun _ z => nomatch z); rfl
theorem Rb.bl {H : Hp} {L N : List Addr} {v : V} {i : Bool} (h : Rb K ca H L N v (.bl i)) : v = .bl i := by
  cases h.flat (fun _ z => nomatch z); rfl
theorem Rb.str {H : Hp} {L N : List Addr} {v : V} {i : Str} (h : Rb K ca H L N v (.str i)) : v = .str i := by
  cases h.flat (fun _ z => nomatch z); rfl
theorem Rb.non {H : Hp} {L N : List Addr} {v : V} (h : Rb K ca H L N v .non) : v = .non := by
  cases h.flat (fun _ z => nomatch z); rfl
theorem Rb.tup {H : Hp} {L N : List Addr} {v : V} {ds : List D} (h : Rb K ca H L N v (.tup ds)) : ∃ a xs, v = .ref a ∧ SqT K (Frz H L) a xs ∧ RpA K ca (Frz H L) xs ds := by
  cases h.flat (fun _ z => nomatch z) with
  | tup q r => exact ⟨_, _, rfl, q, r⟩
theorem Rb.scr {H : Hp} {L N : List Addr} {v : V} {ns : List Int} (h : Rb K ca H L N v (.scr ns)) : ∃ a, v = .ref a ∧ SqL K (Frz H L) a (ns.map V.int) := by
  cases h.flat (fun _ z => nomatch z) with
  | scr q => exact ⟨_, rfl, q⟩
/-- + -/
def addI : D → D → Option D | .int a, .int b => some (.int (a + b)) | _, _ => none
def addS : D → D → Option D | .str a, .str b => if a.length + b.length ≤ LINE then some (.str (a ++ b)) else none | _, _ => none
def addL : D → D → Option D | .lst a, .lst b => if a.length + b.length ≤ LINE then some (.lst (a ++ b)) else none | _, _ => none
def addT : D → D → Option D | .tup a, .tup b => if a.length + b.length ≤ LINE then some (.tup (a ++ b)) else none | _, _ => none
def addD (a b : D) : Option D := (addI a b).or ((addS a b).or ((addL a b).or (addT a b)))
theorem op2_rI0 {f : Int → Int → Int} {g : D → D → Option D} (hg : ∀ a b d, g a b = some d → ∃ i j, a = .int i ∧ b = .int j ∧ d = .int (f i j)) : Op2 K ca (rI0 fun i j => .int (f i j)) g := by
  intro H L N x y dx dy d Q fr hx hy e hq
  obtain ⟨i, j, rfl, rfl, rfl⟩ := hg _ _ _ e
  exact ⟨i, j, hx.int, hy.int, hq _ H (Ex.refl H) (.int _)⟩
theorem op2_rI {C : Int → Int → Prop} {f : Int → Int → Int} {g : D → D → Option D} (hg : ∀ a b d, g a b = some d → ∃ i j, a = .int i ∧ b = .int j ∧ C i j ∧ d = .int (f i j)) : Op2 K ca (rI C fun i j => .int (f i j)) g := by
  intro H L N x y dx dy d Q fr hx hy e hq
  obtain ⟨i, j, rfl, rfl, c, rfl⟩ := hg _ _ _ e
  exact ⟨i, j, hx.int, hy.int, c, hq _ H (Ex.refl H) (.int _)⟩
theorem op2_rB {f : Int → Int → Bool} {g : D → D → Option D} (hg : ∀ a b d, g a b = some d → ∃ i j, a = .int i ∧ b = .int j ∧ d = .bl (f i j)) : Op2 K ca (rI0 fun i j => .bl (f i j)) g := by
  intro H L N x y dx dy d Q fr hx hy e hq
  obtain ⟨i, j, rfl, rfl, rfl⟩ := hg _ _ _ e
  exact ⟨i, j, hx.int, hy.int, hq _ H (Ex.refl H) (.bl _)⟩
theorem op2_addI : Op2 K ca (rI0 fun i j => .int (i + j)) addI := op2_rI0 fun a b d h => by
  cases a <;> cases b <;> simp only [addI, reduceCtorEq, Option.some.injEq] at h
  exact ⟨_, _, rfl, rfl, h.symm⟩
def rAddStr : R2 := fun x y H Q => ∃ i j, x = .str i ∧ y = .str j ∧ i.length + j.length ≤ sizeLine ∧ Q (.str (i ++ j)) H
theorem op2_addS : Op2 K ca rAddStr addS := by
  intro H L N x y dx dy d Q fr hx hy e hq
  cases dx <;> cases dy <;> simp only [addS, reduceCtorEq] at e
  split at e
  · rename_i z
    cases e
    exact ⟨_, _, hx.str, hy.str, line_le z, hq _ H (Ex.refl H) (.str _)⟩
  · cases e
theorem op2_addL : Op2 K ca rCat addL := by
  intro H L N x y dx dy d Q fr hx hy e hq
  cases dx <;> cases dy <;> simp only [addL, reduceCtorEq] at e
  split at e
  · rename_i z
    cases e
    obtain ⟨a, xs, rfl, h1, r1⟩ := hx.lst
    obtain ⟨b, ys, rfl, h2, r2⟩ := hy.lst
    exact ⟨a, b, xs, ys, rfl, rfl, h1, h2, line_le (by rw [r1.length, r2.length]; exact z), fun p hp => hq _ _ (Ex.new hp) (new_lst hp (fr p hp) (r1.append r2))⟩
  · cases e
theorem RpA.nil_iff {F : Hp} {xs : List V} {ds : List D} (r : RpA K ca F xs ds) : xs = [] ↔ ds = [] := by
  cases r <;> simp
theorem op2_addT : Op2 K ca (rCatA K) addT := by
  intro H L N x y dx dy d Q fr hx hy e hq
  cases dx <;> cases dy <;> simp only [addT, reduceCtorEq] at e
  split at e
  · rename_i z
    cases e
    obtain ⟨a, xs, rfl, h1, r1⟩ := hx.tup
    obtain ⟨b, ys, rfl, h2, r2⟩ := hy.tup
    refine ⟨a, b, xs, ys, rfl, rfl, ex_t (frz_ex H L) h1, ex_t (frz_ex H L) h2, line_le (by rw [r1.length, r2.length]; exact z), fun q => ?_, fun _ q => ?_, fun _ _ p hp => hq _ _ (Ex.new hp) (new_tup hp (fr p hp) (r1.append r2))⟩
    · rw [r1.nil_iff.mp q, List.nil_append] at hq
      exact hq _ H (Ex.refl H) (.tup h2 r2)
    · rw [r2.nil_iff.mp q, List.append_nil] at hq
      exact hq _ H (Ex.refl H) (.tup h1 r1)
  · cases e
def rAddD (K : PySem.W.Frag) : R2 := fun x y H Q => rI0 (fun i j => .int (i + j)) x y H Q ∨ (rAddStr x y H Q ∨ (rCat x y H Q ∨ rCatA K x y H Q))
theorem op2_add : Op2 K ca (rAddD K) addD := op2_addI.or (op2_addS.or (op2_addL.or op2_addT))
theorem op_addD {X : Cx} : OpR X (binaryOp .Add) (rAddD X.K) := op_add.or (op_add_str.or (op_cat.or op_catA))
/-- - -/
def subD : D → D → Option D | .int a, .int b => some (.int (a - b)) | _, _ => none
theorem op2_sub : Op2 K ca (rI0 fun i j => .int (i - j)) subD := op2_rI0 fun a b d h => by
  cases a <;> cases b <;> simp only [subD, reduceCtorEq, Option.some.injEq] at h
  exact ⟨_, _, rfl, rfl, h.symm⟩
/-- * -/
def mulI : D → D → Option D | .int a, .int b => if (-(2 ^ 64) < a ∧ a < 2 ^ 64) ∨ (-(2 ^ 64) < b ∧ b < 2 ^ 64) then some (.int (a * b)) else none | _, _ => none
def mulL : D → D → Option D | .lst a, .int k => if -(2 ^ 63) ≤ k ∧ k < 2 ^ 63 ∧ a.length * k.toNat ≤ LINE then some (.lst (List.replicate k.toNat a).flatten) else none | _, _ => none
def mulT : D → D → Option D | .tup a, .int k => if a ≠ [] ∧ 2 ≤ k ∧ k ≤ 1000 ∧ a.length ≤ 1000 then some (.tup (List.replicate k.toNat a).flatten) else none | _, _ => none
def mulD (a b : D) : Option D := (mulI a b).or ((mulL a b).or (mulT a b))
theorem op2_mulI : Op2 K ca (rI CMul fun i j => .int (i * j)) mulI := op2_rI fun a b d h => by
  cases a <;> cases b <;> simp only [mulI, reduceCtorEq] at h
  split at h
  · rename_i c
    cases h
    exact ⟨_, _, rfl, rfl, c, rfl⟩
  · cases h
theorem RpA.rep {F : Hp} {xs : List V} {ds : List D} (r : RpA K ca F xs ds) : ∀ k : Nat, RpA K ca F (List.replicate k xs).flatten (List.replicate k ds).flatten
  | 0 => .nil
  | k + 1 => by rw [List.replicate_succ, List.replicate_succ, List.flatten_cons, List.flatten_cons]; exact r.append (RpA.rep r k)
theorem op2_mulL : Op2 K ca rRep mulL := by
  intro H L N x y dx dy d Q fr hx hy e hq
  cases dx <;> cases dy <;> simp only [mulL, reduceCtorEq] at e
  split at e
  · rename_i z
    cases e
    obtain ⟨a, xs, rfl, h1, r1⟩ := hx.lst
    exact ⟨a, _, xs, rfl, hy.int, h1, z.1, z.2.1, line_le (by rw [r1.length]; exact z.2.2), fun p hp => hq _ _ (Ex.new hp) (new_lst hp (fr p hp) (r1.rep _))⟩
  · cases e
theorem op2_mulT : Op2 K ca (rRepT K) mulT := by
  intro H L N x y dx dy d Q fr hx hy e hq
  cases dx <;> cases dy <;> simp only [mulT, reduceCtorEq] at e
  split at e
  · rename_i z
    cases e
    obtain ⟨a, xs, rfl, h1, r1⟩ := hx.tup
    exact ⟨a, _, xs, rfl, hy.int, ex_t (frz_ex H L) h1, fun q => z.1 (r1.nil_iff.mp q), z.2.1, z.2.2.1, by rw [r1.length]; exact z.2.2.2, fun p hp => hq _ _ (Ex.new hp) (new_tup hp (fr p hp) (r1.rep _))⟩
  · cases e
def rMulD (K : PySem.W.Frag) : R2 := fun x y H Q => rI CMul (fun i j => .int (i * j)) x y H Q ∨ (rRep x y H Q ∨ rRepT K x y H Q)
theorem op2_mul : Op2 K ca (rMulD K) mulD := op2_mulI.or (op2_mulL.or op2_mulT)
theorem op_mulD {X : Cx} : OpR X (binaryOp .Mult) (rMulD X.K) := op_mul.or (op_rep.or op_repT)
/-- //, % -/
def fdivD : D → D → Option D | .int a, .int b => if 0 < b ∧ b < 1073741824 then some (.int (a / b)) else none | _, _ => none
def modD : D → D → Option D | .int a, .int b => if 0 < b then some (.int (a % b)) else none | _, _ => none
def powD : D → D → Option D | .int a, .int b => if 0 ≤ b ∧ b ≤ 1000000 ∧ a.natAbs < 2 ^ 64 then some (.int (a ^ b.toNat)) else none | _, _ => none
theorem op2_fdiv : Op2 K ca (rI CDiv fun i j => .int (i / j)) fdivD := op2_rI fun a b d h => by
  cases a <;> cases b <;> simp only [fdivD, reduceCtorEq] at h
  split at h
  · rename_i c
    cases h
    exact ⟨_, _, rfl, rfl, c, rfl⟩
  · cases h
theorem op2_mod : Op2 K ca (rI (fun _ j => 0 < j) fun i j => .int (i % j)) modD := op2_rI fun a b d h => by
  cases a <;> cases b <;> simp only [modD, reduceCtorEq] at h
  split at h
  · rename_i c
    cases h
    exact ⟨_, _, rfl, rfl, c, rfl⟩
  · cases h
theorem op2_pow : Op2 K ca (rI CPow fun i j => .int (i ^ j.toNat)) powD := op2_rI fun a b d h => by
  cases a <;> cases b <;> simp only [powD, reduceCtorEq] at h
  split at h
  · rename_i c
    cases h
    exact ⟨_, _, rfl, rfl, c, rfl⟩
  · cases h
/-- < <= > >= of ints -/
def ltD : D → D → Option D | .int a, .int b => some (.bl (decide (a < b))) | _, _ => none
def leD : D → D → Option D | .int a, .int b => some (.bl (decide (a ≤ b))) | _, _ => none
def gtD : D → D → Option D | .int a, .int b => some (.bl (decide (b < a))) | _, _ => none
def geD : D → D → Option D | .int a, .int b => some (.bl (decide (b ≤ a))) | _, _ => none
theorem op2_lt : Op2 K ca (rI0 fun i j => .bl (decide (i < j))) ltD := op2_rB fun a b d h => by
  cases a <;> cases b <;> simp only [ltD, reduceCtorEq, Option.some.injEq] at h
  exact ⟨_, _, rfl, rfl, h.symm⟩
theorem op2_le : Op2 K ca (rI0 fun i j => .bl (decide (i ≤ j))) leD := op2_rB fun a b d h => by
  cases a <;> cases b <;> simp only [leD, reduceCtorEq, Option.some.injEq] at h
  exact ⟨_, _, rfl, rfl, h.symm⟩
theorem op2_gt : Op2 K ca (rI0 fun i j => .bl (decide (j < i))) gtD := op2_rB fun a b d h => by
  cases a <;> cases b <;> simp only [gtD, reduceCtorEq, Option.some.injEq] at h
  exact ⟨_, _, rfl, rfl, h.symm⟩
theorem op2_ge : Op2 K ca (rI0 fun i j => .bl (decide (j ≤ i))) geD := op2_rB fun a b d h => by
  cases a <;> cases b <;> simp only [geD, reduceCtorEq, Option.some.injEq] at h
  exact ⟨_, _, rfl, rfl, h.symm⟩
/-! == of data at any depth -/
mutual
def toPy : D → Option PyData
  | .non => some .none
  | .bl b => some (.bool b)
  | .int i => some (.int i)
  | .str s => some (.str s)
  | .tup xs => (toPyA xs).map .tuple
  | .lst xs => (toPyA xs).map .list
  | .scr ns => some (.list (ns.map .int))
  | .dic _ _ => none
  | .ins _ _ _ => none
  | .cls _ => none
  | .exn _ _ _ => none
def toPyA : List D → Option (List PyData)
  | [] => some []
  | d :: r => (toPy d).bind fun p => (toPyA r).map fun q => p :: q
end
theorem dp_ints {F : Hp} : ∀ ns : List Int, DpAll K F (ns.map V.int) (ns.map PyData.int)
  | [] => .nil
  | n :: r => .cons (.int n) (dp_ints r)
mutual
theorem Rp.dp {F : Hp} : ∀ {v : V} {d : D} {p : PyData}, Rp K ca F v d → toPy d = some p → Dp K F v p
  | _, _, _, .non, e => by cases e; exact .non
  | _, _, _, .bl b, e => by cases e; exact .bl b
  | _, _, _, .int i, e => by cases e; exact .int i
  | _, _, _, .str x, e => by cases e; exact .str x
  | _, _, _, .tup h r, e => by
    simp only [toPy, Option.map_eq_some_iff] at e
    obtain ⟨q, e1, rfl⟩ := e
    exact .tup h (RpA.dp r e1)
  | _, _, _, .lst h r, e => by
    simp only [toPy, Option.map_eq_some_iff] at e
    obtain ⟨q, e1, rfl⟩ := e
    exact .lst (SqL.of h) (RpA.dp r e1)
  | _, _, _, .scr h, e => by cases e; exact .lst h (dp_ints _)
  | _, _, _, .dic h r, e => by cases e
  | _, _, _, .ins h c r, e => by cases e
  | _, _, _, .cls c, e => by cases e
  | _, _, _, .exn0 _ _, e => by cases e
  | _, _, _, .exnD _ _ _ _, e => by cases e
theorem RpA.dp {F : Hp} : ∀ {vs : List V} {ds : List D} {ps : List PyData}, RpA K ca F vs ds → toPyA ds = some ps → DpAll K F vs ps
  | _, _, _, .nil, e => by cases e; exact .nil
  | _, _, _, .cons h r, e => by
    simp only [toPyA, Option.bind_eq_some_iff, Option.map_eq_some_iff] at e
    obtain ⟨p, e1, q, e2, rfl⟩ := e
    exact .cons (Rp.dp h e1) (RpA.dp r e2)
end
def eqP (a b : D) : Option Bool := (toPy a).bind fun p => (toPy b).bind fun q => if SeqAt.shaped p && SeqAt.shaped q then some (PyData.eqv p q) else none
def eqD (a b : D) : Option D := (eqP a b).map .bl
def neD (a b : D) : Option D := (eqP a b).map fun k => .bl (!k)
theorem eqP_some {a b : D} {k : Bool} (h : eqP a b = some k) : ∃ p q, toPy a = some p ∧ toPy b = some q ∧ SeqAt.shaped p = true ∧ SeqAt.shaped q = true ∧ k = PyData.eqv p q := by
  unfold eqP at h
  simp only [Option.bind_eq_some_iff] at h
  obtain ⟨p, e1, q, e2, h⟩ := h
  split at h
  · rename_i s
    cases h
    rw [Bool.and_eq_true] at s
    exact ⟨p, q, e1, e2, s.1, s.2, rfl⟩
  · cases h
theorem op2_eq : Op2 K ca (rEqD K) eqD := by
  intro H L N x y dx dy d Q fr hx hy e hq
  simp only [eqD, Option.map_eq_some_iff] at e
  obtain ⟨k, e, rfl⟩ := e
  obtain ⟨p, q, e1, e2, s1, s2, rfl⟩ := eqP_some e
  exact ⟨p, q, hx.rp.dp e1, hy.rp.dp e2, s1, s2, hq _ H (Ex.refl H) (.bl _)⟩
theorem op2_ne : Op2 K ca (rNeD K) neD := by
  intro H L N x y dx dy d Q fr hx hy e hq
  simp only [neD, Option.map_eq_some_iff] at e
  obtain ⟨k, e, rfl⟩ := e
  obtain ⟨p, q, e1, e2, s1, s2, rfl⟩ := eqP_some e
  exact ⟨p, q, hx.rp.dp e1, hy.rp.dp e2, s1, s2, hq _ H (Ex.refl H) (.bl _)⟩
/-! ### subscripts -/
theorem RpA.atI {F : Hp} {xs : List V} {ds : List D} {i : Int} {d : D} (r : RpA K ca F xs ds) (h : L2.atI ds i = some d) : ∃ v, L2.atI xs i = some v ∧ Rp K ca F v d := by
  unfold L2.atI at h ⊢
  rw [r.length]
  cases e : ixN ds.length i with
  | none => rw [e] at h; cases h
  | some j =>
    rw [e] at h
    obtain ⟨v, e1, q⟩ := r.get h
    exact ⟨v, e1, q⟩
def idxL : D → D → Option D | .lst ds, .int i => L2.atI ds i | .scr ns, .int i => (L2.atI ns i).map .int | _, _ => none
def idxT : D → D → Option D | .tup ds, .int i => L2.atI ds i | _, _ => none
def idxS : D → D → Option D | .str z, .int i => if z.length ≤ LINE then (L2.atI z.cps.toList i).map fun c => .str ⟨#[c]⟩ else none | _, _ => none
def idxD (a b : D) : Option D := (idxL a b).or ((idxT a b).or (idxS a b))
theorem atI_map {α β : Type} (f : α → β) (xs : List α) (i : Int) : L2.atI (xs.map f) i = (L2.atI xs i).map f := by
  unfold L2.atI
  rw [List.length_map]
  cases ixN xs.length i with
  | none => rfl
  | some j => simp
theorem op2_idxL : Op2 K ca (rIxL K) idxL := by
  intro H L N x y dx dy d Q fr hx hy e hq
  cases dy <;> cases dx <;> simp only [idxL, reduceCtorEq] at e
  · obtain ⟨a, xs, rfl, h1, r1⟩ := hx.lst
    obtain ⟨v, e1, q⟩ := r1.atI e
    exact ⟨a, xs, _, v, rfl, hy.int, SqL.of h1, e1, hq _ H (Ex.refl H) q⟩
  · obtain ⟨a, rfl, h1⟩ := hx.scr
    simp only [Option.map_eq_some_iff] at e
    obtain ⟨n, e, rfl⟩ := e
    exact ⟨a, _, _, .int n, rfl, hy.int, ex_l (frz_ex H L) h1, by rw [atI_map, e]; rfl, hq _ H (Ex.refl H) (.int n)⟩
theorem op2_idxT : Op2 K ca (rIxT K) idxT := by
  intro H L N x y dx dy d Q fr hx hy e hq
  cases dy <;> cases dx <;> simp only [idxT, reduceCtorEq] at e
  obtain ⟨a, xs, rfl, h1, r1⟩ := hx.tup
  obtain ⟨v, e1, q⟩ := r1.atI e
  exact ⟨a, xs, _, v, rfl, hy.int, ex_t (frz_ex H L) h1, e1, hq _ H (Ex.refl H) q⟩
theorem op2_idxS : Op2 K ca rIxS idxS := by
  intro H L N x y dx dy d Q fr hx hy e hq
  cases dy <;> cases dx <;> simp only [idxS, reduceCtorEq] at e
  split at e
  · rename_i z
    simp only [Option.map_eq_some_iff] at e
    obtain ⟨c, e, rfl⟩ := e
    exact ⟨_, _, c, hx.str, hy.int, line_le z, e, hq _ H (Ex.refl H) (.str _)⟩
  · cases e
theorem op2_idx : Op2 K ca (rIx K) idxD := op2_idxL.or (op2_idxT.or op2_idxS)
/-- slices -/
def cutG {α : Type} (xs : List α) (lo hi : Option Int) : List α := (xs.drop (HT.sIx xs.length 0 lo)).take (HT.sIx xs.length xs.length hi - HT.sIx xs.length 0 lo)
theorem RpA.cut {F : Hp} {xs : List V} {ds : List D} (r : RpA K ca F xs ds) (lo hi : Option Int) : RpA K ca F (cutV xs lo hi) (cutG ds lo hi) := by
  unfold cutV cutG
  rw [r.length]
  exact (r.drop _).take _
def slcD (x : D) (lo hi : Option Int) : Option D := match x with
  | .lst ds => some (.lst (cutG ds lo hi))
  | .tup ds => some (.tup (cutG ds lo hi))
  | .scr ns => some (.lst ((cutG ns lo hi).map .int))
  | .str z => if z.length ≤ LINE then some (.str (cutS z lo hi)) else none
  | _ => none
def rSlD (K : PySem.W.Frag) : V → Option Int → Option Int → Hp → VK → Prop := fun x lo hi H Q => rSlL K x lo hi H Q ∨ (rSlA K x lo hi H Q ∨ rSlS x lo hi H Q)
theorem sl_D {X : Cx} : SlR X (rSlD X.K) := sl_list.or (sl_tupA.or sl_str)
theorem cut_whole {α : Type} (xs : List α) (lo hi : Option Int) (h : HT.sIx xs.length 0 lo = 0 ∧ HT.sIx xs.length xs.length hi = xs.length) : cutG xs lo hi = xs := by
  unfold cutG
  rw [h.1, h.2]
  simp
theorem cutV_map (ns : List Int) (lo hi : Option Int) : cutV (ns.map V.int) lo hi = (cutG ns lo hi).map V.int := by
  unfold cutV cutG
  rw [List.length_map, ← List.map_drop, ← List.map_take]
theorem slc_ok {H : Hp} {L N : List Addr} {x : V} {dx d : D} {lo hi : Option Int} {Q : VK} (fr : ∀ p, H p = none → p ∉ L) (hx : Rb K ca H L N x dx) (e : slcD dx lo hi = some d)
    (hq : ∀ v H', Ex H H' → Rp K ca (Frz H' L) v d → Q v H') : rSlD K x lo hi H Q := by
  cases dx <;> simp only [slcD, reduceCtorEq, Option.some.injEq] at e
  · split at e
    · rename_i z
      cases e
      exact .inr (.inr ⟨_, hx.str, line_le z, hq _ H (Ex.refl H) (.str _)⟩)
    · cases e
  · subst e
    obtain ⟨a, xs, rfl, h1, r1⟩ := hx.tup
    refine .inr (.inl ⟨a, xs, rfl, ex_t (frz_ex H L) h1, fun w => ?_, fun _ p hp => hq _ _ (Ex.new hp) (new_tup hp (fr p hp) (r1.cut lo hi))⟩)
    refine hq _ H (Ex.refl H) (.tup h1 ?_)
    rw [r1.length] at w
    rw [cut_whole _ _ _ w]
    exact r1
  · subst e
    obtain ⟨a, xs, rfl, h1, r1⟩ := hx.lst
    exact .inl ⟨a, xs, rfl, SqL.of h1, fun p hp => hq _ _ (Ex.new hp) (new_lst hp (fr p hp) (r1.cut lo hi))⟩
  · subst e
    obtain ⟨a, rfl, h1⟩ := hx.scr
    refine .inl ⟨a, _, rfl, ex_l (frz_ex H L) h1, fun p hp => hq _ _ (Ex.new hp) (new_lst hp (fr p hp) ?_)⟩
    rw [cutV_map]
    exact RpA.ofInts _
end
end PL
set_option Elab.async false
set_option linter.all false
set_option maxRecDepth 100000
set_option maxHeartbeats 4000000
namespace PL
open PySem PySem.Spec PyProof.Rows L2
abbrev FE := Env → List D → R (D × List D)
abbrev FA := Env → List D → R (List D × List D)
abbrev FT := Env → List D → R (Bool × List D)
/-- a name's value -/
def lk (ρ : Env) (i : Nat) : R D := R.of (ρ[i]?.join)
section
variable {X : Cx} {z : Z} {O : List Nat} {EX : EXT} {a b c e : Expr} {es : List Expr} {f g h : FE} {pos : Pos}
/-! ### constants and names -/
theorem evE_c {v : V} {d : D} (r : ∀ F, Rp z.K z.ca F v d) : EvE z O EX (tC v) (fun _ S => R.ok (d, S)) := fun B P σ H ρ S Q hP rr hs => hs v H Grow.refl rr (r _)
theorem pd_int {i j pos} : PD X z O EX (.Constant (.int i) j pos) (fun _ S => R.ok (.int i, S)) := ⟨_, pe_int, evE_c fun _ => .int i⟩
theorem pd_bl {i j pos} : PD X z O EX (.Constant (.bool i) j pos) (fun _ S => R.ok (.bl i, S)) := ⟨_, pe_bl, evE_c fun _ => .bl i⟩
theorem pd_non {j pos} : PD X z O EX (.Constant .none j pos) (fun _ S => R.ok (.non, S)) := ⟨_, pe_non, evE_c fun _ => .non⟩
theorem pd_str {i j pos} : PD X z O EX (.Constant (.str i) j pos) (fun _ S => R.ok (.str i, S)) := ⟨_, pe_str, evE_c fun _ => .str i⟩
theorem lk_get {ρ : Env} {i : Nat} {d : D} (h : ρ[i]?.join = some d) : ρ[i]? = some (some d) := by
  cases e : ρ[i]? with
  | none => rw [e] at h; cases h
  | some o => rw [e] at h; cases o with
    | none => cases h
    | some u => cases h; rfl
theorem pd_name (i : Nat) (hi : O.all (· != i) = true := by rfl) {x : Str} (hN : X.N[i]? = some x := by rfl) (hv : Vis X.env.scope x := by first | exact Or.inl rfl | exact Or.inr (Or.inl rfl) | exact Or.inr (Or.inr rfl))
    (hd : (x == ("__debug__" : Str)) = false := by decide) (hcd : (x == ("__classdict__" : Str)) = false := by decide) : PD X z O EX (.Name x pos) (fun ρ S => lk ρ i >>= fun d => R.ok (d, S)) := by
  refine ⟨_, pe_var hN hv hd hcd, fun B P σ H ρ S Q hP rr hs => ?_⟩
  obtain ⟨d, hd, hq⟩ := sat_of (sat_bind.mp hs)
  obtain ⟨v, e, r⟩ := rr.val i d (fun p hp q => by
    have hm : p.1 ∈ O := by rw [← hP]; exact List.mem_map_of_mem hp
    have := List.all_eq_true.mp hi p.1 hm
    rw [q] at this
    simp at this) (lk_get hd)
  exact ⟨v, e, hq v H Grow.refl rr r⟩
/-! ### operators -/
def bin2 (g2 : D → D → Option D) (f g : FE) : FE := fun ρ S => f ρ S >>= fun x => g ρ x.2 >>= fun y => R.of (g2 x.1 y.1) >>= fun d => R.ok (d, y.2)
theorem ev_bin {ta tb : TE} {r : R2} {g2 : D → D → Option D} (e1 : EvB z O EX ta f) (e2 : EvB z O EX tb g) (hg : Op2 z.K z.ca r g2) : EvE z O EX (tOp r ta tb) (bin2 g2 f g) := by
  intro B P σ H ρ S Q hP rr hs
  refine e1 B P σ H ρ S _ hP rr ((sat_bind.mp hs).imp fun x hx v H1 g1 r1 hv => ?_)
  refine e2 B P σ H1 ρ x.2 _ hP r1 ((sat_bind.mp hx).imp fun y hy u H2 g2' r2 hu => ?_)
  obtain ⟨d, hd, hq⟩ := sat_of (sat_bind.mp hy)
  exact hg H2 (z.L B P) z.pls v u x.1 y.1 d Q (fun p hp => r2.fresh hp) (hv.grow g2') hu hd fun w H' e' hw => hq w H' ((g1.trans g2').trans (Grow.of e')) (r2.grow e') hw
theorem pd_op {op : Operator} {r : R2} {g2 : D → D → Option D} (ho : OpR X (binaryOp op) r) (hg : Op2 z.K z.ca r g2) (ha : PB X z O EX a f) (hb : PB X z O EX b g) : PD X z O EX (.BinOp a op b pos) (bin2 g2 f g) := by
  obtain ⟨ta, p1, e1⟩ := ha.ex
  obtain ⟨tb, p2, e2⟩ := hb.ex
  exact ⟨_, pe_op ho p1 p2, ev_bin e1 e2 hg⟩
theorem pd_add (hK : X.K = z.K) (ha : PB X z O EX a f) (hb : PB X z O EX b g) : PD X z O EX (.BinOp a .Add b pos) (bin2 addD f g) := pd_op (hK ▸ op_addD) op2_add ha hb
theorem pd_sub (ha : PB X z O EX a f) (hb : PB X z O EX b g) : PD X z O EX (.BinOp a .Sub b pos) (bin2 subD f g) := pd_op op_sub op2_sub ha hb
theorem pd_mul (hK : X.K = z.K) (ha : PB X z O EX a f) (hb : PB X z O EX b g) : PD X z O EX (.BinOp a .Mult b pos) (bin2 mulD f g) := pd_op (hK ▸ op_mulD) op2_mul ha hb
theorem pd_fdiv (ha : PB X z O EX a f) (hb : PB X z O EX b g) : PD X z O EX (.BinOp a .FloorDiv b pos) (bin2 fdivD f g) := pd_op op_fdiv op2_fdiv ha hb
theorem pd_mod (ha : PB X z O EX a f) (hb : PB X z O EX b g) : PD X z O EX (.BinOp a .Mod b pos) (bin2 modD f g) := pd_op op_mod op2_mod ha hb
theorem pd_pow (ha : PB X z O EX a f) (hb : PB X z O EX b g) : PD X z O EX (.BinOp a .Pow b pos) (bin2 powD f g) := pd_op op_pow op2_pow ha hb
/-- -a -/
def negD : D → Option D | .int i => some (.int (-i)) | _ => none
def un1 (g1 : D → Option D) (f : FE) : FE := fun ρ S => f ρ S >>= fun x => R.of (g1 x.1) >>= fun d => R.ok (d, x.2)
theorem pd_neg (ha : PB X z O EX a f) : PD X z O EX (.UnaryOp .USub a pos) (un1 negD f) := by
  obtain ⟨ta, p1, e1⟩ := ha.ex
  refine ⟨_, pe_un un_neg p1, fun B P σ H ρ S Q hP rr hs => ?_⟩
  refine e1 B P σ H ρ S _ hP rr ((sat_bind.mp hs).imp fun x hx v H1 g1 r1 hv => ?_)
  obtain ⟨d, hd, hq⟩ := sat_of (sat_bind.mp hx)
  obtain ⟨x1, x2⟩ := x
  cases x1 <;> simp only [negD, reduceCtorEq, Option.some.injEq] at hd
  subst hd
  exact ⟨_, hv.int, hq _ H1 g1 r1 (.int _)⟩
/-- one comparison as a value -/
theorem pd_cmp {op : CmpOp} {r : R2} {g2 : D → D → Option D} (ho : OpR X (compareOp op) r) (hg : Op2 z.K z.ca r g2) (ha : PB X z O EX a f) (hb : PB X z O EX b g) (hm : behindInMarks op b = false) : PD X z O EX (.Compare a [op] [b] pos) (bin2 g2 f g) := by
  obtain ⟨ta, p1, e1⟩ := ha.ex
  obtain ⟨tb, p2, e2⟩ := hb.ex
  exact ⟨_, pe_cmpR ho p1 p2 hm, ev_bin e1 e2 hg⟩
theorem pd_lt (ha : PB X z O EX a f) (hb : PB X z O EX b g) : PD X z O EX (.Compare a [.Lt] [b] pos) (bin2 ltD f g) := pd_cmp op_lt op2_lt ha hb (nomark _)
theorem pd_eq (hK : X.K = z.K) (hu : X.A.units + 64 < cLine) (ha : PB X z O EX a f) (hb : PB X z O EX b g) : PD X z O EX (.Compare a [.Eq] [b] pos) (bin2 eqD f g) := pd_cmp (hK ▸ op_eqD hu) op2_eq ha hb (nomark _)
/-- a op b op' c -/
def chn (g2 g3 : D → D → Option D) (f g h : FE) : FE := fun ρ S => f ρ S >>= fun x => g ρ x.2 >>= fun y => R.of (g2 x.1 y.1) >>= fun d => match d with
  | .bl true => h ρ y.2 >>= fun w => R.of (g3 y.1 w.1) >>= fun d' => R.ok (d', w.2)
  | .bl false => R.ok (.bl false, y.2)
  | _ => R.bad
theorem pd_chain {op op' : CmpOp} {r r' : R2} {g2 g3 : D → D → Option D} (ho : OpR X (compareOp op) r) (ho' : OpR X (compareOp op') r') (hg : Op2 z.K z.ca r g2) (hg' : Op2 z.K z.ca r' g3)
    (ha : PB X z O EX a f) (hb : PB X z O EX b g) (hc : PB X z O EX c h) (hm : lastMarks [op, op'] [b, c] = false := by with_unfolding_all rfl) : PD X z O EX (.Compare a [op, op'] [b, c] pos) (chn g2 g3 f g h) := by
  obtain ⟨ta, p1, e1⟩ := ha.ex
  obtain ⟨tb, p2, e2⟩ := hb.ex
  obtain ⟨tc, p3, e3⟩ := hc.ex
  refine ⟨_, pe_chain ho ho' p1 p2 p3 hm, fun B P σ H ρ S Q hP rr hs => ?_⟩
  refine e1 B P σ H ρ S _ hP rr ((sat_bind.mp hs).imp fun x hx v H1 g1 r1 hv => ?_)
  refine e2 B P σ H1 ρ x.2 _ hP r1 ((sat_bind.mp hx).imp fun y hy u H2 g2' r2 hu => ?_)
  obtain ⟨d, hd, hq⟩ := sat_of (sat_bind.mp hy)
  refine hg H2 (z.L B P) z.pls v u x.1 y.1 d _ (fun p hp => r2.fresh hp) (hv.grow g2') hu hd fun w H3 e3' hw => ?_
  cases d with
  | bl k =>
    cases hw
    refine ⟨k, rfl, ?_⟩
    cases k with
    | true =>
      rw [if_pos rfl]
      have hq : Sat (h ρ y.2 >>= fun w => R.of (g3 y.1 w.1) >>= fun d' => R.ok (d', w.2)) (fun r => ∀ v H', Grow z H H' → Rel z B P σ H' ρ r.2 → Rp z.K z.ca (Frz H' (z.L B P)) v r.1 → Q v H') EX := hq
      refine e3 B P σ H3 ρ y.2 _ hP (r2.grow e3') ((sat_bind.mp hq).imp fun w hw w' H4 g4 r4 hw' => ?_)
      obtain ⟨d', hd', hq'⟩ := sat_of (sat_bind.mp hw)
      exact hg' H4 (z.L B P) z.pls u w' y.1 w.1 d' Q (fun p hp => r4.fresh hp) ((hu.grow (Grow.of e3')).grow g4) hw' hd' fun w5 H5 e5 hw5 =>
        hq' w5 H5 (((g1.trans g2').trans (Grow.of e3')).trans (g4.trans (Grow.of e5))) (r4.grow e5) hw5
    | false =>
      rw [if_neg Bool.false_ne_true]
      exact hq _ H3 ((g1.trans g2').trans (Grow.of e3')) (r2.grow e3') (.bl false)
  | _ => exact hq.elim
/-! ### tests -/
def EvT (z : Z) (O : List Nat) (EX : EXT) (t : TT) (f : FT) : Prop :=
  ∀ B P σ H ρ S Q, P.map (·.1) = O → Rel z B P σ H ρ S →
    Sat (f ρ S) (fun r => ∀ H', Grow z H H' → Rel z B P σ H' ρ r.2 → Q r.1 H') EX → t σ H Q
structure PTd (X : Cx) (z : Z) (O : List Nat) (EX : EXT) (e : Expr) (f : FT) : Prop where
  ex : ∃ t, PT X e t ∧ EvT z O EX t f
structure PWd (X : Cx) (z : Z) (O : List Nat) (EX : EXT) (e : Expr) (f : FT) : Prop where
  ex : ∃ t, PW X e t ∧ EvT z O EX t f
theorem PWd.pt {f : FT} (h : PWd X z O EX e f) : PTd X z O EX e f := by
  obtain ⟨t, p, q⟩ := h.ex
  exact ⟨t, p.pt, q⟩
/-- a value's truth -/
def truD : D → Option Bool
  | .non => some false
  | .bl b => some b
  | .int i => some (i != 0)
  | .str y => if y.length ≤ LINE then some ((y.length : Int) != 0) else none
  | .tup xs => some (!xs.isEmpty)
  | .lst xs => some (!xs.isEmpty)
  | .scr xs => some (!xs.isEmpty)
  | .dic ks _ => some (!ks.isEmpty)
  | .ins _ _ _ => none
  | .cls _ => none
  | .exn _ _ _ => none
theorem RpA.isEmpty {K : PySem.W.Frag} {ca : Str → Option Addr} {F : Hp} {xs : List V} {ds : List D} (r : RpA K ca F xs ds) : xs.isEmpty = ds.isEmpty := by cases r <;> rfl
theorem tru_rp {K : PySem.W.Frag} {ca : Str → Option Addr} {H : Hp} {v : V} {d : D} {k : Bool} (h : Rp K ca H v d) (e : truD d = some k) : TruV K v H k := by
  cases h with
  | non => cases e; rfl
  | bl b => cases e; rfl
  | int i => cases e; rfl
  | str x =>
    simp only [truD] at e
    split at e
    · rename_i w
      cases e
      exact ⟨line_le w, rfl⟩
    · cases e
  | tup h r => cases e; exact .inr (.inl ⟨_, h, by rw [r.isEmpty]⟩)
  | lst h r => cases e; exact .inl ⟨_, SqL.of h, by rw [r.isEmpty]⟩
  | scr h => cases e; exact .inl ⟨_, h, by simp⟩
  | dic h r => cases e; exact .inr (.inr ⟨_, h, by simp⟩)
  | ins h c r => cases e
  | cls h => cases e
  | exn0 _ _ => cases e
  | exnD _ _ _ _ => cases e
def tst (f : FE) : FT := fun ρ S => f ρ S >>= fun x => R.of (truD x.1) >>= fun k => R.ok (k, x.2)
/-- the truth of a value of any kind -/
theorem pt_tru (hK : X.K = z.K) (ha : PB X z O EX a f) (he : ∀ whole, isTrue a X.env whole = (do let v ← whole; standAt a.pos; holding [v] (truthy v)) := by intro _; rfl) : PTd X z O EX a (tst f) := by
  obtain ⟨ta, p1, e1⟩ := ha.ex
  refine ⟨_, pt_truth p1 he, fun B P σ H ρ S Q hP rr hs => ?_⟩
  refine e1 B P σ H ρ S _ hP rr ((sat_bind.mp hs).imp fun x hx v H1 g1 r1 hv => ?_)
  obtain ⟨d, hd, hq⟩ := sat_of (sat_bind.mp hx)
  exact ⟨d, hK ▸ tru_rp hv.rp hd, hq H1 g1 r1⟩
def tstB (f : FE) : FT := fun ρ S => f ρ S >>= fun x => match x.1 with
  | .bl k => R.ok (k, x.2)
  | _ => R.bad
theorem evT_test {t : TE} (e1 : EvE z O EX t f) : EvT z O EX (tTest t) (tstB f) := fun B P σ H ρ S Q hP rr hs => by
  refine e1 B P σ H ρ S _ hP rr ((sat_bind.mp hs).imp fun x hx v H1 g1 r1 hv => ?_)
  obtain ⟨x1, x2⟩ := x
  cases x1 with
  | bl k => cases hv; exact ⟨k, rfl, hx H1 g1 r1⟩
  | _ => exact hx.elim
/-- one comparison as a test -/
theorem pt_cmp1 {op : CmpOp} {r : R2} {g2 : D → D → Option D} (ho : OpR X (compareOp op) r) (hg : Op2 z.K z.ca r g2) (ha : PB X z O EX a f) (hb : PB X z O EX b g) (hm : behindInMarks op b = false) : PTd X z O EX (.Compare a [op] [b] pos) (tstB (bin2 g2 f g)) := by
  obtain ⟨ta, p1, e1⟩ := ha.ex
  obtain ⟨tb, p2, e2⟩ := hb.ex
  exact ⟨_, pt_cmpR ho p1 p2 hm, evT_test (ev_bin e1 e2 hg)⟩
theorem pt_lt (ha : PB X z O EX a f) (hb : PB X z O EX b g) : PTd X z O EX (.Compare a [.Lt] [b] pos) (tstB (bin2 ltD f g)) := pt_cmp1 op_lt op2_lt ha hb (nomark _)
theorem pt_gt (ha : PB X z O EX a f) (hb : PB X z O EX b g) : PTd X z O EX (.Compare a [.Gt] [b] pos) (tstB (bin2 gtD f g)) := pt_cmp1 op_gt op2_gt ha hb (nomark _)
theorem pt_ge (ha : PB X z O EX a f) (hb : PB X z O EX b g) : PTd X z O EX (.Compare a [.GtE] [b] pos) (tstB (bin2 geD f g)) := pt_cmp1 op_ge op2_ge ha hb (nomark _)
theorem pt_eq (hK : X.K = z.K) (hu : X.A.units + 64 < cLine) (ha : PB X z O EX a f) (hb : PB X z O EX b g) : PTd X z O EX (.Compare a [.Eq] [b] pos) (tstB (bin2 eqD f g)) := pt_cmp1 (hK ▸ op_eqD hu) op2_eq ha hb (nomark _)
theorem pt_ne (hK : X.K = z.K) (hu : X.A.units + 64 < cLine) (ha : PB X z O EX a f) (hb : PB X z O EX b g) : PTd X z O EX (.Compare a [.NotEq] [b] pos) (tstB (bin2 neD f g)) := pt_cmp1 (hK ▸ op_neD hu) op2_ne ha hb (nomark _)
theorem pt_chain1 {op op' : CmpOp} {r r' : R2} {g2 g3 : D → D → Option D} (ho : OpR X (compareOp op) r) (ho' : OpR X (compareOp op') r') (hg : Op2 z.K z.ca r g2) (hg' : Op2 z.K z.ca r' g3)
    (ha : PB X z O EX a f) (hb : PB X z O EX b g) (hc : PB X z O EX c h) (hm : lastMarks [op, op'] [b, c] = false := by with_unfolding_all rfl) : PTd X z O EX (.Compare a [op, op'] [b, c] pos) (tstB (chn g2 g3 f g h)) := by
  obtain ⟨ta, p1, e1⟩ := ha.ex
  obtain ⟨tb, p2, e2⟩ := hb.ex
  obtain ⟨tc, p3, e3⟩ := hc.ex
  refine ⟨_, pt_chain ho ho' p1 p2 p3 hm, evT_test (f := chn g2 g3 f g h) fun B P σ H ρ S Q hP rr hs => ?_⟩
  refine e1 B P σ H ρ S _ hP rr ((sat_bind.mp hs).imp fun x hx v H1 g1 r1 hv => ?_)
  refine e2 B P σ H1 ρ x.2 _ hP r1 ((sat_bind.mp hx).imp fun y hy u H2 g2' r2 hu => ?_)
  obtain ⟨d, hd, hq⟩ := sat_of (sat_bind.mp hy)
  refine hg H2 (z.L B P) z.pls v u x.1 y.1 d _ (fun p hp => r2.fresh hp) (hv.grow g2') hu hd fun w H3 e3' hw => ?_
  cases d with
  | bl k =>
    cases hw
    refine ⟨k, rfl, ?_⟩
    cases k with
    | true =>
      rw [if_pos rfl]
      have hq : Sat (h ρ y.2 >>= fun w => R.of (g3 y.1 w.1) >>= fun d' => R.ok (d', w.2)) (fun r => ∀ v H', Grow z H H' → Rel z B P σ H' ρ r.2 → Rp z.K z.ca (Frz H' (z.L B P)) v r.1 → Q v H') EX := hq
      refine e3 B P σ H3 ρ y.2 _ hP (r2.grow e3') ((sat_bind.mp hq).imp fun w hw w' H4 g4 r4 hw' => ?_)
      obtain ⟨d', hd', hq'⟩ := sat_of (sat_bind.mp hw)
      exact hg' H4 (z.L B P) z.pls u w' y.1 w.1 d' Q (fun p hp => r4.fresh hp) ((hu.grow (Grow.of e3')).grow g4) hw' hd' fun w5 H5 e5 hw5 =>
        hq' w5 H5 (((g1.trans g2').trans (Grow.of e3')).trans (g4.trans (Grow.of e5))) (r4.grow e5) hw5
    | false =>
      rw [if_neg Bool.false_ne_true]
      exact hq _ H3 ((g1.trans g2').trans (Grow.of e3')) (r2.grow e3') (.bl false)
  | _ => exact hq.elim
/-- and, or, not as tests -/
def andT (f g : FT) : FT := fun ρ S => f ρ S >>= fun x => if x.1 then g ρ x.2 else R.ok (false, x.2)
def orT (f g : FT) : FT := fun ρ S => f ρ S >>= fun x => if x.1 then R.ok (true, x.2) else g ρ x.2
def notT (f : FT) : FT := fun ρ S => f ρ S >>= fun x => R.ok (!x.1, x.2)
variable {ft gt : FT} {rest : List Expr}
theorem ptw_or1 (ha : PTd X z O EX a ft) : PWd X z O EX (.BoolOp .Or [a] pos) ft := by
  obtain ⟨t, p, q⟩ := ha.ex
  exact ⟨t, pw_or1 p, q⟩
theorem ptw_or (ha : PTd X z O EX a ft) (hb : PWd X z O EX (.BoolOp .Or (b :: rest) pos) gt) : PWd X z O EX (.BoolOp .Or (a :: b :: rest) pos) (orT ft gt) := by
  obtain ⟨t, p, q⟩ := ha.ex
  obtain ⟨u, p2, q2⟩ := hb.ex
  refine ⟨_, pw_or p p2, fun B P σ H ρ S Q hP rr hs => ?_⟩
  refine q B P σ H ρ S _ hP rr ((sat_bind.mp hs).imp fun x hx H1 g1 r1 => ?_)
  obtain ⟨k, S1⟩ := x
  cases k with
  | false =>
    rw [if_neg Bool.false_ne_true]
    have hx : Sat (gt ρ S1) _ EX := hx
    exact q2 B P σ H1 ρ S1 Q hP r1 (hx.imp fun y hy H' g' r' => hy H' (g1.trans g') r')
  | true =>
    rw [if_pos rfl]
    exact hx H1 g1 r1
theorem ptd_not (ha : PTd X z O EX a ft) : PTd X z O EX (.UnaryOp .Not a pos) (notT ft) := by
  obtain ⟨t, p, q⟩ := ha.ex
  refine ⟨_, pt_not p, fun B P σ H ρ S Q hP rr hs => ?_⟩
  exact q B P σ H ρ S _ hP rr ((sat_bind.mp hs).imp fun x hx H1 g1 r1 => hx H1 g1 r1)
/-- and, or, not as values -/
def andV (f g : FE) : FE := fun ρ S => f ρ S >>= fun x => R.of (truD x.1) >>= fun k => if k then g ρ x.2 else R.ok x
def orV (f g : FE) : FE := fun ρ S => f ρ S >>= fun x => R.of (truD x.1) >>= fun k => if k then R.ok x else g ρ x.2
def notV (f : FE) : FE := fun ρ S => f ρ S >>= fun x => R.of (truD x.1) >>= fun k => R.ok (.bl (!k), x.2)
theorem pd_one {op} (ha : PD X z O EX a f) : PD X z O EX (.BoolOp op [a] pos) f := by
  obtain ⟨t, p, q⟩ := ha.ex
  exact ⟨t, pe_one p, q⟩
theorem pd_and (hK : X.K = z.K) (ha : PD X z O EX a f) (hb : PD X z O EX (.BoolOp .And (b :: rest) pos) g) : PD X z O EX (.BoolOp .And (a :: b :: rest) pos) (andV f g) := by
  obtain ⟨t, p, q⟩ := ha.ex
  obtain ⟨u, p2, q2⟩ := hb.ex
  refine ⟨_, pe_andT p p2, fun B P σ H ρ S Q hP rr hs => ?_⟩
  refine q B P σ H ρ S _ hP rr ((sat_bind.mp hs).imp fun x hx v H1 g1 r1 hv => ?_)
  obtain ⟨k, hd, hq⟩ := sat_of (sat_bind.mp hx)
  refine ⟨k, hK ▸ tru_rp (hv.mono (frz_ex _ _)) hd, ?_⟩
  cases k with
  | true =>
    rw [if_pos rfl]
    have hq : Sat (g ρ x.2) _ EX := hq
    exact q2 B P σ H1 ρ x.2 Q hP r1 (hq.imp fun y hy v' H' g' r' hv' => hy v' H' (g1.trans g') r' hv')
  | false =>
    rw [if_neg Bool.false_ne_true]
    exact hq v H1 g1 r1 hv
theorem pd_not (hK : X.K = z.K) (ha : PB X z O EX a f) : PD X z O EX (.UnaryOp .Not a pos) (notV f) := by
  obtain ⟨t, p, q⟩ := ha.ex
  refine ⟨_, pe_notT p, fun B P σ H ρ S Q hP rr hs => ?_⟩
  refine q B P σ H ρ S _ hP rr ((sat_bind.mp hs).imp fun x hx v H1 g1 r1 hv => ?_)
  obtain ⟨k, hd, hq⟩ := sat_of (sat_bind.mp hx)
  exact ⟨k, hK ▸ tru_rp hv.rp hd, hq _ H1 g1 r1 (.bl _)⟩
/-- a if t else b -/
def ifE (t : FT) (f g : FE) : FE := fun ρ S => t ρ S >>= fun x => if x.1 then f ρ x.2 else g ρ x.2
theorem pd_ifE (hc : PTd X z O EX c ft) (ha : PD X z O EX a f) (hb : PD X z O EX b g) : PD X z O EX (.IfExp c a b pos) (ifE ft f g) := by
  obtain ⟨t, p, q⟩ := hc.ex
  obtain ⟨ta, p1, q1⟩ := ha.ex
  obtain ⟨tb, p2, q2⟩ := hb.ex
  refine ⟨_, pe_ifExp p p1 p2, fun B P σ H ρ S Q hP rr hs => ?_⟩
  refine q B P σ H ρ S _ hP rr ((sat_bind.mp hs).imp fun x hx H1 g1 r1 => ?_)
  obtain ⟨k, S1⟩ := x
  cases k with
  | true =>
    rw [if_pos rfl]
    have hx : Sat (f ρ S1) _ EX := hx
    exact q1 B P σ H1 ρ S1 Q hP r1 (hx.imp fun y hy v' H' g' r' hv' => hy v' H' (g1.trans g') r' hv')
  | false =>
    rw [if_neg Bool.false_ne_true]
    have hx : Sat (g ρ S1) _ EX := hx
    exact q2 B P σ H1 ρ S1 Q hP r1 (hx.imp fun y hy v' H' g' r' hv' => hy v' H' (g1.trans g') r' hv')
/-! ### lists of arguments, displays -/
def EvA (z : Z) (O : List Nat) (EX : EXT) (t : TA) (f : FA) : Prop :=
  ∀ B P σ H ρ S Q, P.map (·.1) = O → Rel z B P σ H ρ S →
    Sat (f ρ S) (fun r => ∀ vs H', Grow z H H' → Rel z B P σ H' ρ r.2 → RpA z.K z.ca (Frz H' (z.L B P)) vs r.1 → Q vs H') EX → t σ H Q
structure PAd (X : Cx) (z : Z) (O : List Nat) (EX : EXT) (es : List Expr) (f : FA) : Prop where
  ex : ∃ t, PA X es t ∧ EvA z O EX t f
def consA (f : FE) (g : FA) : FA := fun ρ S => f ρ S >>= fun x => g ρ x.2 >>= fun y => R.ok (x.1 :: y.1, y.2)
def nilA : FA := fun _ S => R.ok ([], S)
variable {fa ga : FA}
theorem pad_nil : PAd X z O EX [] nilA := ⟨_, pa_nil, fun B P σ H ρ S Q hP rr hs => hs [] H Grow.refl rr .nil⟩
theorem pad_cons (ha : PD X z O EX e f) (hr : PAd X z O EX es fa) (hs : starEach (e :: es) X.env = (false, eval e X.env) :: starEach es X.env := by rfl) : PAd X z O EX (e :: es) (consA f fa) := by
  obtain ⟨t, p, q⟩ := ha.ex
  obtain ⟨u, p2, q2⟩ := hr.ex
  refine ⟨_, pa_cons p p2 hs, fun B P σ H ρ S Q hP rr hs => ?_⟩
  refine q B P σ H ρ S _ hP rr ((sat_bind.mp hs).imp fun x hx v H1 g1 r1 hv => ?_)
  refine q2 B P σ H1 ρ x.2 _ hP r1 ((sat_bind.mp hx).imp fun y hy vs H2 g2 r2 hvs => ?_)
  exact hy (v :: vs) H2 (g1.trans g2) r2 (.cons (hv.mono g2.frz) hvs)
def tupE (fa : FA) : FE := fun ρ S => fa ρ S >>= fun x => if x.1.length ≤ LINE then R.ok (.tup x.1, x.2) else R.bad
def lstE (fa : FA) : FE := fun ρ S => fa ρ S >>= fun x => if x.1.length ≤ LINE then R.ok (.lst x.1, x.2) else R.bad
theorem pd_tup {x1} (ha : PAd X z O EX es fa) : PD X z O EX (.Tuple es x1 pos) (tupE fa) := by
  obtain ⟨t, p, q⟩ := ha.ex
  refine ⟨_, pe_tup p, fun B P σ H ρ S Q hP rr hs => ?_⟩
  refine q B P σ H ρ S _ hP rr ((sat_bind.mp hs).imp fun x hx vs H1 g1 r1 hv => ?_)
  split at hx
  · rename_i w
    exact ⟨line_le (by rw [hv.length]; exact w), fun p hp => hx _ _ (g1.trans (Grow.of (Ex.new hp))) (r1.grow (Ex.new hp)) (new_tup hp (r1.fresh hp) hv)⟩
  · exact hx.elim
/-- {} -/
theorem pd_dic0 (hp : PE X (.Dict [] [] pos) (fun _ H Q => ∀ p, H p = none → Q (.ref p) (upd H p (.dK [])))) : PD X z O EX (.Dict [] [] pos) (fun _ S => R.ok (.dic [] [], S)) :=
  ⟨_, hp, fun B P σ H ρ S Q hP rr hs p hp => hs _ _ (Grow.of (Ex.new hp)) (rr.grow (Ex.new hp)) (.dic (kvs := []) (frz_new (rr.fresh hp)) .nil)⟩
/-! ### subscripts -/
theorem pd_idx (hK : X.K = z.K) (ha : PB X z O EX a f) (hb : PD X z O EX b g) (hx : PlainIx b := by exact fun _ _ => rfl) : PD X z O EX (.Subscript a b pos) (bin2 idxD f g) := by
  obtain ⟨ta, p1, e1⟩ := ha.ex
  obtain ⟨tb, p2, e2⟩ := hb.pb.ex
  exact ⟨_, pe_ix (hK ▸ ix_seq) p1 p2 hx, ev_bin e1 e2 op2_idx⟩
abbrev FO := Env → List D → R (Option Int × List D)
def EvO (z : Z) (O : List Nat) (EX : EXT) (t : TO) (f : FO) : Prop :=
  ∀ B P σ H ρ S Q, P.map (·.1) = O → Rel z B P σ H ρ S →
    Sat (f ρ S) (fun r => ∀ H', Grow z H H' → Rel z B P σ H' ρ r.2 → Q r.1 H') EX → t σ H Q
structure POd (X : Cx) (z : Z) (O : List Nat) (EX : EXT) (e : Option Expr) (f : FO) : Prop where
  ex : ∃ t, PO X e t ∧ EvO z O EX t f
def noneO : FO := fun _ S => R.ok (none, S)
def someO (f : FE) : FO := fun ρ S => f ρ S >>= fun x => match x.1 with
  | .int i => R.ok (some i, x.2)
  | _ => R.bad
theorem pod_none : POd X z O EX none noneO := ⟨_, po_none, fun B P σ H ρ S Q hP rr hs => hs H Grow.refl rr⟩
theorem pod_some (ha : PD X z O EX e f) : POd X z O EX (some e) (someO f) := by
  obtain ⟨t, p, q⟩ := ha.ex
  refine ⟨_, po_some p, fun B P σ H ρ S Q hP rr hs => ?_⟩
  refine q B P σ H ρ S _ hP rr ((sat_bind.mp hs).imp fun x hx v H1 g1 r1 hv => ?_)
  obtain ⟨x1, x2⟩ := x
  cases x1 with
  | int i => cases hv; exact ⟨i, rfl, hx H1 g1 r1⟩
  | _ => exact hx.elim
def slcE (f : FE) (l h : FO) : FE := fun ρ S => f ρ S >>= fun x => l ρ x.2 >>= fun lo => h ρ lo.2 >>= fun hi => R.of (slcD x.1 lo.1 hi.1) >>= fun d => R.ok (d, hi.2)
theorem pd_slc (hK : X.K = z.K) {lo hi : Option Expr} {l u : FO} {p2 : Pos} (ha : PB X z O EX e f) (hl : POd X z O EX lo l) (hu : POd X z O EX hi u) : PD X z O EX (.Subscript e (.Slice lo hi none p2) pos) (slcE f l u) := by
  obtain ⟨t, p, q⟩ := ha.ex
  obtain ⟨tl, pl, ql⟩ := hl.ex
  obtain ⟨tu, pu, qu⟩ := hu.ex
  refine ⟨_, pe_slice sl_D p pl pu, fun B P σ H ρ S Q hP rr hs => ?_⟩
  refine q B P σ H ρ S _ hP rr ((sat_bind.mp hs).imp fun x hx v H1 g1 r1 hv => ?_)
  refine ql B P σ H1 ρ x.2 _ hP r1 ((sat_bind.mp hx).imp fun y hy H2 g2 r2 => ?_)
  refine qu B P σ H2 ρ y.2 _ hP r2 ((sat_bind.mp hy).imp fun w hw H3 g3 r3 => ?_)
  obtain ⟨d, hd, hq⟩ := sat_of (sat_bind.mp hw)
  show rSlD X.K v y.1 w.1 H3 Q
  rw [hK]
  exact slc_ok (L := z.L B P) (N := z.pls) (fun p hp => r3.fresh hp) ((hv.grow g2).grow g3) hd fun v' H' e' hv' => hq v' H' ((g1.trans g2).trans (g3.trans (Grow.of e'))) (r3.grow e') hv'
/-! ### built-in functions and types -/
/-- arguments that may be owned lists -/
inductive RbA (K : PySem.W.Frag) (ca : Str → Option Addr) (H : Hp) (L N : List Addr) : List V → List D → Prop
  | nil : RbA K ca H L N [] []
  | cons {v : V} {vs : List V} {d : D} {ds : List D} : Rb K ca H L N v d → RbA K ca H L N vs ds → RbA K ca H L N (v :: vs) (d :: ds)
def EvBA (z : Z) (O : List Nat) (EX : EXT) (t : TA) (f : FA) : Prop :=
  ∀ B P σ H ρ S Q, P.map (·.1) = O → Rel z B P σ H ρ S →
    Sat (f ρ S) (fun r => ∀ vs H', Grow z H H' → Rel z B P σ H' ρ r.2 → RbA z.K z.ca H' (z.L B P) z.pls vs r.1 → Q vs H') EX → t σ H Q
structure PBA (X : Cx) (z : Z) (O : List Nat) (EX : EXT) (es : List Expr) (f : FA) : Prop where
  ex : ∃ t, PA X es t ∧ EvBA z O EX t f
theorem RbA.grow {B : List Addr} {P : List (Nat × Addr)} {H H' : Hp} (g : Grow z H H') : ∀ {vs : List V} {ds : List D}, RbA z.K z.ca H (z.L B P) z.pls vs ds → RbA z.K z.ca H' (z.L B P) z.pls vs ds
  | _, _, .nil => .nil
  | _, _, .cons h r => .cons (h.grow g) (RbA.grow g r)
theorem pba_nil : PBA X z O EX [] nilA := ⟨_, pa_nil, fun B P σ H ρ S Q hP rr hs => hs [] H Grow.refl rr .nil⟩
theorem pba_cons (ha : PB X z O EX e f) (hr : PBA X z O EX es fa) (hs : starEach (e :: es) X.env = (false, eval e X.env) :: starEach es X.env := by rfl) : PBA X z O EX (e :: es) (consA f fa) := by
  obtain ⟨t, p, q⟩ := ha.ex
  obtain ⟨u, p2, q2⟩ := hr.ex
  refine ⟨_, pa_cons p p2 hs, fun B P σ H ρ S Q hP rr hs => ?_⟩
  refine q B P σ H ρ S _ hP rr ((sat_bind.mp hs).imp fun x hx v H1 g1 r1 hv => ?_)
  refine q2 B P σ H1 ρ x.2 _ hP r1 ((sat_bind.mp hx).imp fun y hy vs H2 g2 r2 hvs => ?_)
  exact hy (v :: vs) H2 (g1.trans g2) r2 (.cons (hv.grow g2) hvs)
/-- a call's rule r answers as g does -/
def CallD (K : PySem.W.Frag) (ca : Str → Option Addr) (r : List V → Hp → VK → Prop) (g : List D → Option D) : Prop :=
  ∀ (H : Hp) (L N : List Addr) (vs : List V) (ds : List D) (d : D) (Q : VK), (∀ p, H p = none → p ∉ L) → RbA K ca H L N vs ds → g ds = some d →
    (∀ v H', Ex H H' → Rp K ca (Frz H' L) v d → Q v H') → r vs H Q
def callE (g : List D → Option D) (fa : FA) : FE := fun ρ S => fa ρ S >>= fun x => R.of (g x.1) >>= fun d => R.ok (d, x.2)
theorem ev_call {t : TA} {r : List V → Hp → VK → Prop} {g : List D → Option D} (q : EvBA z O EX t fa) (hg : CallD z.K z.ca r g) : EvE z O EX (tCB r t) (callE g fa) := by
  intro B P σ H ρ S Q hP rr hs
  refine q B P σ H ρ S _ hP rr ((sat_bind.mp hs).imp fun x hx vs H1 g1 r1 hv => ?_)
  obtain ⟨d, hd, hq⟩ := sat_of (sat_bind.mp hx)
  exact hg H1 (z.L B P) z.pls vs x.1 d Q (fun p hp => r1.fresh hp) hv hd fun v H' e' hv' => hq v H' (g1.trans (Grow.of e')) (r1.grow e') hv'
theorem pd_callB {id : String} {x : Str} {p : Pos} {r : List V → Hp → VK → Prop} {g : List D → Option D} (hc : CallR X (.builtin id) r) (hg' : CallD z.K z.ca r g) (hm : X.mg x = none) (ha : PBA X z O EX (e :: es) fa)
    (hg : Gl X x := by rfl) (hv : bootBuiltins x = some (.builtin id) := by decide +kernel) (hn : x ≠ "__name__" := by decide) (hdb : (x == ("__debug__" : Str)) = false := by decide)
    (he : starEach (e :: es) X.env = (false, eval e X.env) :: starEach es X.env := by rfl) (hpl : (backTo pos (starEach es X.env)).any (·.1) = false := by rfl) : PD X z O EX (.Call (.Name x p) (e :: es) [] pos) (callE g fa) := by
  obtain ⟨t, p1, q⟩ := ha.ex
  exact ⟨_, pe_callB hc hg hm hv p1 hn hdb he hpl, ev_call q hg'⟩
/-- a method of a built-in type, by values -/
def MthD (K : PySem.W.Frag) (ca : Str → Option Addr) (T : String) (r : V → List V → Hp → VK → Prop) (g : D → List D → Option D) : Prop :=
  ∀ (H : Hp) (L N : List Addr) (x : V) (dx : D) (vs : List V) (ds : List D) (d : D) (Q : VK), (∀ p, H p = none → p ∉ L) → Rb K ca H L N x dx → RbA K ca H L N vs ds → g dx ds = some d →
    (∀ v H', Ex H H' → Rp K ca (Frz H' L) v d → Q v H') → r x vs H Q
/-- whose type is told by its data -/
def kindD : String → D → Bool
  | "str", .str _ => true
  | "list", .lst _ => true
  | "list", .scr _ => true
  | _, _ => false
theorem kind_ty {K : PySem.W.Frag} {ca : Str → Option Addr} {H : Hp} {T : String} {v : V} {d : D} (h : Rp K ca H v d) (k : kindD T d = true) : tyV K T v H := by
  unfold kindD at k
  split at k
  · cases h; rfl
  · cases h with
    | lst h r => exact .inl ⟨rfl, _, SqL.of h⟩
  · cases h with
    | scr h => exact .inl ⟨rfl, _, h⟩
  · cases k
def mthE (T : String) (g : D → List D → Option D) (f : FE) (fa : FA) : FE := fun ρ S => f ρ S >>= fun x => if kindD T x.1 then fa ρ x.2 >>= fun y => R.of (g x.1 y.1) >>= fun d => R.ok (d, y.2) else R.bad
theorem pd_mth (hK : X.K = z.K) {o : Expr} {name : Str} {apos cpos : Pos} {T id : String} {r : V → List V → Hp → VK → Prop} {g : D → List D → Option D} (pa : PlainAttrs T) (slot : Slot T name id) (hty : typeOf (.builtin id) = pure (.type "method_descriptor"))
    (hm : MtR X id r) (hg : MthD z.K z.ca T r g) (ho : PB X z O EX o f) (ha : PBA X z O EX (e :: es) fa) (hbase : attributeBase o name X.env (eval o X.env) = eval o X.env := by rfl)
    (hfew : ((backTo cpos (starEach (e :: es) X.env)).all (fun x => !x.1) && (backToKw cpos (keywordEach [] X.env)).all (fun x => x.1.isSome)
      && decide ((e :: es).length + ([] : List Keyword).length + (if ([] : List Keyword).isEmpty then 0 else 1) < 30)) = true := by rfl)
    (hline : (apos.endLine == cpos.line) = true := by rfl) (hs : starEach (e :: es) X.env = (false, eval e X.env) :: starEach es X.env := by rfl) (hplain : (backTo cpos (starEach es X.env)).any (·.1) = false := by rfl) :
    PD X z O EX (.Call (.Attribute o name apos) (e :: es) [] cpos) (mthE T g f fa) := by
  obtain ⟨t, p, q⟩ := ho.ex
  obtain ⟨u, p2, q2⟩ := ha.ex
  refine ⟨_, pe_bm pa slot hty hm p p2 hbase hfew hline hs hplain, fun B P σ H ρ S Q hP rr hs => ?_⟩
  refine q B P σ H ρ S _ hP rr ((sat_bind.mp hs).imp fun x hx v H1 g1 r1 hv => ?_)
  split at hx
  · rename_i k
    refine ⟨hK ▸ kind_ty hv.rp k, ?_⟩
    refine q2 B P σ H1 ρ x.2 _ hP r1 ((sat_bind.mp hx).imp fun y hy vs H2 g2 r2 hvs => ?_)
    obtain ⟨d, hd, hq⟩ := sat_of (sat_bind.mp hy)
    exact hg H2 (z.L B P) z.pls v x.1 vs y.1 d Q (fun p hp => r2.fresh hp) (hv.grow g2) hvs hd fun v' H' e' hv' => hq v' H' ((g1.trans g2).trans (Grow.of e')) (r2.grow e') hv'
  · exact hx.elim
end
end PL
set_option Elab.async false
set_option linter.all false
set_option maxRecDepth 100000
set_option maxHeartbeats 4000000
namespace PL
open PySem PySem.Spec PyProof.Rows L2
/-! ### statements -/
inductive Ctl where
  | nx | bk | ct | rt (d : D)
abbrev FS := Env → List D → R (Ctl × Env × List D)
/-- a def's end: what it hands back, the in-out list behind it -/
structure Fin (z : Z) (B : List Addr) (H' : Hp) (S : List D) (v : V) (d : D) : Prop where
  val : Rp z.K z.ca (Frz H' (z.pls ++ B)) v d
  ex : ∀ a o, z.H0 a = some o → a ∉ z.pls → H' a = some o
  pool : ∀ i a, z.pl = some (i, a) → ∃ xs, H' a = some (z.sh xs) ∧ RpA z.K z.ca (Frz H' (z.pls ++ B)) xs S
  tabs : LamX.Tabs z.tb H'
/-- OI: what is owned ahead, OO: behind, OL: at a loop's next turn -/
def PostS (z : Z) (B : List Addr) (F : Hp) (OO OL : List Nat) (D' : Ends) (r : Ctl × Env × List D) : Prop :=
  match r.1 with
  | .nx => ∀ P' σ' H', P'.map (·.1) = OO → Ex F (Frz H' (z.L B P')) → Rel z B P' σ' H' r.2.1 r.2.2 → D'.nx σ' H'
  | .bk => ∀ P' σ' H', P'.map (·.1) = OL → Ex F (Frz H' (z.L B P')) → Rel z B P' σ' H' r.2.1 r.2.2 → D'.bk σ' H'
  | .ct => ∀ P' σ' H', P'.map (·.1) = OL → Ex F (Frz H' (z.L B P')) → Rel z B P' σ' H' r.2.1 r.2.2 → D'.ct σ' H'
  | .rt d => ∀ v H', Fin z B H' r.2.2 v d → D'.rt v H'
def EvS (z : Z) (OI OO OL : List Nat) (EX : EXT) (t : TS) (f : FS) : Prop :=
  ∀ B P σ H ρ S D', P.map (·.1) = OI → Rel z B P σ H ρ S → Sat (f ρ S) (PostS z B (Frz H (z.L B P)) OO OL D') EX → t D' σ H
structure PSd (X : Cx) (z : Z) (OI OO OL : List Nat) (EX : EXT) (s : Stmt) (f : FS) : Prop where
  ex : ∃ t, PS X s t ∧ EvS z OI OO OL EX t f
structure PSS (X : Cx) (z : Z) (OI OO OL : List Nat) (EX : EXT) (s : List Stmt) (f : FS) : Prop where
  ex : ∃ t, PSs X s t ∧ EvS z OI OO OL EX t f
def nxS : FS := fun ρ S => R.ok (.nx, ρ, S)
def seqS (f g : FS) : FS := fun ρ S => f ρ S >>= fun r => match r.1 with
  | .nx => g r.2.1 r.2.2
  | _ => R.ok r
section
variable {X : Cx} {z : Z} {O OI OM OO OL : List Nat} {EX : EXT} {a b c e : Expr} {es : List Expr} {f g h : FE} {fs gs : FS} {pos : Pos} {st : Stmt} {sts : List Stmt}
theorem PostS.mono {B : List Addr} {F F' : Hp} {D' : Ends} {r : Ctl × Env × List D} (h : PostS z B F OO OL D' r) (e : Ex F F') : PostS z B F' OO OL D' r := by
  obtain ⟨c, ρ, S⟩ := r
  cases c with
  | nx => exact fun P' σ' H' h1 h2 h3 => h P' σ' H' h1 (e.trans h2) h3
  | bk => exact fun P' σ' H' h1 h2 h3 => h P' σ' H' h1 (e.trans h2) h3
  | ct => exact fun P' σ' H' h1 h2 h3 => h P' σ' H' h1 (e.trans h2) h3
  | rt d => exact h
theorem pss_nilD : PSS X z O O OL EX [] nxS := ⟨_, pss_nil, fun B P σ H ρ S D' hP rr hs => hs P σ H hP (Ex.refl _) rr⟩
theorem pss_consD (h1 : PSd X z OI OM OL EX st fs) (h2 : PSS X z OM OO OL EX sts gs) : PSS X z OI OO OL EX (st :: sts) (seqS fs gs) := by
  obtain ⟨t, p, q⟩ := h1.ex
  obtain ⟨u, p2, q2⟩ := h2.ex
  refine ⟨_, pss_cons p p2, fun B P σ H ρ S D' hP rr hs => ?_⟩
  refine q B P σ H ρ S _ hP rr ((sat_bind.mp hs).imp fun r hr => ?_)
  obtain ⟨c, ρ1, S1⟩ := r
  cases c with
  | nx =>
    intro P' σ' H' h1 h2 h3
    exact q2 B P' σ' H' ρ1 S1 D' h1 h3 (Sat.imp hr fun _ w => w.mono h2)
  | bk => exact fun P' σ' H' h1 h2 h3 => hr P' σ' H' h1 h2 h3
  | ct => exact fun P' σ' H' h1 h2 h3 => hr P' σ' H' h1 h2 h3
  | rt d => exact fun v H' hf => hr v H' hf
theorem pss_oneD (h1 : PSd X z OI OO OL EX st fs) : PSS X z OI OO OL EX [st] fs := by
  obtain ⟨t, p, q⟩ := h1.ex
  exact ⟨t, pss_one p, q⟩
/-- the in-out list's place is not this one, nor is it kept -/
def NotPl (z : Z) (i : Nat) : Prop := (∀ j a, z.pl = some (j, a) → j ≠ i) ∧ i ∉ z.kp
/-- an owned list is owned no longer -/
theorem Rel.drop {B : List Addr} {P : List (Nat × Addr)} {σ : L2.St} {H : Hp} {ρ : Env} {S : List D} (r : Rel z B P σ H ρ S) (k : Nat) : Rel z B (P.filter (·.1 != k)) σ H ρ S ∧ Ex (Frz H (z.L B P)) (Frz H (z.L B (P.filter (·.1 != k)))) := by
  have sub : ∀ a ∈ z.L B (P.filter (·.1 != k)), a ∈ z.L B P := fun a ha => by
    unfold Z.L at ha ⊢
    rcases List.mem_append.mp ha with h | h
    · obtain ⟨p, hp, rfl⟩ := List.mem_map.mp h
      exact List.mem_append_left _ (List.mem_map_of_mem (List.mem_filter.mp hp).1)
    · exact List.mem_append_right _ h
  have mono := frz_sub (H := H) sub
  refine ⟨⟨fun i d n e => ?_, fun p hp => ?_, fun i a e => ?_, ?_, r.there, r.ex, fun p hp => r.new p (List.mem_filter.mp hp).1, r.len, r.tabs, r.xt⟩, mono⟩
  · by_cases hk : ∃ p ∈ P, p.1 = i
    · obtain ⟨p, hp, rfl⟩ := hk
      obtain ⟨e1, xs, ds, e2, e3, q⟩ := r.own p hp
      rw [e] at e3
      cases e3
      have hn : p.1 = k := by
        by_cases z1 : p.1 = k
        · exact z1
        · exact absurd rfl (n p (List.mem_filter.mpr ⟨hp, by simp [z1]⟩))
      refine ⟨_, e1, .lst (frz_of e2 fun q => ?_) (q.mono mono)⟩
      have nd := r.nd
      unfold Z.L at nd q
      have nd' := List.nodup_append.mp nd
      rcases List.mem_append.mp q with q | q
      · obtain ⟨p', hp', e'⟩ := List.mem_map.mp q
        have hp'2 := List.mem_filter.mp hp'
        -- two entries of one address
        have inj : ∀ (l : List (Nat × Addr)), (l.map (·.2)).Nodup → ∀ x ∈ l, ∀ y ∈ l, x.2 = y.2 → x = y := by
          intro l
          induction l with
          | nil => intro _ x hx; cases hx
          | cons u l ih =>
            intro hl x hx y hy exy
            rw [List.map_cons, List.nodup_cons] at hl
            rcases List.mem_cons.mp hx with e1 | hx'
            · rcases List.mem_cons.mp hy with e2 | hy'
              · rw [e1, e2]
              · exact absurd (by rw [← e1, exy]; exact List.mem_map_of_mem hy') hl.1
            · rcases List.mem_cons.mp hy with e2 | hy'
              · exact absurd (by rw [← e2, ← exy]; exact List.mem_map_of_mem hx') hl.1
              · exact ih hl.2 x hx' y hy' exy
        have e3 := inj P nd'.1 p' hp'2.1 p hp e'
        rw [e3, hn] at hp'2
        simp at hp'2
      · exact nd'.2.2 p.2 (List.mem_map_of_mem hp) p.2 q rfl
    · obtain ⟨v, e1, q⟩ := r.val i d (fun p hp q => hk ⟨p, hp, q⟩) e
      exact ⟨v, e1, q.mono mono⟩
  · obtain ⟨e1, xs, ds, e2, e3, q⟩ := r.own p (List.mem_filter.mp hp).1
    exact ⟨e1, xs, ds, e2, e3, q.mono mono⟩
  · obtain ⟨e1, e0, xs, e2, q⟩ := r.pool i a e
    exact ⟨e1, e0, xs, e2, q.mono mono⟩
  · have nd := r.nd
    unfold Z.L at nd ⊢
    refine List.Nodup.sublist ?_ nd
    exact List.Sublist.append ((List.filter_sublist).map _) (List.Sublist.refl _)
theorem map_drop (P : List (Nat × Addr)) (k : Nat) : (P.filter (·.1 != k)).map (·.1) = (P.map (·.1)).filter (· != k) := by
  induction P with
  | nil => rfl
  | cons p P ih =>
    rw [List.map_cons, List.filter_cons, List.filter_cons]
    by_cases h : p.1 != k
    · rw [if_pos h, if_pos h, List.map_cons, ih]
    · rw [if_neg h, if_neg h, ih]
theorem EvS.frz {t : TS} (k : Nat) (q : EvS z OM OO OL EX t fs) (hO : OI.filter (· != k) = OM) : EvS z OI OO OL EX t fs := fun B P σ H ρ S D' hP rr hs => by
  obtain ⟨r1, m⟩ := rr.drop k
  exact q B _ σ H ρ S D' (by rw [map_drop, hP, hO]) r1 (hs.imp fun _ w => w.mono m)
/-! ### small statements -/
def bkS : FS := fun ρ S => R.ok (.bk, ρ, S)
def ctS : FS := fun ρ S => R.ok (.ct, ρ, S)
/-- what is never come to -/
def badS : FS := fun _ _ => R.bad
theorem psd_never : PSd X z OI OO OL EX st badS := ⟨_, ps_never, fun B P σ H ρ S D' hP rr hs => hs.elim⟩
def retS (f : FE) : FS := fun ρ S => f ρ S >>= fun x => R.ok (.rt x.1, ρ, x.2)
theorem Rel.fin {B : List Addr} {P : List (Nat × Addr)} {σ : L2.St} {H : Hp} {ρ : Env} {S : List D} {v : V} {d : D} (r : Rel z B P σ H ρ S) (hv : Rp z.K z.ca (Frz H (z.L B P)) v d) : Fin z B H S v d := by
  have sub : Ex (Frz H (z.L B P)) (Frz H (z.pls ++ B)) := frz_sub fun a ha => by
    unfold Z.L
    exact List.mem_append_right _ ha
  refine ⟨hv.mono sub, r.ex, fun i a e => ?_, r.tabs⟩
  obtain ⟨_, _, xs, e2, q⟩ := r.pool i a e
  exact ⟨xs, e2, q.mono sub⟩
theorem psd_ret (ha : PD X z O EX e f) : PSd X z O OO OL EX (.Return (some e) pos) (retS f) := by
  obtain ⟨t, p, q⟩ := ha.ex
  refine ⟨_, ps_ret p, fun B P σ H ρ S D' hP rr hs => ?_⟩
  refine q B P σ H ρ S _ hP rr ((sat_bind.mp hs).imp fun x hx v H1 g1 r1 hv => ?_)
  exact hx v H1 (r1.fin hv)
def exprS (f : FE) : FS := fun ρ S => f ρ S >>= fun x => R.ok (.nx, ρ, x.2)
theorem psd_expr (ha : PD X z O EX e f) (hs : swapsWith e none pos.line X.env = pure false := by rfl) : PSd X z O O OL EX (.Expr e pos) (exprS f) := by
  obtain ⟨t, p, q⟩ := ha.ex
  refine ⟨_, ps_expr p hs, fun B P σ H ρ S D' hP rr hs => ?_⟩
  refine q B P σ H ρ S _ hP rr ((sat_bind.mp hs).imp fun x hx v H1 g1 r1 hv => ?_)
  exact hx P σ H1 hP g1.frz r1
def ifS (c : FT) (f g : FS) : FS := fun ρ S => c ρ S >>= fun x => if x.1 then f ρ x.2 else g ρ x.2
variable {ft : FT}
theorem psd_if {xs ys : List Stmt} (hc : PTd X z OI EX c ft) (ha : PSS X z OI OO OL EX xs fs) (hb : PSS X z OI OO OL EX ys gs) : PSd X z OI OO OL EX (.If c xs ys pos) (ifS ft fs gs) := by
  obtain ⟨t, p, q⟩ := hc.ex
  obtain ⟨ta, p1, q1⟩ := ha.ex
  obtain ⟨tb, p2, q2⟩ := hb.ex
  refine ⟨_, ps_if p p1 p2, fun B P σ H ρ S D' hP rr hs => ?_⟩
  refine q B P σ H ρ S _ hP rr ((sat_bind.mp hs).imp fun x hx H1 g1 r1 => ?_)
  obtain ⟨k, S1⟩ := x
  cases k with
  | true =>
    rw [if_pos rfl]
    have hx : Sat (fs ρ S1) _ EX := hx
    exact q1 B P σ H1 ρ S1 D' hP r1 (hx.imp fun _ w => w.mono g1.frz)
  | false =>
    rw [if_neg Bool.false_ne_true]
    have hx : Sat (gs ρ S1) _ EX := hx
    exact q2 B P σ H1 ρ S1 D' hP r1 (hx.imp fun _ w => w.mono g1.frz)
/-! ### targets -/
abbrev FG := D → Env → List D → R (Env × List D)
/-- ts: the places that are stored to -/
def EvG (z : Z) (O : List Nat) (EX : EXT) (ts : List Nat) (t : TG) (g : FG) : Prop :=
  ∀ B P σ H ρ S v d Q, P.map (·.1) = O → Rel z B P σ H ρ S → Rp z.K z.ca (Frz H (z.L B P)) v d →
    Sat (g d ρ S) (fun r => ∀ σ' H', Grow z H H' → Rel z B P σ' H' r.1 r.2 → σ'.length = σ.length → (∀ i, i ∉ ts → σ'[i]? = σ[i]?) → Q σ' H') EX → t v σ H Q
structure PGd (X : Cx) (z : Z) (O : List Nat) (EX : EXT) (ts : List Nat) (tg : Expr) (g : FG) : Prop where
  ex : ∃ t, PG X tg t ∧ EvG z O EX ts t g
/-- a place that is not owned is stored to -/
theorem Rel.set {B : List Addr} {P : List (Nat × Addr)} {σ : L2.St} {H : Hp} {ρ : Env} {S : List D} (r : Rel z B P σ H ρ S) {i : Nat} {v : V} {d : D} (hv : Rp z.K z.ca (Frz H (z.L B P)) v d) (hi : ∀ p ∈ P, p.1 ≠ i) (hz : NotPl z i) (hl : i < ρ.length) :
    Rel z B P (σ.set i (some v)) H (ρ.set i (some d)) S where
  val := fun j e n h => by
    by_cases hj : j = i
    · subst hj
      rw [List.getElem?_set_self hl] at h
      cases h
      exact ⟨v, by rw [List.getElem?_set_self (by rw [r.len]; exact hl)], hv⟩
    · rw [List.getElem?_set_ne (Ne.symm hj)] at h
      rw [List.getElem?_set_ne (Ne.symm hj)]
      exact r.val j e n h
  own := fun p hp => by
    obtain ⟨e1, xs, ds, e2, e3, q⟩ := r.own p hp
    have n := Ne.symm (hi p hp)
    exact ⟨by rw [List.getElem?_set_ne n]; exact e1, xs, ds, e2, by rw [List.getElem?_set_ne n]; exact e3, q⟩
  pool := fun j a h => by
    obtain ⟨e1, e0, xs, e2, q⟩ := r.pool j a h
    have n := Ne.symm (hz.1 j a h)
    exact ⟨by rw [List.getElem?_set_ne n]; exact e1, by rw [List.getElem?_set_ne n]; exact e0, xs, e2, q⟩
  nd := r.nd
  there := r.there
  ex := r.ex
  new := r.new
  len := by rw [List.length_set, List.length_set]; exact r.len
  tabs := r.tabs
  xt := ⟨r.xt.1, fun j hj => by rw [List.getElem?_set_ne fun e => hz.2 (by rw [e]; exact hj)]; exact r.xt.2 j hj⟩
def setE (ρ : Env) (i : Nat) (d : D) : R Env := if i < ρ.length then R.ok (ρ.set i (some d)) else R.bad
def nmG (i : Nat) : FG := fun d ρ S => setE ρ i d >>= fun ρ1 => R.ok (ρ1, S)
theorem sat_set {ρ : Env} {i : Nat} {d : D} {Q : Env → Prop} {EX : EXT} (h : Sat (setE ρ i d) Q EX) : i < ρ.length ∧ Q (ρ.set i (some d)) := by
  unfold setE at h
  split at h
  · rename_i w
    exact ⟨w, h⟩
  · exact h.elim
theorem own_ne {P : List (Nat × Addr)} {O : List Nat} {i : Nat} (hP : P.map (·.1) = O) (hi : O.all (· != i) = true) : ∀ p ∈ P, p.1 ≠ i := fun p hp q => by
  have hm : p.1 ∈ O := by rw [← hP]; exact List.mem_map_of_mem hp
  have := List.all_eq_true.mp hi p.1 hm
  rw [q] at this
  simp at this
theorem pgd_name (i : Nat) (hN : X.N.Nodup) (hz : NotPl z i) (hi : O.all (· != i) = true := by rfl) {x : Str} (hx : X.N[i]? = some x := by rfl) (hl : Loc X.env.scope x := by first | exact Or.inl rfl | exact Or.inr rfl)
    (hf : X.fn x = true ∨ X.env.scope.names.lookup x = some .local := by first | exact .inl rfl | exact .inr rfl) : PGd X z O EX [i] (.Name x pos) (nmG i) := by
  refine ⟨_, pg_name hN hx hl hf, fun B P σ H ρ S v d Q hP rr hv hs => ?_⟩
  obtain ⟨w, hq⟩ := sat_set (sat_bind.mp hs)
  exact hq _ H Grow.refl (rr.set hv (own_ne hP hi) hz w) (List.length_set) fun j hj => List.getElem?_set_ne fun e => hj (by simp [e])
abbrev FGs := List D → Env → List D → R (Env × List D)
def EvGs (z : Z) (O : List Nat) (EX : EXT) (ts : List Nat) (t : TGs) (g : FGs) : Prop :=
  ∀ B P σ H ρ S vs ds Q, P.map (·.1) = O → Rel z B P σ H ρ S → RpA z.K z.ca (Frz H (z.L B P)) vs ds →
    Sat (g ds ρ S) (fun r => ∀ σ' H', Grow z H H' → Rel z B P σ' H' r.1 r.2 → σ'.length = σ.length → (∀ i, i ∉ ts → σ'[i]? = σ[i]?) → Q σ' H') EX → t vs σ H Q
structure PGSd (X : Cx) (z : Z) (O : List Nat) (EX : EXT) (ts : List Nat) (tgs : List Expr) (g : FGs) : Prop where
  ex : ∃ t, PGs X tgs t ∧ EvGs z O EX ts t g
def nilG : FGs := fun ds ρ S => match ds with | [] => R.ok (ρ, S) | _ => R.bad
def consG (g : FG) (h : FGs) : FGs := fun ds ρ S => match ds with | [] => R.bad | d :: r => g d ρ S >>= fun ρ1 => h r ρ1.1 ρ1.2
theorem pgsd_nil : PGSd X z O EX [] [] nilG := ⟨_, pgs_nil, fun B P σ H ρ S vs ds Q hP rr hv hs => by
  cases hv with
  | nil => exact ⟨rfl, hs σ H Grow.refl rr rfl fun _ _ => rfl⟩
  | cons _ _ => exact hs.elim⟩
theorem pgsd_cons {ts us : List Nat} {gg : FG} {gr : FGs} (h1 : PGd X z O EX ts e gg) (h2 : PGSd X z O EX us es gr) (hs : (assignEach (e :: es) X.env).map (·.2) = assign e X.env :: (assignEach es X.env).map (·.2) := by rfl) : PGSd X z O EX (ts ++ us) (e :: es) (consG gg gr) := by
  obtain ⟨t, p, q⟩ := h1.ex
  obtain ⟨u, p2, q2⟩ := h2.ex
  refine ⟨_, pgs_cons p p2 hs, fun B P σ H ρ S vs ds Q hP rr hv hs => ?_⟩
  cases hv with
  | nil => exact hs.elim
  | cons hv hr =>
    refine ⟨_, _, rfl, q B P σ H ρ S _ _ _ hP rr hv ((sat_bind.mp hs).imp fun ρ1 h1 σ1 H1 g1 r1 l1 k1 => ?_)⟩
    refine q2 B P σ1 H1 ρ1.1 ρ1.2 _ _ _ hP r1 (hr.mono g1.frz) (h1.imp fun ρ2 h2 σ2 H2 g2 r2 l2 k2 => h2 σ2 H2 (g1.trans g2) r2 (l2.trans l1) fun i hi => ?_)
    rw [List.mem_append] at hi
    exact (k2 i fun z => hi (.inr z)).trans (k1 i fun z => hi (.inl z))
def tupG (n : Nat) (g : FGs) : FG := fun d ρ S => match d with | .tup ds => if ds.length = n then g ds ρ S else R.bad | _ => R.bad
theorem pgd_tup (hK : X.K = z.K) {k n : Nat} {ts : List Nat} {gr : FGs} (hc : X.calm = true) (h : PGSd X z O EX ts es gr) (hn : (assignEach es X.env).length = n := by rfl) (hst : (assignEach es X.env).findIdx? (·.1) = none := by rfl) :
    PGd X z O EX ts (.Tuple es k pos) (tupG n gr) := by
  obtain ⟨t, p, q⟩ := h.ex
  refine ⟨_, pg_tup hc p hn hst, fun B P σ H ρ S v d Q hP rr hv hs => ?_⟩
  cases d with
  | tup ds =>
    unfold tupG at hs
    dsimp only at hs
    split at hs
    · rename_i w
      cases hv with
      | tup h1 r1 => exact ⟨_, _, rfl, hK ▸ ex_t (frz_ex _ _) h1, by rw [r1.length]; exact w, q B P σ H ρ S _ _ _ hP rr r1 hs⟩
    · exact hs.elim
  | _ => exact hs.elim
/-- a, b = a list of two -/
def lstG (n : Nat) (g : FGs) : FG := fun d ρ S => match d with | .lst ds => if ds.length = n then g ds ρ S else R.bad | _ => R.bad
def asgS (f : FE) (g : FG) : FS := fun ρ S => f ρ S >>= fun x => g x.1 ρ x.2 >>= fun r => R.ok (.nx, r.1, r.2)
theorem psd_asg {ts : List Nat} {tg : Expr} {gg : FG} (he : PD X z O EX e f) (hg : PGd X z O EX ts tg gg) (hs : swapsWithSole [tg] e pos.line X.env = pure false := by rfl) (hw : swappedStores [tg] e X.env = pure none := by rfl)
    (h1 : (assignEach [tg] X.env).map (·.2) = [assign tg X.env] := by rfl) : PSd X z O O OL EX (.Assign [tg] e pos) (asgS f gg) := by
  obtain ⟨t, p, q⟩ := he.ex
  obtain ⟨u, p2, q2⟩ := hg.ex
  refine ⟨_, ps_asg p p2 hs hw h1, fun B P σ H ρ S D' hP rr hs => ?_⟩
  refine q B P σ H ρ S _ hP rr ((sat_bind.mp hs).imp fun x hx v H1 g1 r1 hv => ?_)
  exact q2 B P σ H1 ρ x.2 v x.1 _ hP r1 hv ((sat_bind.mp hx).imp fun ρ1 h1 σ' H2 g2 r2 _ _ => h1 P σ' H2 hP (g1.trans g2).frz r2)
/-- x = e, x not owned -/
theorem psd_set (i : Nat) (hN : X.N.Nodup) (hz : NotPl z i) (he : PD X z O EX e f) (hi : O.all (· != i) = true := by rfl) {x : Str} {pos' : Pos} (hx : X.N[i]? = some x := by rfl) (hl : Loc X.env.scope x := by first | exact Or.inl rfl | exact Or.inr rfl)
    (hs : swapsWith e (some (.Name x pos')) pos.line X.env = pure false := by rfl) (hf : X.fn x = true ∨ X.env.scope.names.lookup x = some .local := by first | exact .inl rfl | exact .inr rfl) : PSd X z O O OL EX (.Assign [.Name x pos'] e pos) (asgS f (nmG i)) := by
  obtain ⟨t, p, q⟩ := he.ex
  refine ⟨_, ps_set hN hx hl p hs hf, fun B P σ H ρ S D' hP rr hs => ?_⟩
  refine q B P σ H ρ S _ hP rr ((sat_bind.mp hs).imp fun x hx v H1 g1 r1 hv => ?_)
  obtain ⟨w, hq⟩ := sat_set (sat_bind.mp (sat_bind.mp hx))
  exact hq P _ H1 hP g1.frz (r1.set hv (own_ne hP hi) hz w)
/-- a, b = e1, e2, both sides written -/
def parS (i j : Nat) (fa : FA) : FS := fun ρ S => fa ρ S >>= fun x => match x.1 with
  | [u, v] => setE ρ i u >>= fun ρ1 => setE ρ1 j v >>= fun ρ2 => R.ok (.nx, ρ2, x.2)
  | _ => R.bad
theorem psd_par (i j : Nat) (hc : X.calm = true) (hN : X.N.Nodup) (hzi : NotPl z i) (hzj : NotPl z j) {fa : FA} (ha : PAd X z O EX [a, b] fa) (hi : O.all (· != i) = true := by rfl) (hj : O.all (· != j) = true := by rfl) {x y : Str} {px py pt : Pos} {kt k2 pt2}
    (hx : X.N[i]? = some x := by rfl) (hy : X.N[j]? = some y := by rfl) (hij : i ≠ j := by decide) (lx : X.env.scope.names.lookup x = some .local := by rfl) (ly : X.env.scope.names.lookup y = some .local := by rfl)
    (hw : swappedStores [.Tuple [.Name x px, .Name y py] kt pt] (.Tuple [a, b] k2 pt2) X.env = pure (some [x, y]) := by rfl)
    (hs : swapsWithSole [.Tuple [.Name x px, .Name y py] kt pt] (.Tuple [a, b] k2 pt2) pos.line X.env = pure false := by rfl) : PSd X z O O OL EX (.Assign [.Tuple [.Name x px, .Name y py] kt pt] (.Tuple [a, b] k2 pt2) pos) (parS i j fa) := by
  obtain ⟨t, p, q⟩ := ha.ex
  refine ⟨_, ps_par hc hN hx hy hij lx ly p hw hs, fun B P σ H ρ S D' hP rr hs => ?_⟩
  refine q B P σ H ρ S _ hP rr ((sat_bind.mp hs).imp fun w hw vs H1 g1 r1 hv => ?_)
  obtain ⟨ds, S1⟩ := w
  match ds, hv, hw with
  | [u, v], .cons h1 (.cons h2 .nil), hw =>
    obtain ⟨w1, hq⟩ := sat_set (sat_bind.mp hw)
    obtain ⟨w2, hq⟩ := sat_set (sat_bind.mp hq)
    exact ⟨_, _, rfl, hq P _ H1 hP g1.frz ((r1.set h1 (own_ne hP hi) hzi w1).set h2 (own_ne hP hj) hzj w2)⟩
  | [], _, hw => exact hw.elim
  | [_], _, hw => exact hw.elim
  | _ :: _ :: _ :: _, _, hw => exact hw.elim
/-- x op= e -/
def augS (i : Nat) (g2 : D → D → Option D) (f : FE) : FS := fun ρ S => lk ρ i >>= fun u => f ρ S >>= fun x => R.of (g2 u x.1) >>= fun d => setE ρ i d >>= fun ρ1 => R.ok (.nx, ρ1, x.2)
/-! ### loops -/
/-- what a loop walks: the items from the frozen part F on -/
structure Items (z : Z) (J : It) (F : Hp) (ds : List D) : Prop where
  go : ∀ i B P H, Ex F (Frz H (z.L B P)) → i < ds.length → J.go i H
  stop : ∀ B P H, Ex F (Frz H (z.L B P)) → J.stop ds.length H
  yld : ∀ i B P H x H' d, Ex F (Frz H (z.L B P)) → (∀ p, H p = none → p ∉ z.L B P) → J.yld i H x H' → ds[i]? = some d → Ex H H' ∧ Rp z.K z.ca (Frz H' (z.L B P)) x d
def EvI (z : Z) (O : List Nat) (EX : EXT) (wi : TI) (f : FA) : Prop :=
  ∀ B P σ H ρ S R', P.map (·.1) = O → Rel z B P σ H ρ S →
    Sat (f ρ S) (fun r => ∀ J H1, Grow z H H1 → Rel z B P σ H1 ρ r.2 → Items z J (Frz H1 (z.L B P)) r.1 → R' J H1) EX → wi σ H R'
structure PId (X : Cx) (z : Z) (O : List Nat) (EX : EXT) (tg iter : Expr) (f : FA) : Prop where
  ex : ∃ w, PI X tg iter w ∧ EvI z O EX w f
def forL (g : FG) (fb : FS) : List D → Env → List D → R (Ctl × Env × List D)
  | [], ρ, S => R.ok (.nx, ρ, S)
  | d :: r, ρ, S => g d ρ S >>= fun ρ1 => fb ρ1.1 ρ1.2 >>= fun c => match c.1 with
    | .nx => forL g fb r c.2.1 c.2.2
    | .ct => forL g fb r c.2.1 c.2.2
    | .bk => R.ok (.nx, c.2.1, c.2.2)
    | .rt d => R.ok (.rt d, c.2.1, c.2.2)
def forS (fi : FA) (g : FG) (fb : FS) : FS := fun ρ S => fi ρ S >>= fun x => forL g fb x.1 ρ x.2
theorem psd_for {ts : List Nat} {tg iter : Expr} {body : List Stmt} {fi : FA} {gg : FG} {fb : FS} (hp : PassesOwn (model X.prog X.w) X.A X.env X.xe) (hc : X.calm = true) (hi : PId X z O EX tg iter fi) (hg : PGd X z O EX ts tg gg)
    (hb : PSS X z O O O EX body fb) (hs : ∀ x, foldedSetIterable iter X.env x = pure x := by intro _; rfl) : PSd X z O O OL EX (.For tg iter body [] pos) (forS fi gg fb) := by
  obtain ⟨w, pw, qw⟩ := hi.ex
  obtain ⟨tgt, pg, qg⟩ := hg.ex
  obtain ⟨tb, pb, qb⟩ := hb.ex
  refine ⟨_, ps_for hp hc pw pg pb hs, fun B P σ H ρ S D' hP rr hs => ?_⟩
  refine qw B P σ H ρ S _ hP rr ((sat_bind.mp hs).imp fun x hx J H1 g1 r1 it => ?_)
  obtain ⟨items, S1⟩ := x
  refine ⟨fun i m σ H => m = items.length - i ∧ i ≤ items.length ∧ ∃ P' ρ' S', P'.map (·.1) = O ∧ Rel z B P' σ H ρ' S' ∧ Ex (Frz H1 (z.L B P)) (Frz H (z.L B P')) ∧
    Sat (forL gg fb (items.drop i) ρ' S') (PostS z B (Frz H1 (z.L B P)) O OL D') EX, ⟨items.length, by simp, Nat.zero_le _, P, ρ, S1, hP, r1, Ex.refl _, Sat.imp hx fun _ w => w.mono g1.frz⟩, ?_⟩
  rintro i m σ2 H2 ⟨rfl, hil, P2, ρ2, S2, hP2, r2, e2, h2⟩
  by_cases hlt : i < items.length
  · have ed : items.drop i = items[i] :: items.drop (i + 1) := List.drop_eq_getElem_cons hlt
    rw [ed] at h2
    refine .inr ⟨it.go i B P2 H2 e2 hlt, fun σ' H' => items.length - (i + 1) = items.length - (i + 1) ∧ i + 1 ≤ items.length ∧ ∃ P' ρ' S', P'.map (·.1) = O ∧ Rel z B P' σ' H' ρ' S' ∧ Ex (Frz H1 (z.L B P)) (Frz H' (z.L B P')) ∧
      Sat (forL gg fb (items.drop (i + 1)) ρ' S') (PostS z B (Frz H1 (z.L B P)) O OL D') EX, fun σ' H' n => ⟨items.length - (i + 1), by omega, n⟩, fun x H' y => ?_⟩
    obtain ⟨ex', rp'⟩ := it.yld i B P2 H2 x H' items[i] e2 (fun p hp => r2.fresh hp) y (by simp [hlt])
    refine qg B P2 σ2 H' ρ2 S2 x items[i] _ hP2 (r2.grow ex') rp' ((sat_bind.mp h2).imp fun ρ3 h3 σ3 H3 g3 r3 _ _ => ?_)
    have e3 : Ex (Frz H1 (z.L B P)) (Frz H3 (z.L B P2)) := (e2.trans (Grow.of (z := z) ex').frz).trans g3.frz
    refine qb B P2 σ3 H3 ρ3.1 ρ3.2 _ hP2 r3 ((sat_bind.mp h3).imp fun c hcc => ?_)
    obtain ⟨c1, ρ4, S4⟩ := c
    cases c1 with
    | nx => exact fun P4 σ4 H4 h4 e4 r4 => ⟨rfl, hlt, P4, ρ4, S4, h4, r4, e3.trans e4, hcc⟩
    | ct => exact fun P4 σ4 H4 h4 e4 r4 => ⟨rfl, hlt, P4, ρ4, S4, h4, r4, e3.trans e4, hcc⟩
    | bk => exact fun P4 σ4 H4 h4 e4 r4 => hcc P4 σ4 H4 h4 (e3.trans e4) r4
    | rt d => exact fun v H4 hf => hcc v H4 hf
  · have e : i = items.length := by omega
    subst e
    rw [List.drop_length] at h2
    exact .inl ⟨it.stop B P2 H2 e2, h2 P2 σ2 H2 hP2 e2 r2⟩
/-! what is walked -/
theorem items_int {F : Hp} {lo : Int} {n : Nat} : Items z (Itr lo n) F ((List.range n).map fun i => D.int (lo + (i : Nat))) where
  go := fun i B P H _ hi => by
    show i < n
    simpa using hi
  stop := fun B P H _ => by
    show n ≤ _
    simp
  yld := fun i B P H x H' d _ _ y e => by
    obtain ⟨rfl, rfl⟩ := y
    rw [List.getElem?_map] at e
    cases q : (List.range n)[i]? with
    | none => rw [q] at e; cases e
    | some k =>
      rw [q] at e
      cases e
      obtain ⟨_, q⟩ := List.getElem?_eq_some_iff.mp q
      rw [List.getElem_range] at q
      subst q
      exact ⟨Ex.refl _, .int _⟩
def rng1D : List D → Option (List D)
  | [.int n] => if -(2 ^ 62) ≤ n ∧ n < 2 ^ 62 then some ((List.range n.toNat).map fun i => D.int (0 + (i : Nat))) else none
  | _ => none
def rng2D : List D → Option (List D)
  | [.int a, .int b] => if -(2 ^ 62) ≤ a ∧ a < 2 ^ 62 ∧ -(2 ^ 62) ≤ b ∧ b < 2 ^ 62 then some ((List.range (b - a).toNat).map fun i => D.int (a + (i : Nat))) else none
  | _ => none
def rngI (g : List D → Option (List D)) (fa : FA) : FA := fun ρ S => fa ρ S >>= fun x => R.of (g x.1) >>= fun ds => R.ok (ds, x.2)
theorem pid_range1 {tg : Expr} {p : Pos} {fa : FA} (hm : X.mg "range" = none) (ha : PAd X z O EX [a] fa) (hg : Gl X "range" := by rfl) (hs : starEach [a] X.env = [(false, eval a X.env)] := by rfl) : PId X z O EX tg (.Call (.Name "range" p) [a] [] pos) (rngI rng1D fa) := by
  obtain ⟨t, pt, q⟩ := ha.ex
  refine ⟨_, pi_range1 hg hm pt hs, fun B P σ H ρ S R' hP rr hs => ?_⟩
  refine q B P σ H ρ S _ hP rr ((sat_bind.mp hs).imp fun x hx vs H1 g1 r1 hv => ?_)
  obtain ⟨ds, hd, hq⟩ := sat_of (sat_bind.mp hx)
  obtain ⟨xs, S1⟩ := x
  dsimp only at hd hv
  unfold rng1D at hd
  split at hd
  · rename_i n
    split at hd
    · rename_i w
      cases hd
      cases hv with
      | cons h r =>
        cases h
        cases r
        refine ⟨n, rfl, w.1, w.2, hq _ H1 g1 r1 ?_⟩
        exact items_int
    · cases hd
  · cases hd
theorem items_seq {F : Hp} {J : It} {xs : List V} {ds : List D} (r : RpA z.K z.ca F xs ds) (go : ∀ i H, Ex F H → i < xs.length → J.go i H) (stop : ∀ H, Ex F H → J.stop xs.length H) (yld : ∀ i H x H', Ex F H → J.yld i H x H' → H' = H ∧ xs[i]? = some x) : Items z J F ds where
  go := fun i B P H e hi => go i H (e.trans (frz_ex _ _)) (by rw [r.length]; exact hi)
  stop := fun B P H e => by rw [← r.length]; exact stop H (e.trans (frz_ex _ _))
  yld := fun i B P H x H' d e _ y h => by
    obtain ⟨rfl, hx⟩ := yld i H x H' (e.trans (frz_ex _ _)) y
    obtain ⟨v, hv, q⟩ := r.get h
    rw [hv] at hx
    cases hx
    exact ⟨Ex.refl _, q.mono e⟩
/-- a list (not owned) -/
def itemsL : D → Option (List D) | .lst ds => some ds | .scr ns => some (ns.map .int) | _ => none
def itemsT : D → Option (List D) | .tup ds => some ds | _ => none
def seqI (g : D → Option (List D)) (f : FE) : FA := fun ρ S => f ρ S >>= fun x => R.of (g x.1) >>= fun ds => R.ok (ds, x.2)
theorem pid_list (hK : X.K = z.K) {tg : Expr} (ha : PD X z O EX e f) : PId X z O EX tg e (seqI itemsL f) := by
  obtain ⟨t, pt, q⟩ := ha.ex
  refine ⟨_, pi_list pt, fun B P σ H ρ S R' hP rr hs => ?_⟩
  refine q B P σ H ρ S _ hP rr ((sat_bind.mp hs).imp fun x hx v H1 g1 r1 hv => ?_)
  obtain ⟨ds, hd, hq⟩ := sat_of (sat_bind.mp hx)
  obtain ⟨x1, S1⟩ := x
  rw [hK]
  have fin : ∀ {a : Addr} {xs : List V}, SqL z.K (Frz H1 (z.L B P)) a xs → RpA z.K z.ca (Frz H1 (z.L B P)) xs ds → v = .ref a → ∃ a, v = .ref a ∧ (∃ xs, SqL z.K H1 a xs) ∧ R' (Itl z.K a) H1 := fun {a xs} h r e => by
    refine ⟨a, e, ⟨xs, ex_l (frz_ex _ _) h⟩, hq _ H1 g1 r1 ?_⟩
    exact items_seq r (fun i H e hi => ⟨xs, xs[i], ex_l e h, by simp [hi]⟩) (fun H e => ⟨xs, ex_l e h, Nat.le_refl _⟩) fun i H x H' e y => ⟨y.1, y.2 xs (ex_l e h)⟩
  cases x1 <;> simp only [itemsL, reduceCtorEq, Option.some.injEq] at hd
  · subst hd
    cases hv with
    | lst h r => exact fin (SqL.of h) r rfl
  · subst hd
    cases hv with
    | scr h => exact fin h (RpA.ofInts _) rfl
theorem pid_tup (hK : X.K = z.K) {tg : Expr} (ha : PD X z O EX e f) : PId X z O EX tg e (seqI itemsT f) := by
  obtain ⟨t, pt, q⟩ := ha.ex
  refine ⟨_, pi_tup pt, fun B P σ H ρ S R' hP rr hs => ?_⟩
  refine q B P σ H ρ S _ hP rr ((sat_bind.mp hs).imp fun x hx v H1 g1 r1 hv => ?_)
  obtain ⟨ds, hd, hq⟩ := sat_of (sat_bind.mp hx)
  obtain ⟨x1, S1⟩ := x
  rw [hK]
  cases x1 <;> simp only [itemsT, reduceCtorEq, Option.some.injEq] at hd
  subst hd
  cases hv with
  | tup h r =>
    refine ⟨_, rfl, ⟨_, ex_t (frz_ex _ _) h⟩, hq _ H1 g1 r1 ?_⟩
    exact items_seq r (fun i H e hi => ⟨_, _, ex_t e h, List.getElem?_eq_getElem hi⟩) (fun H e => ⟨_, ex_t e h, Nat.le_refl _⟩) fun i H x H' e y => ⟨y.1, y.2 _ (ex_t e h)⟩
end
end PL
set_option Elab.async false
set_option linter.all false
set_option maxRecDepth 100000
set_option maxHeartbeats 4000000
namespace PL
open PySem PySem.Spec PyProof.Rows L2
abbrev EX0 : EXT := fun _ _ _ => False
section
variable {X : Cx} {z : Z} {O OI OM OO OL : List Nat} {EX : EXT} {a b c e : Expr} {es : List Expr} {f g h : FE} {fa : FA} {fs gs : FS} {pos : Pos} {st : Stmt} {sts : List Stmt}
variable {B : List Addr} {P : List (Nat × Addr)} {σ σ' : L2.St} {H H' : Hp} {ρ ρ' : Env} {S S' : List D}
/-! ### frames: more -/
theorem frz_congr {L L' : List Addr} (h : ∀ a, a ∈ L ↔ a ∈ L') : Frz H L = Frz H L' := by
  funext a
  unfold Frz
  by_cases ha : a ∈ L
  · rw [if_pos ha, if_pos ((h a).mp ha)]
  · rw [if_neg ha, if_neg fun q => ha ((h a).mpr q)]
/-- hidden no more -/
theorem Rel.show1 {p : Addr} (r : Rel z (p :: B) P σ H ρ S) (h0 : z.H0 p = none) : Rel z B P σ H ρ S ∧ Ex (Frz H (z.L (p :: B) P)) (Frz H (z.L B P)) ∧ p ∉ z.L B P := by
  have sub : ∀ a ∈ z.L B P, a ∈ z.L (p :: B) P := fun a ha => by
    unfold Z.L at ha ⊢
    rcases List.mem_append.mp ha with h | h
    · exact List.mem_append_left _ h
    · rcases List.mem_append.mp h with h | h
      · exact List.mem_append_right _ (List.mem_append_left _ h)
      · exact List.mem_append_right _ (List.mem_append_right _ (List.mem_cons_of_mem _ h))
  have m := frz_sub (H := H) sub
  have nd := r.nd
  have pm : List.Perm (z.L (p :: B) P) (p :: z.L B P) := by
    unfold Z.L
    rw [← List.append_assoc, ← List.append_assoc]
    exact List.perm_middle
  have nd2 := pm.nodup nd
  refine ⟨⟨fun i d n h => ?_, fun q hq => ?_, fun i a e => ?_, (List.nodup_cons.mp nd2).2, fun b hb => r.there b (List.mem_cons_of_mem _ hb), r.ex, r.new, r.len, r.tabs, ⟨fun a ha => ⟨(r.xt.1 a ha).1, ((List.mem_cons.mp (r.xt.1 a ha).2).resolve_left fun e => (r.xt.1 a ha).1 (by rw [e]; exact h0))⟩, r.xt.2⟩⟩, m, (List.nodup_cons.mp nd2).1⟩
  · obtain ⟨v, e1, q⟩ := r.val i d n h
    exact ⟨v, e1, q.mono m⟩
  · obtain ⟨e1, xs, ds, e2, e3, q⟩ := r.own q hq
    exact ⟨e1, xs, ds, e2, e3, q.mono m⟩
  · obtain ⟨e1, e0, xs, e2, q⟩ := r.pool i a e
    exact ⟨e1, e0, xs, e2, q.mono m⟩
/-- a fresh object is hidden -/
theorem Rel.hide {p : Addr} {o : HO} (r : Rel z B P σ H ρ S) (hp : H p = none) : Rel z (p :: B) P σ (upd H p o) ρ S ∧ Ex (Frz H (z.L B P)) (Frz (upd H p o) (z.L (p :: B) P)) := by
  have hn := r.fresh hp
  have m : Ex (Frz H (z.L B P)) (Frz (upd H p o) (z.L (p :: B) P)) := fun a u ha => by
    unfold Frz at ha ⊢
    split at ha
    · cases ha
    · rename_i n
      have ne : a ≠ p := ne_of_none ha hp
      rw [if_neg, upd_ne ne]
      · exact ha
      · intro q
        apply n
        unfold Z.L at q ⊢
        rcases List.mem_append.mp q with h | h
        · exact List.mem_append_left _ h
        · rcases List.mem_append.mp h with h | h
          · exact List.mem_append_right _ (List.mem_append_left _ h)
          · rcases List.mem_cons.mp h with h | h
            · exact absurd h ne
            · exact List.mem_append_right _ (List.mem_append_right _ h)
  have pm : List.Perm (z.L (p :: B) P) (p :: z.L B P) := by
    unfold Z.L
    rw [← List.append_assoc, ← List.append_assoc]
    exact List.perm_middle
  refine ⟨⟨fun i d n h => ?_, fun q hq => ?_, fun i a e => ?_, pm.symm.nodup (List.nodup_cons.mpr ⟨hn, r.nd⟩), fun b hb => ?_, fun a u h n => Ex.new hp _ _ (r.ex a u h n), r.new, r.len, tabs_new r.tabs hp, ⟨fun a ha => ⟨(r.xt.1 a ha).1, List.mem_cons_of_mem _ (r.xt.1 a ha).2⟩, r.xt.2⟩⟩, m⟩
  · obtain ⟨v, e1, q⟩ := r.val i d n h
    exact ⟨v, e1, q.mono m⟩
  · obtain ⟨e1, xs, ds, e2, e3, q⟩ := r.own q hq
    exact ⟨e1, xs, ds, Ex.new hp _ _ e2, e3, q.mono m⟩
  · obtain ⟨e1, e0, xs, e2, q⟩ := r.pool i a e
    exact ⟨e1, e0, xs, Ex.new hp _ _ e2, q.mono m⟩
  · rcases List.mem_cons.mp hb with h | h
    · rw [h, upd_same]
      exact fun z => nomatch z
    · have q := r.there b h
      cases e : H b with
      | none => exact absurd e q
      | some u => rw [Ex.new hp _ _ e]; exact fun z => nomatch z
/-- another frame's places, the heap as it is now -/
theorem Rel.back (r : Rel z B P σ H ρ S) (g : Grow z H H') (r' : Rel z B P σ' H' ρ' S') : Rel z B P σ H' ρ S' where
  val := fun i d n h => let ⟨v, e1, q⟩ := r.val i d n h; ⟨v, e1, q.mono g.frz⟩
  own := fun p hp => by
    obtain ⟨e1, xs, ds, e2, e3, q⟩ := r.own p hp
    have n : p.2 ∉ z.pls := fun h => by
      have nd := r.nd
      unfold Z.L at nd
      exact (List.nodup_append.mp nd).2.2 p.2 (List.mem_map_of_mem hp) p.2 (List.mem_append_left _ h) rfl
    exact ⟨e1, xs, ds, g _ _ n e2, e3, q.mono g.frz⟩
  pool := fun i a e => by
    obtain ⟨e1, e0, _⟩ := r.pool i a e
    obtain ⟨_, _, xs, e2, q⟩ := r'.pool i a e
    exact ⟨e1, e0, xs, e2, q⟩
  nd := r.nd
  there := r'.there
  ex := r'.ex
  new := r.new
  len := r.len
  tabs := r'.tabs
  xt := r.xt
/-! ### new lists -/
/-- e gives a new list that nobody else holds -/
def EvF (z : Z) (O : List Nat) (EX : EXT) (t : TE) (f : FA) : Prop :=
  ∀ B P σ H ρ S Q, P.map (·.1) = O → Rel z B P σ H ρ S →
    Sat (f ρ S) (fun r => ∀ p xs H', Grow z H H' → H' p = some (.lst xs) → z.H0 p = none → H p = none → Rel z (p :: B) P σ H' ρ r.2 → Ex (Frz H (z.L B P)) (Frz H' (z.L (p :: B) P)) → RpA z.K z.ca (Frz H' (z.L (p :: B) P)) xs r.1 → Q (.ref p) H') EX → t σ H Q
structure PF (X : Cx) (z : Z) (O : List Nat) (EX : EXT) (e : Expr) (f : FA) : Prop where
  ex : ∃ t, PE X e t ∧ EvF z O EX t f
def ofF (f : FA) : FE := fun ρ S => f ρ S >>= fun x => R.ok (.lst x.1, x.2)
theorem EvF.toE {t : TE} (q : EvF z O EX t fa) : EvE z O EX t (ofF fa) := fun B P σ H ρ S Q hP rr hs => by
  refine q B P σ H ρ S _ hP rr ((sat_bind.mp hs).imp fun x hx p xs H' g e1 e0 en r m hv => ?_)
  obtain ⟨r1, m1, n1⟩ := r.show1 e0
  exact hx (.ref p) H' g r1 (.lst (frz_of e1 n1) (hv.mono m1))
theorem PF.pd (ha : PF X z O EX e fa) : PD X z O EX e (ofF fa) := by
  obtain ⟨t, p, q⟩ := ha.ex
  exact ⟨t, p, q.toE⟩
theorem h0_none {p : Addr} (r : Rel z B P σ H ρ S) (hp : H p = none) (hn : p ∉ z.pls) : z.H0 p = none := by
  cases e : z.H0 p with
  | none => rfl
  | some o => rw [r.ex p o e hn] at hp; cases hp
theorem not_pls {p : Addr} (h : p ∉ z.L B P) : p ∉ z.pls := fun q => h (by unfold Z.L; exact List.mem_append_right _ (List.mem_append_left _ q))
theorem Grow.none {p : Addr} (g : Grow z H H') (hn : p ∉ z.pls) (hp : H' p = none) : H p = none := by
  cases e : H p with
  | none => rfl
  | some o => rw [g p o hn e] at hp; cases hp
def lstF (fa : FA) : FA := fun ρ S => fa ρ S >>= fun x => if x.1.length ≤ LINE then R.ok x else R.bad
theorem pf_lst (ha : PAd X z O EX es fa) : PF X z O EX (.List es pos) (lstF fa) := by
  obtain ⟨t, p, q⟩ := ha.ex
  refine ⟨_, pe_lst p, fun B P σ H ρ S Q hP rr hs => ?_⟩
  refine q B P σ H ρ S _ hP rr ((sat_bind.mp hs).imp fun x hx vs H1 g1 r1 hv => ?_)
  split at hx
  · rename_i w
    refine ⟨line_le (by rw [hv.length]; exact w), fun p hp => ?_⟩
    obtain ⟨r2, m⟩ := r1.hide (o := .lst vs) hp
    exact hx p vs _ (g1.trans (Grow.of (Ex.new hp))) upd_same (h0_none r1 hp (not_pls (r1.fresh hp))) (g1.none (not_pls (r1.fresh hp)) hp) r2 (g1.frz.trans m) (hv.mono m)
  · exact hx.elim
def bin2F (g2 : D → D → Option (List D)) (f g : FE) : FA := fun ρ S => f ρ S >>= fun x => g ρ x.2 >>= fun y => R.of (g2 x.1 y.1) >>= fun d => R.ok (d, y.2)
def callF (g : List D → Option (List D)) (fa : FA) : FA := fun ρ S => fa ρ S >>= fun x => R.of (g x.1) >>= fun d => R.ok (d, x.2)
def ownS (i : Nat) (f : FA) : FS := fun ρ S => f ρ S >>= fun x => setE ρ i (.lst x.1) >>= fun ρ1 => R.ok (.nx, ρ1, x.2)
/-! ### owned lists changed -/
/-- an owned list's new content -/
theorem Rel.put {i : Nat} {p : Addr} {xs : List V} {ds : List D} (r : Rel z B P σ H ρ S) (hp : (i, p) ∈ P) (hP : (P.map (·.1)).Nodup) (rp : RpA z.K z.ca (Frz H (z.L B P)) xs ds) :
    Rel z B P σ (upd H p (.lst xs)) (ρ.set i (some (.lst ds))) S ∧ Frz (upd H p (.lst xs)) (z.L B P) = Frz H (z.L B P) := by
  have hm : p ∈ z.L B P := by
    unfold Z.L
    exact List.mem_append_left _ (List.mem_map_of_mem (f := (·.2)) hp)
  have ef : Frz (upd H p (.lst xs)) (z.L B P) = Frz H (z.L B P) := by
    funext a
    unfold Frz
    by_cases ha : a ∈ z.L B P
    · rw [if_pos ha, if_pos ha]
    · rw [if_neg ha, if_neg ha, upd_ne fun (e1 : a = p) => ha (by rw [e1]; exact hm)]
  have nd := r.nd
  unfold Z.L at nd
  have nd' := List.nodup_append.mp nd
  have npl : p ∉ z.pls ++ B := fun h => nd'.2.2 p (List.mem_map_of_mem (f := (·.2)) hp) p h rfl
  have il : i < ρ.length := by
    obtain ⟨_, _, _, _, e3, _⟩ := r.own (i, p) hp
    exact (List.getElem?_eq_some_iff.mp e3).1
  have inj : ∀ (l : List (Nat × Addr)), (l.map (·.1)).Nodup → ∀ x ∈ l, ∀ y ∈ l, x.1 = y.1 → x = y := by
    intro l
    induction l with
    | nil => intro _ x hx; cases hx
    | cons u l ih =>
      intro hl x hx y hy exy
      rw [List.map_cons, List.nodup_cons] at hl
      rcases List.mem_cons.mp hx with e1 | hx'
      · rcases List.mem_cons.mp hy with e2 | hy'
        · rw [e1, e2]
        · exact absurd (by rw [← e1, exy]; exact List.mem_map_of_mem hy') hl.1
      · rcases List.mem_cons.mp hy with e2 | hy'
        · exact absurd (by rw [← e2, ← exy]; exact List.mem_map_of_mem hx') hl.1
        · exact ih hl.2 x hx' y hy' exy
  have inj2 : ∀ (l : List (Nat × Addr)), (l.map (·.2)).Nodup → ∀ x ∈ l, ∀ y ∈ l, x.2 = y.2 → x = y := by
    intro l
    induction l with
    | nil => intro _ x hx; cases hx
    | cons u l ih =>
      intro hl x hx y hy exy
      rw [List.map_cons, List.nodup_cons] at hl
      rcases List.mem_cons.mp hx with e1 | hx'
      · rcases List.mem_cons.mp hy with e2 | hy'
        · rw [e1, e2]
        · exact absurd (by rw [← e1, exy]; exact List.mem_map_of_mem hy') hl.1
      · rcases List.mem_cons.mp hy with e2 | hy'
        · exact absurd (by rw [← e2, ← exy]; exact List.mem_map_of_mem hx') hl.1
        · exact ih hl.2 x hx' y hy' exy
  refine ⟨⟨fun j d n h => ?_, fun q hq => ?_, fun j a e => ?_, r.nd, fun b hb => ?_, fun a o h n => ?_, r.new, by rw [List.length_set]; exact r.len, let ⟨_, xs0, _, e0, _⟩ := r.own (i, p) hp; tabs_upd r.tabs e0 (fun _ z => nomatch z) (fun _ z => nomatch z), r.xt⟩, ef⟩
  · have hj : j ≠ i := fun e => n (i, p) hp e.symm
    rw [List.getElem?_set_ne (Ne.symm hj)] at h
    obtain ⟨v, e1, q⟩ := r.val j d n h
    exact ⟨v, e1, ef ▸ q⟩
  · obtain ⟨e1, xs', ds', e2, e3, q'⟩ := r.own q hq
    by_cases hqi : q.1 = i
    · have e := inj P hP q hq (i, p) hp hqi
      subst e
      exact ⟨e1, xs, ds, upd_same, List.getElem?_set_self il, ef ▸ rp⟩
    · have hne : q.2 ≠ p := fun e => hqi (by rw [inj2 P nd'.1 q hq (i, p) hp e])
      exact ⟨e1, xs', ds', by rw [upd_ne hne]; exact e2, by rw [List.getElem?_set_ne (Ne.symm hqi)]; exact e3, ef ▸ q'⟩
  · obtain ⟨e1, e0, xs', e2, q'⟩ := r.pool j a e
    have ha : a ∈ z.pls := by
      unfold Z.pls
      rw [e]
      exact List.mem_append_left _ List.mem_cons_self
    have hj : j ≠ i := fun z1 => by
      obtain ⟨_, _, _, _, e3, _⟩ := r.own (i, p) hp
      rw [z1, e3] at e0
      cases e0
    exact ⟨e1, by rw [List.getElem?_set_ne (Ne.symm hj)]; exact e0, xs', by rw [upd_ne fun (e9 : a = p) => npl (List.mem_append_left _ (by rw [← e9]; exact ha))]; exact e2, ef ▸ q'⟩
  · by_cases hbp : b = p
    · rw [hbp, upd_same]; exact fun z => nomatch z
    · rw [upd_ne hbp]; exact r.there b hb
  · have hne : a ≠ p := fun e => by
      have q := r.new (i, p) hp
      rw [← e, h] at q
      cases q
    rw [upd_ne hne]
    exact r.ex a o h n
def appS (i : Nat) (f : FE) : FS := fun ρ S => f ρ S >>= fun x => lk ρ i >>= fun l => match l with
  | .lst ds => if ds.length < LINE then setE ρ i (.lst (ds ++ [x.1])) >>= fun ρ1 => R.ok (.nx, ρ1, x.2) else R.bad
  | _ => R.bad
/-- x[i] = e, x owned -/
def stoS (i : Nat) (f g : FE) : FS := fun ρ S => f ρ S >>= fun x => g ρ x.2 >>= fun y => lk ρ i >>= fun l => match l, y.1 with
  | .lst ds, .int k => match ixN ds.length k with
    | some j => setE ρ i (.lst (ds.set j x.1)) >>= fun ρ1 => R.ok (.nx, ρ1, y.2)
    | none => R.bad
  | _, _ => R.bad
end
end PL
set_option Elab.async false
set_option linter.all false
set_option maxRecDepth 100000
set_option maxHeartbeats 4000000
/-! Defs whose callers stand under no guard (repr looks at the guards): promises, calls, the law's own call. -/
namespace PL
open PySem PySem.Spec PyProof.Rows L2
/-- a promise kept wherever no guard stands around -/
structure FnG (Pg : Program) (w : World) (K : PySem.W.Frag) (mg : Str → Option Value) (base : Heap) (k : Nat) (fA : Addr) (fd : FuncData) (ps : List Str) (sp : Sp) : Prop where
  num : ∀ vs H Q E, sp vs H Q E → vs.length = ps.length
  go : ∀ (A : Around) (up : List PySem.Env) (s : Shared) (H : Hp) (args : Args) (us : List Value) (vs : List V) (Q : VK) (E : XK), Room k A → A.guards = some [] → Env0 Pg w K mg base A up s H →
    BindsTo s fd args (ps.zip us) → Vals vs us → sp vs H Q E → codeAny (model Pg w) A (.call (.ref fA) args) (CR CX0 up Pg w H s Q E) s
section
variable {Pg : Program} {w : World} {K : PySem.W.Frag} {mg : Str → Option Value} {base : Heap} {j k : Nat} {fA : Addr} {fd : FuncData} {ps : List Str} {sp : Sp}
theorem FnG.up (F : FnG Pg w K mg base j fA fd ps sp) (h : j ≤ k) : FnG Pg w K mg base k fA fd ps sp :=
  ⟨F.num, fun A up s H args us vs Q E hr hgu => F.go A up s H args us vs Q E (hr.mono h) hgu⟩
/-- from the body -/
theorem fn_body {x qual : Str} {st : Stmt} {N : List Str} (F : Fun K x qual st fA fd) (Sc : FnScope N ps (defScope st)) (num : ∀ vs H Q E, sp vs H Q E → vs.length = ps.length)
    (body : ∀ (cdv : Value) (A : Around) (up : List PySem.Env) (s : Shared) (H : Hp) (vs : List V) (Q : VK) (E : XK), Room k (A.deeper (envOfC qual (defScope st) s.heap.objs.size fA cdv)) → A.guards = some [] → sp vs H Q E →
      ∃ t, PSs (cxOf CX0 Pg w K mg base N qual (defScope st) fA cdv A up s H E).nox (defBody st) t ∧ t { nx := fun _ H' => Q .non H', rt := Q } (L2.start N vs) H) : FnG Pg w K mg base (k + 1) fA fd ps sp := by
  obtain ⟨oc, od, kV, doc, pm, an, cdv, ct, osl, rfl, lk, hcd⟩ := F.ex
  constructor
  · exact num
  · intro A up s H args us vs Q E hr hgu e0 hb rv hsp
    have hlen := num _ _ _ _ hsp
    have kin : K.In s.heap := e0.mod.kin.keeps fun b o e => (e0.bs b o e).1
    have nolim : s.heap.NoLimit := e0.mod.nolimit.keeps fun b o e => (e0.bs b o e).1
    refine codeAny_call_function hr.depth (kin _ _ lk) rfl Sc.co Sc.gen rfl (PySem.W.codeRec_of kin hcd) (hb _ _ _ _ (wpAny_newFunctionEnv_cells Sc.kind (fun y hy => ?_) fun env he s1 x => ?_))
    · obtain ⟨n, v⟩ := y
      exact (Sc.par n (List.of_mem_zip hy).1).imp id fun q => ⟨q, PySem.W.cellsFrom_some _ _ _ (.inl q)⟩
    · subst he
      obtain ⟨t, ht, hq⟩ := body cdv A up s H vs Q E (hr.deeper _) hgu hsp
      have J : Inv (cxOf CX0 Pg w K mg base N qual (defScope st) fA cdv A up s H E) [] (L2.start N vs) H s1 := inv_start Sc hr.hd e0 hlen rv x
      refine ⟨nolim.keeps x.toInCall.keep, codeAny_func (wpAny_mono (ht.nox.run [] s1 _ H _ J hq) (fun fl s' hs => ?_) fun e s' hs => hs)⟩
      cases fl with
      | ret u => obtain ⟨v, σ', H', J2, r2, q2⟩ := hs; exact ⟨v, H', J2.os, J2.bare, J2.base, J2.hok, r2, q2⟩
      | next => obtain ⟨σ', H', J2, q2⟩ := hs; exact ⟨V.non, H', J2.os, J2.bare, J2.base, J2.hok, rfl, q2⟩
      | brk => obtain ⟨_, _, _, q2⟩ := hs; exact q2.elim
      | cont => obtain ⟨_, _, _, q2⟩ := hs; exact q2.elim
end
/-- where a body stands: room for k calls, no guard around -/
structure Rm (k : Nat) (A : Around) : Prop where
  r : Room k A
  g : A.guards = some []
theorem Rm.mono {j k : Nat} {A : Around} (h : Rm k A) (l : j ≤ k) : Rm j A := ⟨h.r.mono l, h.g⟩
section
variable {X : Cx} {k : Nat} {fA C : Addr} {fd : FuncData} {ps ks : List Str} {sp : Sp} {dvs : List V} {ds : List Value} {E : XK} {x m : Str} {p pos apos : Pos} {e o : Expr} {es : List Expr} {kws : List Keyword} {ta : TE} {t tk : TA}
variable {pins : List (Addr × Obj)} {σ : L2.St} {H : Hp} {s : Shared} {Q : VK}
/-- the callee runs -/
theorem run_g {args : Args} {us : List Value} {vs : List V} (F : FnG X.prog X.w X.K X.mg X.base k fA fd ps sp) (hr : Rm k X.A) (hb : BindsTo s fd args (ps.zip us)) (I : Inv X pins σ H s) (r : Vals vs us) (h : sp vs H Q E) :
    wpAny (model X.prog X.w) X.A (call (.ref fA) args.pos args.kw) (EP X pins σ Q) X.xe s := by
  refine wpAny_call (codeAny_mono (F.go X.A X.stack s H args us vs Q E hr.r hr.g I.env0 hb r h) fun res s' hq => ?_)
  match res, hq with
  | .ok (.ret u), hq => exact I.after hq
  | .ok .next, hq => exact False.elim hq
  | .ok .brk, hq => exact False.elim hq
  | .ok .cont, hq => exact False.elim hq
  | .error er, hq => exact False.elim hq
theorem pe_g (F : FnG X.prog X.w X.K X.mg X.base k fA fd ps sp) (hr : Rm k X.A) (hg : Gl X x) (hm : X.mg x = some (.ref fA)) (hk : PySem.W.keepIn X.K (.ref fA) = true) (hb : Binds X.K fd ps ds) (hd : Vals dvs ds)
    (ha : PA X (e :: es) t) (hdb : (x == ("__debug__" : Str)) = false) (he : starEach (e :: es) X.env = (false, eval e X.env) :: starEach es X.env) (hpl : (backTo pos (starEach es X.env)).any (·.1) = false) :
    PE X (.Call (.Name x p) (e :: es) [] pos) (tCall sp dvs E t) := ⟨fun pins s σ H Q I h => by
  refine wpAny_Call_Name_kw (ld_glob I hg hm (PySem.W.callWith_K (h₀ := X.base) I.ok.mod.kin hk (thn (ha.run pos pins s σ H _ I h) fun us s1 hv => ?_) he hpl) hdb)
  obtain ⟨vs, H1, I1, r, q⟩ := hv
  have r2 := r.append hd
  exact ⟨I1.kIn, run_g (args := ⟨us, []⟩) F hr (hb s1 us I1.kIn (by rw [← r2.length]; exact F.num _ _ _ _ q)) I1 r2 q⟩⟩
/-- by places -/
def pick {α : Type} (ix : List Nat) (l : List α) : List α := ix.filterMap fun i => l[i]?
theorem vals_pick {vs : List V} {us : List Value} (r : Vals vs us) : ∀ ix : List Nat, Vals (pick ix vs) (pick ix us)
  | [] => .nil
  | i :: ix => by
    have ih := vals_pick r ix
    unfold pick at ih ⊢
    rw [List.filterMap_cons, List.filterMap_cons]
    cases e : vs[i]? with
    | none => rw [r.none_of e]; exact ih
    | some v =>
      obtain ⟨u, e1, h⟩ := r.get e
      rw [e1]
      exact .cons h ih
/-- n positional arguments, the keywords ks: how they come to the parameters -/
structure KBd (K : PySem.W.Frag) (fd : FuncData) (ps ks : List Str) (n : Nat) (ix : List Nat) : Prop where
  to : ∀ (s : Shared) (us ws : List Value), K.In s.heap → us.length = n → ws.length = ks.length → BindsTo s fd ⟨us, ks.zip ws⟩ (ps.zip (pick ix (us ++ ws)))
/-- a new instance -/
theorem run_gmk {us ws : List Value} {vs : List V} {ix : List Nat} {n : Nat} (M : Mk X.K C fA) (F : FnG X.prog X.w X.K X.mg X.base k fA fd ps sp) (hr : Rm (k + 1) X.A) (hb : KBd X.K fd ps ks n ix) (l1 : us.length + 1 = n) (l2 : ws.length = ks.length)
    (I : Inv X pins σ H s) (r : Vals vs (us ++ ws)) (h : ∀ xa dx, H xa = none → H dx = none → dx ≠ xa → sp (pick ix (.ref xa :: vs)) (upd (upd H dx (.own xa)) xa (.ins C dx [])) (fun v H2 => v = .non ∧ Q (.ref xa) H2) E) :
    wpAny (model X.prog X.w) X.A (call (.ref C) us (ks.zip ws)) (EP X pins σ Q) X.xe s := by
  have hnew := h (s.heap.objs.size + 1) s.heap.objs.size (I.hok.fresh (Nat.le_succ _)) (I.hok.fresh (Nat.le_refl _)) (Nat.ne_of_lt (Nat.lt_succ_self _))
  have I2 := Inv.made (C := C) I
  have rn : Vals (V.ref (s.heap.objs.size + 1) :: vs) ((Value.ref (s.heap.objs.size + 1) :: us) ++ ws) := .cons rfl r
  have hgu : (X.A.under (.builtin "type.__call__" ⟨.ref C :: us, ks.zip ws⟩)).guards = some [] := by
    show pushGuards (Code.guards (.builtin "type.__call__" ⟨.ref C :: us, ks.zip ws⟩)) X.A.guards = some []
    rw [hr.g]
    first
      | rfl
      | simp [Code.guards, Code.isGuard, pushGuards]
  refine wpAny_call (make_map (f := fA) I.kIn M.makes M.init (beq_iff_eq.mp M.fn) (codeAny_mono (F.go _ X.stack _ _ ⟨Value.ref (s.heap.objs.size + 1) :: us, ks.zip ws⟩ _ _ _ E (hr.r.make C us (ks.zip ws)) hgu
    (I2.env0.make C us (ks.zip ws)) (hb.to _ (Value.ref (s.heap.objs.size + 1) :: us) ws I2.kIn l1 l2) (vals_pick rn ix) hnew) fun res s' hq => ?_))
  match res, hq with
  | .ok (.ret u), hq =>
    obtain ⟨v, H', I3, rv, ev, q3⟩ := I2.after hq
    subst ev
    exact ⟨rv, V.ref (s.heap.objs.size + 1), H', I3, rfl, q3⟩
  | .ok .next, hq => exact False.elim hq
  | .ok .brk, hq => exact False.elim hq
  | .ok .cont, hq => exact False.elim hq
  | .error er, hq => exact False.elim hq
/-- C(.., k = ..): n the positional ones with self -/
def tMkI (C : Addr) (sp : Sp) (n m : Nat) (ix : List Nat) (E : XK) (t tk : TA) : TE := fun σ H Q => t σ H fun vs H1 => tk σ H1 fun zs H2 => vs.length + 1 = n ∧ zs.length = m ∧ ∀ xa dx, H2 xa = none → H2 dx = none → dx ≠ xa →
  sp (pick ix (.ref xa :: (vs ++ zs))) (upd (upd H2 dx (.own xa)) xa (.ins C dx [])) (fun v H3 => v = .non ∧ Q (.ref xa) H3) E
theorem pe_gmk {n : Nat} {ix : List Nat} (M : Mk X.K C fA) (F : FnG X.prog X.w X.K X.mg X.base k fA fd ps sp) (hr : Rm (k + 1) X.A) (hg : Gl X x) (hm : X.mg x = some (.ref C)) (hb : KBd X.K fd ps [] n ix)
    (ha : PA X (e :: es) t) (hdb : (x == ("__debug__" : Str)) = false) (he : starEach (e :: es) X.env = (false, eval e X.env) :: starEach es X.env) (hpl : (backTo pos (starEach es X.env)).any (·.1) = false) :
    PE X (.Call (.Name x p) (e :: es) [] pos) (tMkI C sp n 0 ix E t tNil) := ⟨fun pins s σ H Q I h => by
  refine wpAny_Call_Name_kw (ld_glob I hg hm (PySem.W.callWith_K (h₀ := X.base) I.ok.mod.kin M.kp (thn (ha.run pos pins s σ H _ I h) fun us s1 hv => ?_) he hpl) hdb)
  obtain ⟨vs, H1, I1, r, l1, l2, q⟩ := hv
  exact ⟨I1.kIn, run_gmk (us := us) (ks := []) (ws := []) M F hr hb (by rw [← r.length]; exact l1) rfl I1 (by rw [List.append_nil]; exact r) (by rw [List.append_nil] at q; exact q)⟩⟩
end
end PL
set_option Elab.async false
set_option linter.all false
set_option maxRecDepth 100000
set_option maxHeartbeats 4000000
namespace PL
open PySem PySem.Spec PyProof.Rows L2
section
variable {X : Cx} {z : Z} {O OI OM OO OL : List Nat} {EX : EXT} {a b c e : Expr} {es : List Expr} {f g h : FE} {fa : FA} {fs gs : FS} {pos : Pos} {st : Stmt} {sts : List Stmt}
variable {B : List Addr} {P : List (Nat × Addr)} {σ σ' : L2.St} {H H' : Hp} {ρ ρ' : Env} {S S' : List D}
/-! ### one reading for all contexts -/
def tCanE (z : Z) (O : List Nat) (EX : EXT) (f : FE) : TE := fun σ H Q => ∃ B P ρ S, P.map (·.1) = O ∧ Rel z B P σ H ρ S ∧ Sat (f ρ S) (fun r => ∀ v H', Grow z H H' → Rel z B P σ H' ρ r.2 → Rp z.K z.ca (Frz H' (z.L B P)) v r.1 → Q v H') EX
theorem PD.can (ha : PD X z O EX e f) : PE X e (tCanE z O EX f) := by
  obtain ⟨t, p, q⟩ := ha.ex
  exact ⟨fun pins s σ H Q I ⟨B, P, ρ, S, hP, r, h⟩ => p.run pins s σ H Q I (q B P σ H ρ S Q hP r h)⟩
theorem can_E : EvE z O EX (tCanE z O EX f) f := fun B P σ H ρ S Q hP r h => ⟨B, P, ρ, S, hP, r, h⟩
def tCanT (z : Z) (O : List Nat) (EX : EXT) (f : FT) : TT := fun σ H Q => ∃ B P ρ S, P.map (·.1) = O ∧ Rel z B P σ H ρ S ∧ Sat (f ρ S) (fun r => ∀ H', Grow z H H' → Rel z B P σ H' ρ r.2 → Q r.1 H') EX
theorem PTd.can {f : FT} (ha : PTd X z O EX e f) : PT X e (tCanT z O EX f) := by
  obtain ⟨t, p, q⟩ := ha.ex
  exact ⟨fun pins s σ H Q I ⟨B, P, ρ, S, hP, r, h⟩ => p.run pins s σ H Q I (q B P σ H ρ S Q hP r h)⟩
def tCanG (z : Z) (O : List Nat) (EX : EXT) (ts : List Nat) (g : FG) : TG := fun v σ H Q => ∃ B P ρ S d, P.map (·.1) = O ∧ Rel z B P σ H ρ S ∧ Rp z.K z.ca (Frz H (z.L B P)) v d ∧
  Sat (g d ρ S) (fun r => ∀ σ' H', Grow z H H' → Rel z B P σ' H' r.1 r.2 → σ'.length = σ.length → (∀ i, i ∉ ts → σ'[i]? = σ[i]?) → Q σ' H') EX
theorem PGd.can {ts : List Nat} {g : FG} (ha : PGd X z O EX ts e g) : PG X e (tCanG z O EX ts g) := by
  obtain ⟨t, p, q⟩ := ha.ex
  exact ⟨fun pins s σ H v u Q I rv ⟨B, P, ρ, S, d, hP, r, hv, h⟩ => p.run pins s σ H v u Q I rv (q B P σ H ρ S v d Q hP r hv h)⟩
theorem can_G {ts : List Nat} {g : FG} : EvG z O EX ts (tCanG z O EX ts g) g := fun B P σ H ρ S v d Q hP r hv h => ⟨B, P, ρ, S, d, hP, r, hv, h⟩
/-! ### list comprehensions -/
def wipeE (ρ : Env) : List Nat → Env
  | [] => ρ
  | v :: vs => (wipeE ρ vs).set v none
theorem wipeE_len (ρ : Env) : ∀ vs, (wipeE ρ vs).length = ρ.length
  | [] => rfl
  | v :: vs => by show ((wipeE ρ vs).set v none).length = _; rw [List.length_set, wipeE_len ρ vs]
theorem wipeE_get (ρ : Env) : ∀ vs i, i ∉ vs → (wipeE ρ vs)[i]? = ρ[i]?
  | [], i, _ => rfl
  | v :: vs, i, h => by
    show ((wipeE ρ vs).set v none)[i]? = _
    rw [List.mem_cons, not_or] at h
    rw [List.getElem?_set_ne (Ne.symm h.1), wipeE_get ρ vs i h.2]
theorem wipeE_in (ρ : Env) : ∀ vs i, i ∈ vs → ∀ d, (wipeE ρ vs)[i]? ≠ some (some d)
  | v :: vs, i, h, d => by
    show ((wipeE ρ vs).set v none)[i]? ≠ _
    by_cases e : v = i
    · subst e
      rw [List.getElem?_set]
      simp only [if_true]
      split
      · exact fun z => nomatch z
      · exact fun z => nomatch z
    · rw [List.getElem?_set_ne e]
      rcases List.mem_cons.mp h with h | h
      · exact absurd h.symm e
      · exact wipeE_in ρ vs i h d
theorem wipe_get (σ : L2.St) : ∀ vs i, i ∉ vs → (wipe σ vs)[i]? = σ[i]?
  | [], i, _ => rfl
  | v :: vs, i, h => by
    show ((wipe σ vs).set v none)[i]? = _
    rw [List.mem_cons, not_or] at h
    rw [List.getElem?_set_ne (Ne.symm h.1), wipe_get σ vs i h.2]
theorem wipe_in (σ : L2.St) : ∀ vs i, i ∈ vs → i < σ.length → (wipe σ vs)[i]? = some none
  | v :: vs, i, h, hl => by
    show ((wipe σ vs).set v none)[i]? = _
    by_cases e : v = i
    · subst e
      rw [List.getElem?_set_self (by rw [wipe_length]; exact hl)]
    · rw [List.getElem?_set_ne e]
      rcases List.mem_cons.mp h with h | h
      · exact absurd h.symm e
      · exact wipe_in σ vs i h hl
theorem wipe_eq {vs : List Nat} (hl : σ'.length = σ.length) (k : ∀ i, i ∉ vs → σ'[i]? = σ[i]?) : wipe σ' vs = wipe σ vs := by
  apply List.ext_getElem?
  intro i
  by_cases h : i ∈ vs
  · by_cases hi : i < σ.length
    · rw [wipe_in σ vs i h hi, wipe_in σ' vs i h (by rw [hl]; exact hi)]
    · rw [List.getElem?_eq_none (by rw [wipe_length]; omega), List.getElem?_eq_none (by rw [wipe_length]; omega)]
  · rw [wipe_get σ vs i h, wipe_get σ' vs i h, k i h]
theorem Rel.wipe {vs : List Nat} (r : Rel z B P σ H ρ S) (hP : ∀ p ∈ P, p.1 ∉ vs) (hz : ∀ i a, z.pl = some (i, a) → i ∉ vs) (hk : ∀ i ∈ vs, i ∉ z.kp) : Rel z B P (L2.wipe σ vs) H (wipeE ρ vs) S where
  val := fun i d n h => by
    by_cases hi : i ∈ vs
    · exact absurd h (wipeE_in ρ vs i hi d)
    · rw [wipeE_get ρ vs i hi] at h
      rw [wipe_get σ vs i hi]
      exact r.val i d n h
  own := fun p hp => by
    rw [wipe_get σ vs _ (hP p hp), wipeE_get ρ vs _ (hP p hp)]
    exact r.own p hp
  pool := fun i a e => by
    rw [wipe_get σ vs _ (hz i a e), wipeE_get ρ vs _ (hz i a e)]
    exact r.pool i a e
  nd := r.nd
  there := r.there
  ex := r.ex
  new := r.new
  len := by rw [wipe_length, wipeE_len]; exact r.len
  tabs := r.tabs
  xt := ⟨r.xt.1, fun j hj => by rw [wipe_get σ vs j fun h => hk j h hj]; exact r.xt.2 j hj⟩
def noX {α : Type} (r : R α) : R α := match r with | .ok a => .ok a | _ => .bad
theorem sat_noX {α : Type} {r : R α} {Q : α → Prop} {EX : EXT} (h : Sat (noX r) Q EX) : Sat r Q EX0 := by
  cases r with
  | ok a => exact h
  | exc c ns vs => exact False.elim h
  | bad => exact h
def lcL (vs : List Nat) (g : FG) (tt : FT) (te : FE) (ρ : Env) : List D → List D → List D → R (List D × List D)
  | [], S, acc => R.ok (acc, S)
  | d :: r, S, acc => g d (wipeE ρ vs) S >>= fun ρ1 => tt ρ1.1 ρ1.2 >>= fun b => if b.1 then te ρ1.1 b.2 >>= fun y => (if acc.length < LINE then lcL vs g tt te ρ r y.2 (acc ++ [y.1]) else R.bad) else lcL vs g tt te ρ r b.2 acc
def lcE (vs : List Nat) (fi : FA) (g : FG) (tt : FT) (te : FE) : FA := fun ρ S => fi ρ S >>= fun x => noX (lcL vs g tt te ρ x.1 x.2 [])
def yesT : FT := fun _ S => R.ok (true, S)
theorem evT_yes : EvT z O EX tYes yesT := fun B P σ H ρ S Q hP r h => h H Grow.refl r
theorem ev_lc {ts vs : List Nat} {wi : TI} {gt : TG} {tt : TT} {te : TE} {fi : FA} {gg : FG} {ft : FT} {fe : FE} (qi : EvI z O EX wi fi) (qg : EvG z O EX0 ts gt gg) (qt : EvT z O EX0 tt ft) (qe : EvE z O EX0 te fe)
    (hts : ∀ i ∈ ts, i ∈ vs) (hO : ∀ i ∈ O, i ∉ vs) (hz : ∀ i ∈ vs, NotPl z i) : EvF z O EX (tLc wi gt tt te vs) (lcE vs fi gg ft fe) := by
  intro B P σ H ρ S Q hP rr hs
  refine qi B P σ H ρ S _ hP rr ((sat_bind.mp hs).imp fun x hx J H1 g1 r1 it => ?_)
  intro Da hD
  have hPv : ∀ p ∈ P, p.1 ∉ vs := fun p hp => hO p.1 (by rw [← hP]; exact List.mem_map_of_mem hp)
  have hzv : ∀ i a, z.pl = some (i, a) → i ∉ vs := fun i a e h => (hz i h).1 i a e rfl
  obtain ⟨items, S1⟩ := x
  have hx := sat_noX hx
  obtain ⟨r2, m2⟩ := r1.hide (o := .lst []) hD
  have h0 := h0_none r1 hD (not_pls (r1.fresh hD))
  refine ⟨fun i m H2 => m = items.length - i ∧ i ≤ items.length ∧ ∃ S2 acc av, H2 Da = some (.lst av) ∧ Grow z H1 H2 ∧ Rel z (Da :: B) P σ H2 ρ S2 ∧ Ex (Frz H1 (z.L B P)) (Frz H2 (z.L (Da :: B) P)) ∧ RpA z.K z.ca (Frz H2 (z.L (Da :: B) P)) av acc ∧
    Sat (lcL vs gg ft fe ρ (items.drop i) S2 acc) (fun r => ∀ p xs H', Grow z H H' → H' p = some (.lst xs) → z.H0 p = none → H p = none → Rel z (p :: B) P σ H' ρ r.2 → Ex (Frz H (z.L B P)) (Frz H' (z.L (p :: B) P)) → RpA z.K z.ca (Frz H' (z.L (p :: B) P)) xs r.1 → Q (.ref p) H') EX0,
    ⟨items.length, by simp, Nat.zero_le _, S1, [], [], upd_same, Grow.of (Ex.new hD), r2, m2, .nil, hx⟩, ?_⟩
  rintro i m H2 ⟨rfl, hil, S2, acc, av, e2, g2, r3, m3, ra, h2⟩
  by_cases hlt : i < items.length
  · have ed : items.drop i = items[i] :: items.drop (i + 1) := List.drop_eq_getElem_cons hlt
    rw [ed] at h2
    have it3 : Ex (Frz H1 (z.L B P)) (Frz H2 (z.L (Da :: B) P)) := m3
    refine .inr ⟨it.go i (Da :: B) P H2 it3 hlt, fun H' => items.length - (i + 1) = items.length - (i + 1) ∧ i + 1 ≤ items.length ∧ ∃ S2 acc av, H' Da = some (.lst av) ∧ Grow z H1 H' ∧ Rel z (Da :: B) P σ H' ρ S2 ∧ Ex (Frz H1 (z.L B P)) (Frz H' (z.L (Da :: B) P)) ∧ RpA z.K z.ca (Frz H' (z.L (Da :: B) P)) av acc ∧
      Sat (lcL vs gg ft fe ρ (items.drop (i + 1)) S2 acc) (fun r => ∀ p xs H', Grow z H H' → H' p = some (.lst xs) → z.H0 p = none → H p = none → Rel z (p :: B) P σ H' ρ r.2 → Ex (Frz H (z.L B P)) (Frz H' (z.L (p :: B) P)) → RpA z.K z.ca (Frz H' (z.L (p :: B) P)) xs r.1 → Q (.ref p) H') EX0,
      fun H' n => ⟨items.length - (i + 1), by omega, n⟩, fun x H' y => ?_⟩
    obtain ⟨ex', rp'⟩ := it.yld i (Da :: B) P H2 x H' items[i] it3 (fun p hp => r3.fresh hp) y (by simp [hlt])
    have r3' := r3.grow ex'
    have hDn : Da ∉ z.pls := fun q => by
      have nd := r3.nd
      unfold Z.L at nd
      exact (List.nodup_append.mp (List.nodup_append.mp nd).2.1).2.2 Da q Da List.mem_cons_self rfl
    refine qg (Da :: B) P (L2.wipe σ vs) H' (wipeE ρ vs) S2 x items[i] _ hP (r3'.wipe hPv hzv fun i h => (hz i h).2) rp' ((sat_bind.mp h2).imp fun ρ3 h3 σ3 H3 g3 r4 l4 k4 => ?_)
    refine ⟨?_, ?_⟩
    · have e5 : wipe σ3 vs = wipe (wipe σ vs) vs := wipe_eq l4 fun i hi => k4 i fun q => hi (hts i q)
      have e6 : wipe (wipe σ vs) vs = wipe σ vs := wipe_eq (wipe_length _ _) fun i hi => wipe_get σ vs i hi
      rw [e5, e6]
    · refine qt (Da :: B) P σ3 H3 ρ3.1 ρ3.2 _ hP r4 ((sat_bind.mp h3).imp fun b hb H4 g4 r5 => ?_)
      obtain ⟨k, S5⟩ := b
      cases k with
      | true =>
        show te σ3 H4 _
        have hb : Sat (fe ρ3.1 S5 >>= fun y => if acc.length < LINE then lcL vs gg ft fe ρ (items.drop (i + 1)) y.2 (acc ++ [y.1]) else R.bad) _ EX0 := hb
        refine qe (Da :: B) P σ3 H4 ρ3.1 S5 _ hP r5 ((sat_bind.mp hb).imp fun y hy v H5 g5 r6 hv => ?_)
        split at hy
        · rename_i w
          have gall : Grow z H2 H5 := (Grow.of ex').trans (g3.trans (g4.trans g5))
          have e5 : H5 Da = some (.lst av) := gall Da _ hDn e2
          refine ⟨av, e5, line_lt (by rw [ra.length]; exact w), rfl, hlt, y.2, acc ++ [y.1], av ++ [v], upd_same, ?_, ?_, ?_, ?_, hy⟩
          · intro a o n h
            have ne : a ≠ Da := ne_of_none h hD
            rw [upd_ne ne]
            exact gall a o n (g2 a o n h)
          · -- the new list's content is not looked at by the frame
            have rb := r3.back gall r6
            have hm : Da ∈ z.L (Da :: B) P := by
              unfold Z.L
              exact List.mem_append_right _ (List.mem_append_right _ List.mem_cons_self)
            have ef : Frz (upd H5 Da (.lst (av ++ [v]))) (z.L (Da :: B) P) = Frz H5 (z.L (Da :: B) P) := by
              funext a
              unfold Frz
              by_cases ha : a ∈ z.L (Da :: B) P
              · rw [if_pos ha, if_pos ha]
              · rw [if_neg ha, if_neg ha, upd_ne fun (e1 : a = Da) => ha (by rw [e1]; exact hm)]
            have nP : ∀ p ∈ P, p.2 ≠ Da := fun p hp e => by
              have nd := r3.nd
              unfold Z.L at nd
              exact (List.nodup_append.mp nd).2.2 p.2 (List.mem_map_of_mem hp) Da (List.mem_append_right _ List.mem_cons_self) e
            refine ⟨fun i d n h => ?_, fun p hp => ?_, fun i a e => ?_, rb.nd, fun b hb => ?_, fun a o h n => ?_, rb.new, rb.len, tabs_upd rb.tabs e5 (fun _ z => nomatch z) (fun _ z => nomatch z), rb.xt⟩
            · obtain ⟨v', e1, q⟩ := rb.val i d n h
              exact ⟨v', e1, ef ▸ q⟩
            · obtain ⟨e1, xs, ds, e2, e3, q⟩ := rb.own p hp
              exact ⟨e1, xs, ds, by rw [upd_ne (nP p hp)]; exact e2, e3, ef ▸ q⟩
            · obtain ⟨e1, e0, xs, e2, q⟩ := rb.pool i a e
              have ha : a ∈ z.pls := by
                unfold Z.pls
                rw [e]
                exact List.mem_append_left _ List.mem_cons_self
              exact ⟨e1, e0, xs, by rw [upd_ne fun (e9 : a = Da) => hDn (by rw [← e9]; exact ha)]; exact e2, ef ▸ q⟩
            · by_cases hbD : b = Da
              · rw [hbD, upd_same]; exact fun z => nomatch z
              · rw [upd_ne hbD]; exact rb.there b hb
            · have ne : a ≠ Da := fun e9 => by
                rw [e9, h0] at h
                cases h
              rw [upd_ne ne]
              exact rb.ex a o h n
          · refine m3.trans (gall.frz.trans fun a o h => ?_)
            unfold Frz at h ⊢
            split at h
            · cases h
            · rename_i n
              rw [if_neg n, upd_ne fun (e9 : a = Da) => n (by
                rw [e9]
                unfold Z.L
                exact List.mem_append_right _ (List.mem_append_right _ List.mem_cons_self))]
              exact h
          · have ef : Ex (Frz H5 (z.L (Da :: B) P)) (Frz (upd H5 Da (.lst (av ++ [v]))) (z.L (Da :: B) P)) := fun a o h => by
              unfold Frz at h ⊢
              split at h
              · cases h
              · rename_i n
                rw [if_neg n, upd_ne fun (e9 : a = Da) => n (by
                  rw [e9]
                  unfold Z.L
                  exact List.mem_append_right _ (List.mem_append_right _ List.mem_cons_self))]
                exact h
            exact ((ra.mono gall.frz).append (.cons hv .nil)).mono ef
        · exact hy.elim
      | false =>
        show _ = _ ∧ _
        have gall : Grow z H2 H4 := (Grow.of ex').trans (g3.trans g4)
        exact ⟨rfl, hlt, S5, acc, av, gall Da _ hDn e2, g2.trans gall, r3.back gall r5, m3.trans gall.frz, ra.mono gall.frz, hb⟩
  · have e : i = items.length := by omega
    subst e
    rw [List.drop_length] at h2
    refine .inl ⟨it.stop (Da :: B) P H2 m3, ?_⟩
    exact h2 Da av H2 (g1.trans g2) e2 h0 (g1.none (not_pls (r1.fresh hD)) hD) r3 (g1.frz.trans m3) ra
theorem pf_lc {ts vs : List Nat} {tg iter elt : Expr} {ifs : List Expr} {scope : Scope} {own : List (Str × Nat)} {fi : FA} {gg : FG} {ft : FT} {fe : FE} {tt : TT} (hc : X.calm = true) (hN : X.N.Nodup) (hi : PId X z O EX tg iter fi) (ok : BlkOk X.N X.env.scope scope own)
    (hg : ∀ (s : Shared) (H : Hp) (C : Addr) (cl : List (Str × Addr)) (fp : List Addr), PGd (X.blk s H scope (compEnvC scope cl C X.env) fp) z O EX0 ts tg gg)
    (ht : ∀ (s : Shared) (H : Hp) (C : Addr) (cl : List (Str × Addr)) (fp : List Addr), PTs (X.blk s H scope (compEnvC scope cl C X.env) fp) ifs tt) (qt : EvT z O EX0 tt ft)
    (he : ∀ (s : Shared) (H : Hp) (C : Addr) (cl : List (Str × Addr)) (fp : List Addr), PD (X.blk s H scope (compEnvC scope cl C X.env) fp) z O EX0 elt fe) (hz : ∀ i ∈ own.map (·.2), NotPl z i)
    (hts : (ts.all fun i => (own.map (·.2)).contains i) = true := by rfl) (hO : (O.all fun i => !(own.map (·.2)).contains i) = true := by rfl)
    (hs : ∀ x, foldedSetIterable iter X.env x = pure x := by intro _; rfl) : PF X z O EX (.ListComp elt [⟨tg, iter, ifs, 0⟩] scope pos) (lcE (own.map (·.2)) fi gg ft fe) := by
  obtain ⟨w, pw, qw⟩ := hi.ex
  refine ⟨_, pe_lc hc hN pw ok (fun s H C cl fp => (hg s H C cl fp).can) ht (fun s H C cl fp => (he s H C cl fp).can) hs, ev_lc qw can_G qt can_E (fun i hi => ?_) (fun i hi => ?_) hz⟩
  · have := List.all_eq_true.mp hts i hi
    simpa using this
  · have := List.all_eq_true.mp hO i hi
    simpa using this
/-! ### defs -/
/-- a def's promise: it hands back what F tells; L: what is hidden, the tables T among it -/
def spF (K : PySem.W.Frag) (ca : Str → Option Addr) (T : Tb) (F : List D → R D) : Sp := fun vs H Q _ => ∃ ds B, B.Nodup ∧ (∀ b ∈ B, H b ≠ none) ∧ TIn T B H ∧ RpA K ca (Frz H B) vs ds ∧ Sat (F ds) (fun d => ∀ v H', GrT T H H' → LamX.Tabs T H' → Rp K ca (Frz H' B) v d → Q v H') EX0
/-- .. it changes its first argument, a list of the caller's -/
def spP (K : PySem.W.Frag) (ca : Str → Option Addr) (T : Tb) (F : List D → List D → R (D × List D)) : Sp := fun vs H Q _ => ∃ p ws xs S ds B, vs = .ref p :: ws ∧ H p = some (.lst xs) ∧ (p :: B).Nodup ∧ (∀ b ∈ B, H b ≠ none) ∧ TIn T B H ∧ RpA K ca (Frz H (p :: B)) xs S ∧ RpA K ca (Frz H (p :: B)) ws ds ∧
  Sat (F S ds) (fun r => ∀ v H' xs', (∀ a o, a ≠ p → a ∉ tbs T → H a = some o → H' a = some o) → LamX.Tabs T H' → H' p = some (.lst xs') → RpA K ca (Frz H' (p :: B)) xs' r.2 → Rp K ca (Frz H' (p :: B)) v r.1 → Q v H') EX0
/-- .. it hands back a new list -/
def spN (K : PySem.W.Frag) (ca : Str → Option Addr) (T : Tb) (F : List D → R (List D)) : Sp := fun vs H Q _ => ∃ ds B, B.Nodup ∧ (∀ b ∈ B, H b ≠ none) ∧ TIn T B H ∧ RpA K ca (Frz H B) vs ds ∧
  Sat (F ds) (fun d => ∀ p xs H', H p = none → GrT T H H' → LamX.Tabs T H' → H' p = some (.lst xs) → RpA K ca (Frz H' (p :: B)) xs d → Q (.ref p) H') EX0
def endD (r : Ctl × Env × List D) : R D := match r.1 with | .rt d => R.ok d | .nx => R.ok .non | _ => R.bad
def startE (n : Nat) (ds : List D) : Env := ds.map some ++ List.replicate (n - ds.length) none
/-- a def's function: n places, k parameters -/
def runF (n k : Nat) (fs : FS) : List D → R D := fun ds => if ds.length = k then fs (startE n ds) [] >>= endD else R.bad
/-- what is hidden beside the tables -/
def beside (T : Tb) (L : List Addr) : List Addr := L.filter fun a => !decide (a ∈ tbs T)
theorem beside_mem {T : Tb} {L : List Addr} {a : Addr} : a ∈ beside T L ↔ a ∈ L ∧ a ∉ tbs T := by
  unfold beside
  rw [List.mem_filter]
  simp
theorem beside_nd {T : Tb} {L : List Addr} (h : L.Nodup) (t : (tbs T).Nodup) : (tbs T ++ beside T L).Nodup :=
  List.nodup_append.mpr ⟨t, h.filter _, fun a ha b hb e => (beside_mem.mp hb).2 (e ▸ ha)⟩
theorem beside_iff {T : Tb} {L : List Addr} (s : ∀ a ∈ tbs T, a ∈ L) (a : Addr) : a ∈ tbs T ++ beside T L ↔ a ∈ L := by
  rw [List.mem_append, beside_mem]
  refine ⟨fun h => h.elim (s a) (·.1), fun h => ?_⟩
  by_cases q : a ∈ tbs T
  · exact .inl q
  · exact .inr ⟨h, q⟩
theorem rel_start {K : PySem.W.Frag} {ca : Str → Option Addr} {T : Tb} {N : List Str} {vs : List V} {ds : List D} (hB : B.Nodup) (hb : ∀ b ∈ B, H b ≠ none) (ti : TIn T B H) (hv : RpA K ca (Frz H B) vs ds) : Rel ⟨K, ca, H, none, .lst, T, [], [], []⟩ (beside T B) [] (L2.start N vs) H (startE N.length ds) [] where
  val := fun i d _ h => by
    have hl := hv.length
    unfold startE at h
    unfold L2.start
    by_cases hi : i < ds.length
    · rw [List.getElem?_append_left (by simpa using hi), List.getElem?_map] at h
      cases e : ds[i]? with
      | none => rw [e] at h; cases h
      | some d' =>
        rw [e] at h
        cases h
        obtain ⟨v, e1, q⟩ := hv.get e
        have ef : Frz H (Z.L ⟨K, ca, H, none, .lst, T, [], [], []⟩ (beside T B) []) = Frz H B := frz_congr fun a => beside_iff ti.sub a
        exact ⟨v, by rw [List.getElem?_append_left (by simp; omega), List.getElem?_map, e1]; rfl, ef ▸ q⟩
    · rw [List.getElem?_append_right (by simp; omega)] at h
      have := List.mem_of_getElem? h
      rw [List.mem_replicate] at this
      cases this.2
  own := fun p hp => nomatch hp
  pool := fun i a h => nomatch h
  nd := beside_nd hB ti.nd
  there := fun b hb' => hb b (beside_mem.mp hb').1
  ex := fun a o h _ => h
  new := fun p hp => nomatch hp
  len := by unfold L2.start startE; simp [hv.length]
  tabs := ti.tabs
  xt := ⟨fun _ h => (nomatch h), fun _ h => (nomatch h)⟩
section
variable {Pg : Program} {w : World} {K : PySem.W.Frag} {mg : Str → Option Value} {base : Heap} {ca : Str → Option Addr} {T : Tb}
theorem fn_d {x qual : Str} {st : Stmt} {fA : Addr} {fd : FuncData} {N ps : List Str} {k : Nat} {fs : FS} {OO : List Nat} (F : Fun K x qual st fA fd) (Sc : FnScope N ps (defScope st))
    (body : ∀ (cdv : Value) (A : Around) (outer : List PySem.Env) (s : Shared) (H : Hp) (E : XK), Rm k (A.deeper (envOfC qual (defScope st) s.heap.objs.size fA cdv)) →
      PSS (cxOf CX0 Pg w K mg base N qual (defScope st) fA cdv A outer s H E).nox ⟨K, ca, H, none, .lst, T, [], [], []⟩ [] OO [] EX0 (defBody st) fs) :
    FnG Pg w K mg base (k + 1) fA fd ps (spF K ca T (runF N.length ps.length fs)) := by
  refine fn_body F Sc (fun vs H Q E h => ?_) (fun cdv A outer s H vs Q E hr hgu h => ?_)
  · obtain ⟨ds, B, _, _, _, hv, hs⟩ := h
    rw [hv.length]
    unfold runF at hs
    split at hs
    · assumption
    · exact hs.elim
  · obtain ⟨ds, B, hB, hb, ti, hv, hs⟩ := h
    obtain ⟨t, p, q⟩ := (body cdv A outer s H E ⟨hr, hgu⟩).ex
    refine ⟨t, p, ?_⟩
    unfold runF at hs
    split at hs
    · have ef : ∀ H', Frz H' (Z.L ⟨K, ca, H, none, .lst, T, [], [], []⟩ (beside T B) []) = Frz H' B := fun H' => frz_congr fun a => beside_iff ti.sub a
      refine q (beside T B) [] (L2.start N vs) H (startE N.length ds) [] _ rfl (rel_start hB hb ti hv) ((sat_bind.mp hs).imp fun r hr => ?_)
      obtain ⟨c, ρ1, S1⟩ := r
      cases c with
      | nx =>
        intro P' σ' H' h1 h2 h3
        have hr : ∀ v H', GrT T H H' → LamX.Tabs T H' → Rp K ca (Frz H' B) v .non → Q v H' := hr
        exact hr .non H' (fun a o n e => h3.ex a o e n) h3.tabs .non
      | rt d =>
        intro v H' hf
        have hr : ∀ v H', GrT T H H' → LamX.Tabs T H' → Rp K ca (Frz H' B) v d → Q v H' := hr
        exact hr v H' (fun a o n e => hf.ex a o e n) hf.tabs (ef H' ▸ hf.val)
      | bk => exact hr.elim
      | ct => exact hr.elim
    · exact hs.elim
end
end
end PL
set_option Elab.async false
set_option linter.all false
set_option maxRecDepth 100000
set_option maxHeartbeats 4000000
namespace PL
open PySem PySem.Spec PyProof.Rows L2
section
variable {X : Cx} {z : Z} {O OI OM OO OL : List Nat} {EX : EXT} {a b c e o : Expr} {es : List Expr} {f g h : FE} {fa ga : FA} {fs gs : FS} {pos p apos : Pos} {st : Stmt} {sts : List Stmt}
variable {B : List Addr} {P : List (Nat × Addr)} {σ σ' : L2.St} {H H' : Hp} {ρ ρ' : Env} {S S' : List D} {x m : Str}
variable {k : Nat} {fA C : Addr} {fd : FuncData} {ps : List Str} {ds : List Value} {dvs : List V} {dds : List D} {kws : List Keyword}
/-! ### calls of defs -/
theorem Rel.tin (r : Rel z B P σ H ρ S) : TIn z.tb (z.L B P) H := by
  have nd := r.nd
  unfold Z.L Z.pls at nd
  refine ⟨(List.nodup_append.mp (List.nodup_append.mp (List.nodup_append.mp nd).2.1).1).2.1, fun a ha => ?_, r.tabs⟩
  unfold Z.L Z.pls
  exact List.mem_append_right _ (List.mem_append_left _ (List.mem_append_right _ ha))
theorem GrT.grow (g : GrT z.tb H H') : Grow z H H' := fun a o n h => g a o (fun q => n (by unfold Z.pls; exact List.mem_append_right _ q)) h
/-- behind a call: all as it was, but for the tables -/
theorem Rel.growT (r : Rel z B P σ H ρ S) (g : GrT z.tb H H') (tt : LamX.Tabs z.tb H') : Rel z B P σ H' ρ S := by
  have g' : Grow z H H' := g.grow
  have nd := r.nd
  have npl : ∀ a ∈ P.map (·.2), a ∉ z.pls := fun a ha hb => by
    unfold Z.L at nd
    exact (List.nodup_append.mp nd).2.2 a ha a (List.mem_append_left _ hb) rfl
  have nB : ∀ a ∈ B, a ∉ z.pls := fun a ha hb => by
    unfold Z.L at nd
    exact (List.nodup_append.mp (List.nodup_append.mp nd).2.1).2.2 a hb a ha rfl
  refine ⟨fun i d n h => ?_, fun q hq => ?_, fun i a e => ?_, r.nd, fun b hb => ?_, fun a o h n => g' a o n (r.ex a o h n), r.new, r.len, tt, r.xt⟩
  · obtain ⟨v, e1, q⟩ := r.val i d n h
    exact ⟨v, e1, q.mono g'.frz⟩
  · obtain ⟨e1, xs, ds, e2, e3, q'⟩ := r.own q hq
    exact ⟨e1, xs, ds, g' _ _ (npl _ (List.mem_map_of_mem hq)) e2, e3, q'.mono g'.frz⟩
  · obtain ⟨e1, e0, xs, e2, q⟩ := r.pool i a e
    refine ⟨e1, e0, xs, g a _ (fun h => ?_) e2, q.mono g'.frz⟩
    unfold Z.L Z.pls at nd
    exact (List.nodup_append.mp (List.nodup_append.mp (List.nodup_append.mp nd).2.1).1).2.2 a (by rw [e]; exact List.mem_cons_self) a h rfl
  · have q := r.there b hb
    cases e : H b with
    | none => exact absurd e q
    | some u => rw [g' b u (nB b hb) e]; exact fun z => nomatch z
def callD (F : List D → R D) (dds : List D) (fa : FA) : FE := fun ρ S => fa ρ S >>= fun x => noX (F (x.1 ++ dds)) >>= fun d => R.ok (d, x.2)
theorem spF_of {F : List D → R D} {vs : List V} {xs : List D} {Q : VK} {E : XK} (r1 : Rel z B P σ H ρ S) (hv : RpA z.K z.ca (Frz H (z.L B P)) vs xs)
    (hs : Sat (noX (F xs) >>= fun d => R.ok (d, S)) (fun r => ∀ v H', Grow z H H' → Rel z B P σ H' ρ r.2 → Rp z.K z.ca (Frz H' (z.L B P)) v r.1 → Q v H') EX) : spF z.K z.ca z.tb F vs H Q E := by
  refine ⟨xs, z.L B P, r1.nd, fun b hb => r1.lt hb, r1.tin, hv, ?_⟩
  exact (sat_noX (sat_bind.mp hs)).imp fun d hd v H' e' tt hv' => hd v H' e'.grow (r1.growT e' tt) hv'
theorem pd_call {F : List D → R D} (G : FnG X.prog X.w X.K X.mg X.base k fA fd ps (spF z.K z.ca z.tb F)) (hr : Rm k X.A) (hm : X.mg x = some (.ref fA)) (hk : PySem.W.keepIn X.K (.ref fA) = true) (hb : Binds X.K fd ps ds) (hd : Vals dvs ds) (hdd : ∀ F', RpA z.K z.ca F' dvs dds)
    (ha : PAd X z O EX (e :: es) fa) (hg : Gl X x := by rfl) (hdb : (x == ("__debug__" : Str)) = false := by decide) (he : starEach (e :: es) X.env = (false, eval e X.env) :: starEach es X.env := by rfl) (hpl : (backTo pos (starEach es X.env)).any (·.1) = false := by rfl) :
    PD X z O EX (.Call (.Name x p) (e :: es) [] pos) (callD F dds fa) := by
  obtain ⟨t, pt, q⟩ := ha.ex
  refine ⟨_, pe_g (E := E0) G hr hg hm hk hb hd pt hdb he hpl, fun B P σ H ρ S Q hP rr hs => ?_⟩
  refine q B P σ H ρ S _ hP rr ((sat_bind.mp hs).imp fun w hw vs H1 g1 r1 hv => ?_)
  refine spF_of r1 (hv.append (hdd _)) (hw.imp fun r hr v H' g' r' hv' => hr v H' (g1.trans g') r' hv')
/-- a def that hands back a new list -/
def callN (F : List D → R (List D)) (dds : List D) (fa : FA) : FA := fun ρ S => fa ρ S >>= fun x => noX (F (x.1 ++ dds)) >>= fun d => R.ok (d, x.2)
theorem pf_call {F : List D → R (List D)} (G : FnG X.prog X.w X.K X.mg X.base k fA fd ps (spN z.K z.ca z.tb F)) (hr : Rm k X.A) (hm : X.mg x = some (.ref fA)) (hk : PySem.W.keepIn X.K (.ref fA) = true) (hb : Binds X.K fd ps ds) (hd : Vals dvs ds) (hdd : ∀ F', RpA z.K z.ca F' dvs dds)
    (ha : PAd X z O EX (e :: es) fa) (hg : Gl X x := by rfl) (hdb : (x == ("__debug__" : Str)) = false := by decide) (he : starEach (e :: es) X.env = (false, eval e X.env) :: starEach es X.env := by rfl) (hpl : (backTo pos (starEach es X.env)).any (·.1) = false := by rfl) :
    PF X z O EX (.Call (.Name x p) (e :: es) [] pos) (callN F dds fa) := by
  obtain ⟨t, pt, q⟩ := ha.ex
  refine ⟨_, pe_g (E := E0) G hr hg hm hk hb hd pt hdb he hpl, fun B P σ H ρ S Q hP rr hs => ?_⟩
  refine q B P σ H ρ S _ hP rr ((sat_bind.mp hs).imp fun w hw vs H1 g1 r1 hv => ?_)
  refine ⟨w.1 ++ dds, z.L B P, r1.nd, fun b hb => r1.lt hb, r1.tin, hv.append (hdd _), ?_⟩
  refine (sat_noX (sat_bind.mp hw)).imp fun d hd p xs H' hp e' tt hp' hxs => ?_
  have r9 := r1.growT e' tt
  have hn := r1.fresh hp
  have pm : List.Perm (z.L (p :: B) P) (p :: z.L B P) := by
    unfold Z.L
    rw [← List.append_assoc, ← List.append_assoc]
    exact List.perm_middle
  have ef : Frz H' (z.L (p :: B) P) = Frz H' (p :: z.L B P) := frz_congr fun a => pm.mem_iff
  have m : Ex (Frz H1 (z.L B P)) (Frz H' (z.L (p :: B) P)) := fun a u h => by
    rw [ef]
    have ha := frz_ex _ _ _ _ h
    have hl : a ∉ z.L B P := fun q => by
      unfold Frz at h
      rw [if_pos q] at h
      cases h
    refine frz_of (e' a u (fun q => hl (r1.tin.sub a q)) ha) fun q => ?_
    rcases List.mem_cons.mp q with q | q
    · rw [q, hp] at ha; cases ha
    · exact hl q
  refine hd p xs H' (g1.trans e'.grow) hp' (h0_none r1 hp (not_pls hn)) (g1.none (not_pls hn) hp) ⟨fun i d n h => ?_, fun q hq => ?_, fun i a e => ?_, pm.symm.nodup (List.nodup_cons.mpr ⟨hn, r1.nd⟩), fun b hb => ?_, fun a u h n => r9.ex a u h n, r1.new, r1.len, tt, ⟨fun a ha => ⟨(r1.xt.1 a ha).1, List.mem_cons_of_mem _ (r1.xt.1 a ha).2⟩, r1.xt.2⟩⟩ (g1.frz.trans m) (ef ▸ hxs)
  · obtain ⟨v, e1, q⟩ := r1.val i d n h
    exact ⟨v, e1, q.mono m⟩
  · obtain ⟨e1, xs, ds, e2, e3, q⟩ := r1.own q hq
    obtain ⟨_, xs', ds', e2', e3', _⟩ := r9.own _ hq
    obtain ⟨_, xs2, ds2, e5, e6, q6⟩ := r1.own _ hq
    have nT : ∀ a, a ∈ tbs z.tb → a ∈ z.pls := fun a ha => by unfold Z.pls; exact List.mem_append_right _ ha
    rename_i q0 hq0 _ _
    have n0 := r1.nd
    unfold Z.L at n0
    exact ⟨e1, xs, ds, e' _ _ (fun h => (List.nodup_append.mp n0).2.2 _ (List.mem_map_of_mem hq) _ (List.mem_append_left _ (nT _ h)) rfl) e2, e3, q.mono m⟩
  · obtain ⟨e1, e0, xs, e2, q⟩ := r1.pool i a e
    have n0 := r1.nd
    unfold Z.L Z.pls at n0
    exact ⟨e1, e0, xs, e' _ _ (fun h => (List.nodup_append.mp (List.nodup_append.mp (List.nodup_append.mp n0).2.1).1).2.2 a (by rw [e]; exact List.mem_cons_self) a h rfl) e2, q.mono m⟩
  · rcases List.mem_cons.mp hb with h | h
    · rw [h, hp']
      exact fun z => nomatch z
    · exact r9.there b h
/-- a def called with the in-out list first -/
def callP (F : List D → List D → R (D × List D)) (fa : FA) : FE := fun ρ S => fa ρ S >>= fun x => noX (F x.2 x.1)
theorem Z.pls_at {i : Nat} {p : Addr} (hz : z.pl = some (i, p)) : z.pls = p :: tbs z.tb := by
  unfold Z.pls
  rw [hz]
  rfl
theorem Rel.repool {i : Nat} {p : Addr} {xs : List V} (r : Rel z B P σ H ρ S) (hz : z.pl = some (i, p)) (e : ∀ a o, a ≠ p → a ∉ tbs z.tb → H a = some o → H' a = some o) (tt : LamX.Tabs z.tb H') (hp : H' p = some (z.sh xs)) (rp : RpA z.K z.ca (Frz H' (z.L B P)) xs S') : Rel z B P σ H' ρ S' ∧ Grow z H H' := by
  have hpls := Z.pls_at hz
  have g : Grow z H H' := fun a o n h => e a o (fun q => n (by rw [hpls, q]; exact List.mem_cons_self)) (fun q => n (by rw [hpls]; exact List.mem_cons_of_mem _ q)) h
  have nd := r.nd
  unfold Z.L at nd
  refine ⟨⟨fun i d n h => ?_, fun q hq => ?_, fun j a h => ?_, r.nd, fun b hb => ?_, fun a o h n => g a o n (r.ex a o h n), r.new, r.len, tt, r.xt⟩, g⟩
  · obtain ⟨v, e1, q⟩ := r.val i d n h
    exact ⟨v, e1, q.mono g.frz⟩
  · obtain ⟨e1, xs, ds, e2, e3, q'⟩ := r.own q hq
    have n : q.2 ∉ z.pls := fun h => (List.nodup_append.mp nd).2.2 q.2 (List.mem_map_of_mem hq) q.2 (List.mem_append_left _ h) rfl
    exact ⟨e1, xs, ds, g _ _ n e2, e3, q'.mono g.frz⟩
  · obtain ⟨e1, e0, _⟩ := r.pool j a h
    rw [hz] at h
    cases h
    exact ⟨e1, e0, xs, hp, rp⟩
  · have q := r.there b hb
    cases h : H b with
    | none => exact absurd h q
    | some u =>
      rw [g b u (fun q => (List.nodup_append.mp (List.nodup_append.mp nd).2.1).2.2 b q b hb rfl) h]
      exact fun z => nomatch z
theorem pd_callP (i : Nat) {y : Str} {py : Pos} {F : List D → List D → R (D × List D)} (hsh : z.sh = .lst) (hzi : ∃ a, z.pl = some (i, a)) (G : FnG X.prog X.w X.K X.mg X.base k fA fd ps (spP z.K z.ca z.tb F)) (hr : Rm k X.A) (hm : X.mg x = some (.ref fA)) (hk : PySem.W.keepIn X.K (.ref fA) = true) (hb : Binds X.K fd ps [])
    (ha : PAd X z O EX es fa) (hN : X.N[i]? = some y := by rfl) (hv : Vis X.env.scope y := by first | exact Or.inl rfl | exact Or.inr (Or.inl rfl) | exact Or.inr (Or.inr rfl))
    (hd : (y == ("__debug__" : Str)) = false := by decide) (hcd : (y == ("__classdict__" : Str)) = false := by decide)
    (hg : Gl X x := by rfl) (hdb : (x == ("__debug__" : Str)) = false := by decide) (he : starEach (.Name y py :: es) X.env = (false, eval (.Name y py) X.env) :: starEach es X.env := by rfl) (hpl : (backTo pos (starEach es X.env)).any (·.1) = false := by rfl) :
    PD X z O EX (.Call (.Name x p) (.Name y py :: es) [] pos) (callP F fa) := by
  obtain ⟨t, pt, q⟩ := ha.ex
  refine ⟨_, pe_g (E := E0) G hr hg hm hk hb .nil (pa_cons (pe_var hN hv hd hcd) pt he) hdb he hpl, fun B P σ H ρ S Q hP rr hs => ?_⟩
  obtain ⟨a, hz⟩ := hzi
  obtain ⟨e1, e0, xs0, e2, _⟩ := rr.pool i a hz
  refine ⟨_, e1, ?_⟩
  refine q B P σ H ρ S _ hP rr ((sat_bind.mp hs).imp fun w hw vs H1 g1 r1 hv => ?_)
  obtain ⟨_, _, xs, e2, q3⟩ := r1.pool i a hz
  rw [hsh] at e2
  have hpls := Z.pls_at hz
  have pm : List.Perm (z.L B P) (a :: (P.map (·.2) ++ (tbs z.tb ++ B))) := by
    unfold Z.L
    rw [hpls]
    exact List.perm_middle
  have ef : ∀ H2, Frz H2 (z.L B P) = Frz H2 (a :: (P.map (·.2) ++ (tbs z.tb ++ B))) := fun H2 => frz_congr fun b => pm.mem_iff
  refine ⟨a, vs, xs, w.2, w.1, P.map (·.2) ++ (tbs z.tb ++ B), by rw [List.append_nil], e2, pm.nodup r1.nd, fun b hb => r1.lt (pm.mem_iff.mpr (List.mem_cons_of_mem _ hb)), ⟨r1.tin.nd, fun b hb => List.mem_append_right _ (List.mem_append_left _ hb), r1.tabs⟩, ef H1 ▸ q3, ef H1 ▸ hv, ?_⟩
  refine (sat_noX hw).imp fun r hr v H' xs' e' tt hp' hxs hv' => ?_
  obtain ⟨r2, g2⟩ := r1.repool (S' := r.2) hz e' tt (by rw [hsh]; exact hp') (ef H' ▸ hxs)
  exact hr v H' (g1.trans g2) r2 (ef H' ▸ hv')
/-- a def called with a new list first, that nobody looks at behind it -/
def callPN (F : List D → List D → R (D × List D)) (fn : FA) : FE := fun ρ S => fn ρ S >>= fun x => noX (F x.1 []) >>= fun r => R.ok (r.1, x.2)
theorem pd_callPN {F : List D → List D → R (D × List D)} (G : FnG X.prog X.w X.K X.mg X.base k fA fd ps (spP z.K z.ca z.tb F)) (hr : Rm k X.A) (hm : X.mg x = some (.ref fA)) (hk : PySem.W.keepIn X.K (.ref fA) = true) (hb : Binds X.K fd ps [])
    (ha : PF X z O EX e fa) (hg : Gl X x := by rfl) (hdb : (x == ("__debug__" : Str)) = false := by decide) (he : starEach [e] X.env = (false, eval e X.env) :: starEach [] X.env := by rfl) (hpl : (backTo pos (starEach [] X.env)).any (·.1) = false := by rfl) :
    PD X z O EX (.Call (.Name x p) [e] [] pos) (callPN F fa) := by
  obtain ⟨t, pt, q⟩ := ha.ex
  refine ⟨_, pe_g (E := E0) G hr hg hm hk hb .nil (pa_cons pt pa_nil he) hdb he hpl, fun B P σ H ρ S Q hP rr hs => ?_⟩
  refine q B P σ H ρ S _ hP rr ((sat_bind.mp hs).imp fun w hw a xs H1 g1 e1 e0 en r1 m hv => ?_)
  have pm : List.Perm (z.L (a :: B) P) (a :: z.L B P) := by
    unfold Z.L
    rw [← List.append_assoc, ← List.append_assoc]
    exact List.perm_middle
  have ef : ∀ H2, Frz H2 (z.L (a :: B) P) = Frz H2 (a :: z.L B P) := fun H2 => frz_congr fun b => pm.mem_iff
  refine ⟨a, [], xs, w.1, [], z.L B P, by rfl, e1, pm.nodup r1.nd, fun b hb => r1.lt (pm.mem_iff.mpr (List.mem_cons_of_mem _ hb)), ⟨r1.tin.nd, fun b hb => by unfold Z.L Z.pls; exact List.mem_append_right _ (List.mem_append_left _ (List.mem_append_right _ hb)), r1.tabs⟩, ef H1 ▸ hv, .nil, ?_⟩
  refine (sat_noX (sat_bind.mp hw)).imp fun r hr v H' xs' e' tt hp' hxs hv' => ?_
  -- behind the call the list is as any other
  have r1s := r1.show1 e0
  have hna := r1s.2.2
  have nT : ∀ b, b ∉ z.pls → b ∉ tbs z.tb := fun b h q => h (by unfold Z.pls; exact List.mem_append_right _ q)
  have mm : Ex (Frz H1 (z.L (a :: B) P)) (Frz H' (z.L B P)) := fun b u h => by
    have hb := frz_ex _ _ _ _ h
    have nb : b ∉ z.L (a :: B) P := fun q => by
      unfold Frz at h
      rw [if_pos q] at h
      cases h
    have nba : b ≠ a := fun q => nb (pm.mem_iff.mpr (by rw [q]; exact List.mem_cons_self))
    exact frz_of (e' b u nba (nT b (not_pls nb)) hb) fun q => nb (pm.mem_iff.mpr (List.mem_cons_of_mem _ q))
  have n0 := r1.nd
  unfold Z.L at n0
  refine hr v H' (fun b u n h => e' b u (ne_of_none h en) (nT b n) (g1 b u n h)) ⟨fun i d n h => ?_, fun q hq => ?_, fun i c h => ?_, r1s.1.nd, fun b hb => ?_, fun b u h n => ?_, r1.new, r1.len, tt, r1s.1.xt⟩ (hv'.mono (frz_sub fun b hb => List.mem_cons_of_mem _ hb))
  · obtain ⟨v, e1, q⟩ := r1.val i d n h
    exact ⟨v, e1, q.mono mm⟩
  · obtain ⟨e1, xs, ds, e2, e3, q'⟩ := r1.own q hq
    have n : q.2 ≠ a := fun e9 => hna (by
      rw [← e9]
      unfold Z.L
      exact List.mem_append_left _ (List.mem_map_of_mem hq))
    exact ⟨e1, xs, ds, e' _ _ n (nT _ fun h => (List.nodup_append.mp n0).2.2 _ (List.mem_map_of_mem hq) _ (List.mem_append_left _ h) rfl) e2, e3, q'.mono mm⟩
  · obtain ⟨e1, e0, xs, e2, q'⟩ := r1.pool i c h
    have n : c ≠ a := fun e9 => hna (by
      rw [← e9]
      unfold Z.L Z.pls
      rw [h]
      exact List.mem_append_right _ (List.mem_append_left _ (List.mem_append_left _ List.mem_cons_self)))
    refine ⟨e1, e0, xs, e' _ _ n (fun q => ?_) e2, q'.mono mm⟩
    unfold Z.pls at n0
    exact (List.nodup_append.mp (List.nodup_append.mp (List.nodup_append.mp n0).2.1).1).2.2 c (by rw [h]; exact List.mem_cons_self) c q rfl
  · have q := r1s.1.there b hb
    have n : b ≠ a := fun e9 => hna (by
      rw [← e9]
      unfold Z.L
      exact List.mem_append_right _ (List.mem_append_right _ hb))
    cases h : H1 b with
    | none => exact absurd h q
    | some u =>
      rw [e' b u n (nT b fun z1 => (List.nodup_append.mp (List.nodup_append.mp n0).2.1).2.2 b z1 b (List.mem_cons_of_mem _ hb) rfl) h]
      exact fun z => nomatch z
  · have n' : b ≠ a := fun e9 => by
      rw [e9, e0] at h
      cases h
    exact e' b u n' (nT b n) (r1.ex b u h n)
end
end PL
set_option Elab.async false
set_option linter.all false
set_option maxRecDepth 100000
set_option maxHeartbeats 4000000
namespace PL
open PySem PySem.Spec PyProof.Rows L2
section
variable {X : Cx} {z : Z} {O OI OM OO OL : List Nat} {EX : EXT} {a b c e o : Expr} {es : List Expr} {f g h : FE} {fa ga fk : FA} {fs gs : FS} {pos p apos : Pos} {st : Stmt} {sts : List Stmt}
variable {B : List Addr} {P : List (Nat × Addr)} {σ σ' : L2.St} {H H' : Hp} {ρ ρ' : Env} {S S' : List D} {x m : Str}
variable {k : Nat} {fA C : Addr} {fd : FuncData} {ps ks : List Str} {ds : List Value} {dvs : List V} {dds : List D} {kws : List Keyword}
/-! ### keywords -/
theorem rpa_pick {K : PySem.W.Frag} {ca : Str → Option Addr} {F : Hp} {vs : List V} {es : List D} (r : RpA K ca F vs es) : ∀ ix : List Nat, RpA K ca F (pick ix vs) (pick ix es)
  | [] => .nil
  | i :: ix => by
    have ih := rpa_pick r ix
    unfold pick at ih ⊢
    rw [List.filterMap_cons, List.filterMap_cons]
    cases e : vs[i]? with
    | none =>
      have : es[i]? = none := by
        rw [List.getElem?_eq_none_iff] at e ⊢
        rw [← r.length]
        exact e
      rw [this]; exact ih
    | some v =>
      obtain ⟨u, e1, h⟩ := r.getV e
      rw [e1]
      exact .cons h ih
structure PKd (X : Cx) (z : Z) (O : List Nat) (EX : EXT) (kws : List Keyword) (f : FA) : Prop where
  ex : ∃ t, PK X kws t ∧ EvA z O EX t f
theorem pkd_nil : PKd X z O EX [] nilA := ⟨_, pk_nil, fun B P σ H ρ S Q hP rr hs => hs [] H Grow.refl rr .nil⟩
theorem pkd_cons {nm : Option Str} {kpos : Pos} (ha : PD X z O EX e f) (hr : PKd X z O EX kws fa) : PKd X z O EX (⟨nm, e, kpos⟩ :: kws) (consA f fa) := by
  obtain ⟨t, p, q⟩ := ha.ex
  obtain ⟨u, p2, q2⟩ := hr.ex
  refine ⟨_, pk_cons p p2, fun B P σ H ρ S Q hP rr hs => ?_⟩
  refine q B P σ H ρ S _ hP rr ((sat_bind.mp hs).imp fun x hx v H1 g1 r1 hv => ?_)
  refine q2 B P σ H1 ρ x.2 _ hP r1 ((sat_bind.mp hx).imp fun y hy vs H2 g2 r2 hvs => ?_)
  exact hy (v :: vs) H2 (g1.trans g2) r2 (.cons (hv.mono g2.frz) hvs)
def callKD (F : List D → R D) (n m : Nat) (ix : List Nat) (fa fk : FA) : FE := fun ρ S => fa ρ S >>= fun x => fk ρ x.2 >>= fun y => if x.1.length = n ∧ y.1.length = m then noX (F (pick ix (x.1 ++ y.1))) >>= fun d => R.ok (d, y.2) else R.bad
/-! ### instances -/
/-- an own class's __init__: the attributes' names nm, F gives their values -/
def spI (K : PySem.W.Frag) (ca : Str → Option Addr) (T : Tb) (C : Addr) (nm : List Str) (F : List D → R (List D)) : Sp := fun vs H Q _ => ∃ x dx ws ds B, vs = .ref x :: ws ∧ H x = some (.ins C dx []) ∧ (x :: B).Nodup ∧ (∀ b ∈ B, H b ≠ none) ∧ TIn T B H ∧ RpA K ca (Frz H (x :: B)) ws ds ∧
  Sat (F ds) (fun es => ∀ H' xs, (∀ a o, a ≠ x → a ∉ tbs T → H a = some o → H' a = some o) → LamX.Tabs T H' → H' x = some (.ins C dx (nm.zip xs)) → xs.length = nm.length → RpA K ca (Frz H' (x :: B)) xs es → Q .non H') EX0
def mkD (c : Str) (nm : List Str) (F : List D → R (List D)) (fa : FA) : FE := fun ρ S => fa ρ S >>= fun x => noX (F x.1) >>= fun es => R.ok (.ins c nm es, x.2)
theorem spI_of {cn : Str} {nm : List Str} {F : List D → R (List D)} {vs : List V} {xs : List D} {Q : VK} {E : XK} {xa dx : Addr} (hca : z.ca cn = some C) (r1 : Rel z B P σ H ρ S) (hv : RpA z.K z.ca (Frz H (z.L B P)) vs xs)
    (nx : H xa = none) (ndx : H dx = none) (nex : dx ≠ xa)
    (hs : Sat (noX (F xs) >>= fun es => R.ok (D.ins cn nm es, S)) (fun r => ∀ v H', Grow z H H' → Rel z B P σ H' ρ r.2 → Rp z.K z.ca (Frz H' (z.L B P)) v r.1 → Q v H') EX) :
    spI z.K z.ca z.tb C nm F (.ref xa :: vs) (upd (upd H dx (.own xa)) xa (.ins C dx [])) (fun v H2 => v = .non ∧ Q (.ref xa) H2) E := by
  have e1 : Ex H (upd (upd H dx (.own xa)) xa (.ins C dx [])) := fun a u h => by
    rw [upd_ne (ne_of_none h nx), upd_ne (ne_of_none h ndx)]
    exact h
  have hn := r1.fresh nx
  have m : Ex (Frz H (z.L B P)) (Frz (upd (upd H dx (.own xa)) xa (.ins C dx [])) (xa :: z.L B P)) := fun a u h => by
    have ha := frz_ex _ _ _ _ h
    refine frz_of (e1 a u ha) fun q => ?_
    rcases List.mem_cons.mp q with q | q
    · rw [q, nx] at ha; cases ha
    · unfold Frz at h
      rw [if_pos q] at h
      cases h
  have r9 := r1.grow e1
  refine ⟨xa, dx, vs, xs, z.L B P, rfl, upd_same, List.nodup_cons.mpr ⟨hn, r1.nd⟩, fun b hb => r9.lt hb, r9.tin, hv.mono m, ?_⟩
  refine (sat_noX (sat_bind.mp hs)).imp fun es hes H' ys e' tt hx hl hys => ⟨rfl, ?_⟩
  have e2 : GrT z.tb H H' := fun a u n h => e' a u (ne_of_none h nx) n (e1 a u h)
  have hnm : (nm.zip ys).map (·.1) = nm := List.map_fst_zip (by omega)
  have hys2 : (nm.zip ys).map (·.2) = ys := List.map_snd_zip (by omega)
  have := hes (.ref xa) H' e2.grow (r1.growT e2 tt)
  refine this ?_
  have q := Rp.ins (K := z.K) (F := Frz H' (z.L B P)) (c := cn) (frz_of hx hn) hca (by rw [hys2]; exact hys.mono (frz_sub fun a ha => List.mem_cons_of_mem _ ha))
  rw [hnm] at q
  exact q
theorem pick_cons {α : Type} (a : α) (l : List α) : ∀ ix : List Nat, pick (ix.map (· + 1)) (a :: l) = pick ix l
  | [] => rfl
  | i :: ix => by
    have ih := pick_cons a l ix
    unfold pick at ih ⊢
    rw [List.map_cons, List.filterMap_cons, List.filterMap_cons, List.getElem?_cons_succ, ih]
theorem pick_self {α : Type} (a : α) (l : List α) (ix : List Nat) : pick (0 :: ix.map (· + 1)) (a :: l) = a :: pick ix l := by
  have := pick_cons a l ix
  unfold pick at this ⊢
  rw [List.filterMap_cons, List.getElem?_cons_zero, this]
def mkI (c : Str) (nm : List Str) (F : List D → R (List D)) (n m : Nat) (ix : List Nat) (fa fk : FA) : FE := fun ρ S => fa ρ S >>= fun x => fk ρ x.2 >>= fun y => if x.1.length = n ∧ y.1.length = m then noX (F (pick ix (x.1 ++ y.1))) >>= fun es => R.ok (.ins c nm es, y.2) else R.bad
theorem pd_make {cn : Str} {nm : List Str} {F : List D → R (List D)} {n : Nat} {ix : List Nat} (hca : z.ca cn = some C) (M : Mk X.K C fA) (G : FnG X.prog X.w X.K X.mg X.base k fA fd ps (spI z.K z.ca z.tb C nm F)) (hr : Rm (k + 1) X.A) (hm : X.mg x = some (.ref C)) (hb : KBd X.K fd ps [] (n + 1) (0 :: ix.map (· + 1)))
    (ha : PAd X z O EX (e :: es) fa) (hg : Gl X x := by rfl) (hdb : (x == ("__debug__" : Str)) = false := by decide) (he : starEach (e :: es) X.env = (false, eval e X.env) :: starEach es X.env := by rfl) (hpl : (backTo pos (starEach es X.env)).any (·.1) = false := by rfl) :
    PD X z O EX (.Call (.Name x p) (e :: es) [] pos) (mkI cn nm F n 0 ix fa nilA) := by
  obtain ⟨t, pt, q⟩ := ha.ex
  refine ⟨_, pe_gmk (E := E0) M G hr hg hm hb pt hdb he hpl, fun B P σ H ρ S Q hP rr hs => ?_⟩
  refine q B P σ H ρ S _ hP rr ((sat_bind.mp hs).imp fun w hw vs H1 g1 r1 hv => ?_)
  have hw : Sat (if w.1.length = n ∧ ([] : List D).length = 0 then noX (F (pick ix (w.1 ++ []))) >>= fun es => R.ok (D.ins cn nm es, w.2) else R.bad) (fun r => ∀ v H', Grow z H H' → Rel z B P σ H' ρ r.2 → Rp z.K z.ca (Frz H' (z.L B P)) v r.1 → Q v H') EX := hw
  split at hw
  · rename_i l
    refine ⟨by rw [hv.length, l.1], rfl, fun xa dx nx ndx nex => ?_⟩
    rw [pick_self]
    exact spI_of hca r1 (rpa_pick (hv.append .nil) ix) nx ndx nex (hw.imp fun r hr v H' g' r' hv' => hr v H' (g1.trans g') r' hv')
  · exact hw.elim
/-- e.f, an attribute -/
def lookF : List Str → List D → Str → Option D
  | n :: ns, d :: ds, f => if n = f then some d else lookF ns ds f
  | _, _, _ => none
theorem look_rp {K : PySem.W.Frag} {ca : Str → Option Addr} {F : Hp} {f : Str} {d : D} : ∀ {fs : List (Str × V)} {ds : List D}, RpA K ca F (fs.map (·.2)) ds → lookF (fs.map (·.1)) ds f = some d → ∃ v, fs.lookup f = some v ∧ Rp K ca F v d
  | [], _, _, h => by simp [lookF] at h
  | (n, v) :: fs, [], r, h => by simp [lookF] at h
  | (n, v) :: fs, d' :: ds, r, h => by
    rw [List.map_cons] at r
    cases r with
    | cons h1 r1 =>
      rw [List.map_cons] at h
      unfold lookF at h
      dsimp only at h
      split at h
      · rename_i e
        cases h
        exact ⟨v, by rw [← e]; simp [List.lookup], h1⟩
      · rename_i e
        obtain ⟨u, e1, q⟩ := look_rp r1 h
        refine ⟨u, ?_, q⟩
        have : (f == n) = false := by simpa using Ne.symm e
        simp [List.lookup, this, e1]
/-- o.m(..) -/
def mthC (cn m : Str) (F : List D → R D) (dds : List D) (f : FE) (fa : FA) : FE := fun ρ S => f ρ S >>= fun x => match x.1 with
  | .ins c ns _ => if c = cn ∧ ns.contains m = false then fa ρ x.2 >>= fun y => noX (F (x.1 :: (y.1 ++ dds))) >>= fun d => R.ok (d, y.2) else R.bad
  | _ => R.bad
/-- e.f, a property -/
def propD (cn : Str) (F : List D → R D) (f : FE) : FE := fun ρ S => f ρ S >>= fun x => match x.1 with
  | .ins c _ _ => if c = cn then noX (F [x.1]) >>= fun d => R.ok (d, x.2) else R.bad
  | _ => R.bad
end
/-! ### defs that change their first argument; that hand back a new list -/
section
variable {Pg : Program} {w : World} {K : PySem.W.Frag} {mg : Str → Option Value} {base : Heap} {ca : Str → Option Addr} {T : Tb}
def startP (n : Nat) (ds : List D) : Env := none :: startE (n - 1) ds
def endP (r : Ctl × Env × List D) : R (D × List D) := match r.1 with | .rt d => R.ok (d, r.2.2) | .nx => R.ok (.non, r.2.2) | _ => R.bad
def runP (n k : Nat) (fs : FS) : List D → List D → R (D × List D) := fun S ds => if ds.length + 1 = k then fs (startP n ds) S >>= endP else R.bad
theorem besideP_iff {B : List Addr} {H : Hp} {sh : List V → HO} {p : Addr} (s : ∀ a ∈ tbs T, a ∈ B) (a : Addr) : a ∈ Z.L ⟨K, ca, H, some (0, p), sh, T, [], [], []⟩ (beside T B) [] ↔ a ∈ p :: B := by
  show a ∈ ([] : List Addr) ++ (([p] ++ tbs T) ++ beside T B) ↔ _
  rw [List.nil_append, List.append_assoc, List.singleton_append, List.mem_cons, List.mem_cons, beside_iff s]
theorem besideP_nd {B : List Addr} {p : Addr} (hB : (p :: B).Nodup) (s : ∀ a ∈ tbs T, a ∈ B) (t : (tbs T).Nodup) : (([] : List Addr) ++ (([p] ++ tbs T) ++ beside T B)).Nodup := by
  rw [List.nil_append, List.append_assoc, List.singleton_append, List.nodup_cons]
  rw [List.nodup_cons] at hB
  exact ⟨fun h => hB.1 ((beside_iff s p).mp h), beside_nd hB.2 t⟩
theorem rel_startP {N : List Str} {p : Addr} {ws xs : List V} {ds S : List D} {H : Hp} {B : List Addr} {sh : List V → HO} (hN : 0 < N.length) (hp : H p = some (sh xs)) (hB : (p :: B).Nodup) (hb : ∀ b ∈ B, H b ≠ none) (ti : TIn T B H) (hxs : RpA K ca (Frz H (p :: B)) xs S) (hv : RpA K ca (Frz H (p :: B)) ws ds) :
    Rel ⟨K, ca, H, some (0, p), sh, T, [], [], []⟩ (beside T B) [] (L2.start N (.ref p :: ws)) H (startP N.length ds) S where
  val := fun i d _ h => by
    have hl := hv.length
    unfold startP startE at h
    unfold L2.start
    cases i with
    | zero => simp at h
    | succ i =>
      rw [List.getElem?_cons_succ] at h
      by_cases hi : i < ds.length
      · rw [List.getElem?_append_left (by simpa using hi), List.getElem?_map] at h
        cases e : ds[i]? with
        | none => rw [e] at h; cases h
        | some d' =>
          rw [e] at h
          cases h
          obtain ⟨v, e1, q⟩ := hv.get e
          have ef : Frz H (Z.L ⟨K, ca, H, some (0, p), sh, T, [], [], []⟩ (beside T B) []) = Frz H (p :: B) := frz_congr fun a => besideP_iff ti.sub a
          exact ⟨v, by rw [List.getElem?_append_left (by simp; omega), List.getElem?_map, List.getElem?_cons_succ, e1]; rfl, ef ▸ q⟩
      · rw [List.getElem?_append_right (by simp; omega)] at h
        have := List.mem_of_getElem? h
        rw [List.mem_replicate] at this
        cases this.2
  own := fun p hp => nomatch hp
  pool := fun i a h => by
    cases h
    have ef : Frz H (Z.L ⟨K, ca, H, some (0, p), sh, T, [], [], []⟩ (beside T B) []) = Frz H (p :: B) := frz_congr fun a => besideP_iff ti.sub a
    refine ⟨?_, rfl, xs, hp, ef ▸ hxs⟩
    unfold L2.start
    rfl
  nd := besideP_nd hB ti.sub ti.nd
  there := fun b hb' => hb b (beside_mem.mp hb').1
  ex := fun a o h _ => h
  new := fun p hp => nomatch hp
  len := by
    unfold L2.start startP startE
    simp only [List.length_append, List.length_map, List.length_cons, List.length_replicate, hv.length]
    omega
  tabs := ti.tabs
  xt := ⟨fun _ h => (nomatch h), fun _ h => (nomatch h)⟩
theorem fn_p {x qual : Str} {st : Stmt} {fA : Addr} {fd : FuncData} {N ps : List Str} {k : Nat} {fs : FS} {OO : List Nat} (F : Fun K x qual st fA fd) (Sc : FnScope N ps (defScope st)) (hN : 0 < N.length)
    (body : ∀ (cdv : Value) (A : Around) (outer : List PySem.Env) (s : Shared) (H : Hp) (E : XK) (p : Addr), Rm k (A.deeper (envOfC qual (defScope st) s.heap.objs.size fA cdv)) →
      PSS (cxOf CX0 Pg w K mg base N qual (defScope st) fA cdv A outer s H E).nox ⟨K, ca, H, some (0, p), .lst, T, [], [], []⟩ [] OO [] EX0 (defBody st) fs) :
    FnG Pg w K mg base (k + 1) fA fd ps (spP K ca T (runP N.length ps.length fs)) := by
  refine fn_body F Sc (fun vs H Q E h => ?_) (fun cdv A outer s H vs Q E hr hgu h => ?_)
  · obtain ⟨p, ws, xs, S, ds, B, rfl, _, _, _, _, _, hv, hs⟩ := h
    unfold runP at hs
    split at hs
    · rw [List.length_cons, hv.length]; assumption
    · exact hs.elim
  · obtain ⟨p, ws, xs, S, ds, B, rfl, hp, hB, hb, ti, hxs, hv, hs⟩ := h
    obtain ⟨t, pt, q⟩ := (body cdv A outer s H E p ⟨hr, hgu⟩).ex
    refine ⟨t, pt, ?_⟩
    unfold runP at hs
    split at hs
    · have ef : ∀ H', Frz H' (([p] ++ tbs T) ++ beside T B) = Frz H' (p :: B) := fun H' => frz_congr fun a => besideP_iff (K := K) (ca := ca) (H := H') (sh := .lst) ti.sub a
      refine q (beside T B) [] (L2.start N (.ref p :: ws)) H (startP N.length ds) S _ rfl (rel_startP hN hp hB hb ti hxs hv) ((sat_bind.mp hs).imp fun r hr => ?_)
      obtain ⟨c, ρ1, S1⟩ := r
      cases c with
      | nx =>
        intro P' σ' H' h1 h2 h3
        have hr : ∀ v H' xs', (∀ a o, a ≠ p → a ∉ tbs T → H a = some o → H' a = some o) → LamX.Tabs T H' → H' p = some (.lst xs') → RpA K ca (Frz H' (p :: B)) xs' S1 → Rp K ca (Frz H' (p :: B)) v .non → Q v H' := hr
        have hf := h3.fin (v := .non) (d := .non) .non
        obtain ⟨xs', e1, q1⟩ := hf.pool 0 p rfl
        exact hr .non H' xs' (fun a o n n2 e => hf.ex a o e (by simpa [Z.pls] using ⟨n, n2⟩)) hf.tabs e1 (ef H' ▸ q1) .non
      | rt d =>
        intro v H' hf
        have hr : ∀ v H' xs', (∀ a o, a ≠ p → a ∉ tbs T → H a = some o → H' a = some o) → LamX.Tabs T H' → H' p = some (.lst xs') → RpA K ca (Frz H' (p :: B)) xs' S1 → Rp K ca (Frz H' (p :: B)) v d → Q v H' := hr
        obtain ⟨xs', e1, q1⟩ := hf.pool 0 p rfl
        exact hr v H' xs' (fun a o n n2 e => hf.ex a o e (by simpa [Z.pls] using ⟨n, n2⟩)) hf.tabs e1 (ef H' ▸ q1) (ef H' ▸ hf.val)
      | bk => exact hr.elim
      | ct => exact hr.elim
    · exact hs.elim
/-! a def that hands back a new list -/
def EvN (z : Z) (O : List Nat) (EX : EXT) (t : TS) (f : FA) : Prop :=
  ∀ B P σ H ρ S D', P.map (·.1) = O → Rel z B P σ H ρ S →
    Sat (f ρ S) (fun r => ∀ p xs H', z.H0 p = none → (∀ a o, z.H0 a = some o → a ∉ z.pls → H' a = some o) → LamX.Tabs z.tb H' → H' p = some (.lst xs) → RpA z.K z.ca (Frz H' (p :: (z.pls ++ B))) xs r.1 → D'.rt (.ref p) H') EX → t D' σ H
structure PSN (X : Cx) (z : Z) (O : List Nat) (EX : EXT) (s : List Stmt) (f : FA) : Prop where
  ex : ∃ t, PSs X s t ∧ EvN z O EX t f
theorem psn_ret {X : Cx} {z : Z} {O : List Nat} {EX : EXT} {e : Expr} {fa : FA} {pos : Pos} (ha : PF X z O EX e fa) : PSN X z O EX [.Return (some e) pos] fa := by
  obtain ⟨t, p, q⟩ := ha.ex
  refine ⟨_, pss_one (ps_ret p), fun B P σ H ρ S D' hP rr hs => ?_⟩
  refine q B P σ H ρ S _ hP rr (hs.imp fun x hx p xs H' g e1 e0 en r m hv => ?_)
  refine hx p xs H' e0 r.ex r.tabs e1 (hv.mono (frz_sub fun a ha => ?_))
  unfold Z.L
  rcases List.mem_cons.mp ha with h | h
  · exact List.mem_append_right _ (List.mem_append_right _ (by rw [h]; exact List.mem_cons_self))
  · rcases List.mem_append.mp h with h | h
    · exact List.mem_append_right _ (List.mem_append_left _ h)
    · exact List.mem_append_right _ (List.mem_append_right _ (List.mem_cons_of_mem _ h))
def seqN (fs : FS) (fa : FA) : FA := fun ρ S => fs ρ S >>= fun r => match r.1 with | .nx => fa r.2.1 r.2.2 | _ => R.bad
theorem psn_cons {X : Cx} {z : Z} {OI OM : List Nat} {EX : EXT} {st : Stmt} {sts : List Stmt} {fs : FS} {fa : FA} (h1 : PSd X z OI OM [] EX st fs) (h2 : PSN X z OM EX sts fa) : PSN X z OI EX (st :: sts) (seqN fs fa) := by
  obtain ⟨t, p, q⟩ := h1.ex
  obtain ⟨u, p2, q2⟩ := h2.ex
  refine ⟨_, pss_cons p p2, fun B P σ H ρ S D' hP rr hs => ?_⟩
  refine q B P σ H ρ S _ hP rr ((sat_bind.mp hs).imp fun r hr => ?_)
  obtain ⟨c, ρ1, S1⟩ := r
  cases c with
  | nx => exact fun P' σ' H' h1 h2 h3 => q2 B P' σ' H' ρ1 S1 D' h1 h3 hr
  | bk => exact hr.elim
  | ct => exact hr.elim
  | rt d => exact hr.elim
def runN (n k : Nat) (fa : FA) : List D → R (List D) := fun ds => if ds.length = k then fa (startE n ds) [] >>= fun r => R.ok r.1 else R.bad
theorem fn_n {x qual : Str} {st : Stmt} {fA : Addr} {fd : FuncData} {N ps : List Str} {k : Nat} {fa : FA} (F : Fun K x qual st fA fd) (Sc : FnScope N ps (defScope st))
    (body : ∀ (cdv : Value) (A : Around) (outer : List PySem.Env) (s : Shared) (H : Hp) (E : XK), Rm k (A.deeper (envOfC qual (defScope st) s.heap.objs.size fA cdv)) →
      PSN (cxOf CX0 Pg w K mg base N qual (defScope st) fA cdv A outer s H E).nox ⟨K, ca, H, none, .lst, T, [], [], []⟩ [] EX0 (defBody st) fa) :
    FnG Pg w K mg base (k + 1) fA fd ps (spN K ca T (runN N.length ps.length fa)) := by
  refine fn_body F Sc (fun vs H Q E h => ?_) (fun cdv A outer s H vs Q E hr hgu h => ?_)
  · obtain ⟨ds, B, _, _, _, hv, hs⟩ := h
    rw [hv.length]
    unfold runN at hs
    split at hs
    · assumption
    · exact hs.elim
  · obtain ⟨ds, B, hB, hb, ti, hv, hs⟩ := h
    obtain ⟨t, p, q⟩ := (body cdv A outer s H E ⟨hr, hgu⟩).ex
    refine ⟨t, p, ?_⟩
    unfold runN at hs
    split at hs
    · refine q (beside T B) [] (L2.start N vs) H (startE N.length ds) [] _ rfl (rel_start hB hb ti hv) ((sat_bind.mp hs).imp fun r hr p xs H' e0 ee tt e1 hxs => ?_)
      have ef : Frz H' (p :: (([] ++ tbs T) ++ beside T B)) = Frz H' (p :: B) := frz_congr fun a => by
        rw [List.mem_cons, List.mem_cons, List.nil_append, beside_iff ti.sub]
      exact hr p xs H' e0 (fun a o n e => ee a o e n) tt e1 (ef ▸ hxs)
    · exact hs.elim
/-! an own class's __init__ -/
theorem putF_zip {nm : List Str} {f : Str} {y : V} : ∀ {nm : List Str} {xs : List V}, nm[xs.length]? = some f → (nm.take xs.length).contains f = false → putF f y (nm.zip xs) = nm.zip (xs ++ [y])
  | [], [], h, _ => by simp at h
  | n :: nm, [], h, _ => by
    simp only [List.length_nil, List.getElem?_cons_zero, Option.some.injEq] at h
    subst h
    simp [putF]
  | [], x :: xs, h, _ => by simp at h
  | n :: nm, x :: xs, h, hc => by
    simp only [List.length_cons, List.getElem?_cons_succ] at h
    simp only [List.length_cons, List.take_succ_cons, List.contains_cons, Bool.or_eq_false_iff] at hc
    have ne : n ≠ f := fun e => by rw [e] at hc; simp at hc
    rw [List.cons_append, List.zip_cons_cons, List.zip_cons_cons]
    unfold putF
    rw [if_neg ne, putF_zip (nm := nm) h hc.2]
def slfS (nm : List Str) (fn : Str) (f : FE) : FS := fun ρ S => f ρ S >>= fun x => if nm[x.2.length]? = some fn ∧ (nm.take x.2.length).contains fn = false ∧ x.2.length < 999 then R.ok (.nx, ρ, x.2 ++ [x.1]) else R.bad
/-- self.f = e within __init__ -/
theorem psd_slf {X : Cx} {z : Z} {O OL : List Nat} {EX : EXT} {C dx : Addr} {nm : List Str} {fn sx : Str} {e : Expr} {f : FE} {pos p0 p1 : Pos} (i : Nat) (hK : X.K = z.K) (hzi : ∃ a, z.pl = some (i, a)) (hsh : z.sh = fun xs => .ins C dx (nm.zip xs)) (cl : Cls z.K C) (na : NoAttr z.K C fn) (he : PD X z O EX e f)
    (hN : X.N[i]? = some sx := by rfl) (hv : Vis X.env.scope sx := by first | exact Or.inl rfl | exact Or.inr (Or.inl rfl) | exact Or.inr (Or.inr rfl)) (hd : (sx == ("__debug__" : Str)) = false := by decide) (hcd : (sx == ("__classdict__" : Str)) = false := by decide)
    (hs : swapsWith e (some (.Attribute (.Name sx p0) fn p1)) pos.line X.env = pure false := by rfl) : PSd X z O O OL EX (.Assign [.Attribute (.Name sx p0) fn p1] e pos) (slfS nm fn f) := by
  obtain ⟨t, p, q⟩ := he.ex
  refine ⟨_, ps_fld (pe_var hN hv hd hcd) p hs, fun B P σ H ρ S D' hP rr hs => ?_⟩
  refine q B P σ H ρ S _ hP rr ((sat_bind.mp hs).imp fun w hw v H1 g1 r1 hv => ?_)
  split at hw
  · rename_i l
    obtain ⟨a, hz⟩ := hzi
    obtain ⟨e1, e0, xs, e2, q3⟩ := r1.pool i a hz
    rw [hsh] at e2
    have hl := q3.length
    refine ⟨_, e1, a, C, dx, _, rfl, e2, hK ▸ cl, hK ▸ na, ?_, ?_⟩
    · rw [List.length_zip]
      omega
    · rw [putF_zip (nm := nm) (by rw [hl]; exact l.1) (by rw [hl]; exact l.2.1)]
      have ef : Frz (upd H1 a (.ins C dx (nm.zip (xs ++ [v])))) (z.L B P) = Frz H1 (z.L B P) := by
        funext b
        unfold Frz
        by_cases hb : b ∈ z.L B P
        · rw [if_pos hb, if_pos hb]
        · rw [if_neg hb, if_neg hb, upd_ne fun (e9 : b = a) => hb (by
            rw [e9]
            unfold Z.L Z.pls
            rw [hz]
            exact List.mem_append_right _ (List.mem_append_left _ (List.mem_append_left _ List.mem_cons_self)))]
      obtain ⟨r4, g4⟩ := r1.repool (H' := upd H1 a (.ins C dx (nm.zip (xs ++ [v])))) (xs := xs ++ [v]) (S' := w.2 ++ [w.1]) hz (fun b o n _ h => by rw [upd_ne n]; exact h) (tabs_upd r1.tabs e2 (fun _ z => nomatch z) (fun _ z => nomatch z)) (by rw [hsh]; exact upd_same) (by rw [ef]; exact q3.append (.cons hv .nil))
      exact hw P σ _ hP (g1.trans g4).frz r4
  · exact hw.elim
def runI (nm : List Str) (n k : Nat) (fs : FS) : List D → R (List D) := fun ds => if ds.length + 1 = k then fs (startP n ds) [] >>= fun r => match r.1 with | .nx => if r.2.2.length = nm.length then R.ok r.2.2 else R.bad | _ => R.bad else R.bad
theorem fn_i {x qual : Str} {st : Stmt} {fA C : Addr} {fd : FuncData} {N ps nm : List Str} {k : Nat} {fs : FS} {OO : List Nat} (F : Fun K x qual st fA fd) (Sc : FnScope N ps (defScope st)) (hN : 0 < N.length)
    (body : ∀ (cdv : Value) (A : Around) (outer : List PySem.Env) (s : Shared) (H : Hp) (E : XK) (p dx : Addr), Rm k (A.deeper (envOfC qual (defScope st) s.heap.objs.size fA cdv)) →
      PSS (cxOf CX0 Pg w K mg base N qual (defScope st) fA cdv A outer s H E).nox ⟨K, ca, H, some (0, p), fun xs => .ins C dx (nm.zip xs), T, [], [], []⟩ [] OO [] EX0 (defBody st) fs) :
    FnG Pg w K mg base (k + 1) fA fd ps (spI K ca T C nm (runI nm N.length ps.length fs)) := by
  refine fn_body F Sc (fun vs H Q E h => ?_) (fun cdv A outer s H vs Q E hr hgu h => ?_)
  · obtain ⟨p, dx, ws, ds, B, rfl, _, _, _, _, hv, hs⟩ := h
    unfold runI at hs
    split at hs
    · rw [List.length_cons, hv.length]; assumption
    · exact hs.elim
  · obtain ⟨p, dx, ws, ds, B, rfl, hp, hB, hb, ti, hv, hs⟩ := h
    obtain ⟨t, pt, q⟩ := (body cdv A outer s H E p dx ⟨hr, hgu⟩).ex
    refine ⟨t, pt, ?_⟩
    unfold runI at hs
    split at hs
    · have ef : ∀ H', Frz H' (([p] ++ tbs T) ++ beside T B) = Frz H' (p :: B) := fun H' => frz_congr fun a => besideP_iff (K := K) (ca := ca) (H := H') (sh := .lst) ti.sub a
      refine q (beside T B) [] (L2.start N (.ref p :: ws)) H (startP N.length ds) [] _ rfl (rel_startP (xs := []) hN (by rw [hp, List.zip_nil_right]) hB hb ti .nil hv) ((sat_bind.mp hs).imp fun r hr => ?_)
      obtain ⟨c, ρ1, S1⟩ := r
      cases c with
      | nx =>
        intro P' σ' H' h1 h2 h3
        dsimp only at hr
        split at hr
        · rename_i l
          have hf := h3.fin (v := .non) (d := .non) .non
          obtain ⟨xs', e1, q1⟩ := hf.pool 0 p rfl
          exact hr H' xs' (fun a o n n2 e => hf.ex a o e (by simpa [Z.pls] using ⟨n, n2⟩)) hf.tabs e1 (by rw [q1.length]; exact l) (ef H' ▸ q1)
        · exact hr.elim
      | rt d => exact hr.elim
      | bk => exact hr.elim
      | ct => exact hr.elim
    · exact hs.elim
end
end PL
set_option Elab.async false
set_option linter.all false
set_option maxRecDepth 100000
set_option maxHeartbeats 4000000
namespace PL
open PySem PySem.Spec PyProof.Rows L2
section
variable {X : Cx} {z : Z} {O OI OM OO OL : List Nat} {EX : EXT} {a b c e o : Expr} {es : List Expr} {f g h : FE} {fa ga fk : FA} {fs gs : FS} {pos p apos : Pos} {st : Stmt} {sts : List Stmt}
/-! ### the in-out list read and stored -/
def poolE (k : Int) : FE := fun _ S => R.of (L2.atI S k) >>= fun d => R.ok (d, S)
theorem pd_pool (i : Nat) (hK : X.K = z.K) (hsh : z.sh = .lst) (hzi : ∃ a, z.pl = some (i, a)) {y : Str} {py pk : Pos} {k : Int} {j : Nat} (hN : X.N[i]? = some y := by rfl) (hv : Vis X.env.scope y := by first | exact Or.inl rfl | exact Or.inr (Or.inl rfl) | exact Or.inr (Or.inr rfl))
    (hd : (y == ("__debug__" : Str)) = false := by decide) (hcd : (y == ("__classdict__" : Str)) = false := by decide) (hx : PlainIx (.Constant (.int k) j pk) := by exact fun _ _ => rfl) : PD X z O EX (.Subscript (.Name y py) (.Constant (.int k) j pk) pos) (poolE k) := by
  refine ⟨_, pe_ix ix_list (pe_var hN hv hd hcd) pe_int hx, fun B P σ H ρ S Q hP rr hs => ?_⟩
  obtain ⟨ad, hz⟩ := hzi
  obtain ⟨e1, e0, xs, e2, q3⟩ := rr.pool i ad hz
  rw [hsh] at e2
  obtain ⟨d, hd, hq⟩ := sat_of (sat_bind.mp hs)
  obtain ⟨v, hv, r⟩ := q3.atI hd
  exact ⟨_, e1, ad, xs, k, v, rfl, rfl, hK ▸ SqL.of e2, hv, hq v H Grow.refl rr r⟩
theorem Rel.pput {B : List Addr} {P : List (Nat × Addr)} {σ : L2.St} {H : Hp} {ρ : Env} {S S' : List D} {i : Nat} {ad : Addr} {xs : List V} (r : Rel z B P σ H ρ S) (hz : z.pl = some (i, ad)) (hsh : z.sh = .lst) (rp : RpA z.K z.ca (Frz H (z.L B P)) xs S') :
    Rel z B P σ (upd H ad (.lst xs)) ρ S' ∧ Grow z H (upd H ad (.lst xs)) := by
  have hm : ad ∈ z.L B P := by
    unfold Z.L Z.pls
    rw [hz]
    exact List.mem_append_right _ (List.mem_append_left _ (List.mem_append_left _ List.mem_cons_self))
  have ef : Frz (upd H ad (.lst xs)) (z.L B P) = Frz H (z.L B P) := by
    funext b
    unfold Frz
    by_cases hb : b ∈ z.L B P
    · rw [if_pos hb, if_pos hb]
    · rw [if_neg hb, if_neg hb, upd_ne fun (e9 : b = ad) => hb (by rw [e9]; exact hm)]
  obtain ⟨_, _, ys, ey, _⟩ := r.pool i ad hz
  rw [hsh] at ey
  exact r.repool (xs := xs) hz (fun b o n _ h => by rw [upd_ne n]; exact h) (tabs_upd r.tabs ey (fun _ z => nomatch z) (fun _ z => nomatch z)) (by rw [hsh]; exact upd_same) (by rw [ef]; exact rp)
def poolG (k : Int) : FG := fun d ρ S => match ixN S.length k with | some j => R.ok (ρ, S.set j d) | none => R.bad
theorem pgd_pool (i : Nat) (hsh : z.sh = .lst) (hzi : ∃ a, z.pl = some (i, a)) {y : Str} {py pk : Pos} {k : Int} {j : Nat} (hN : X.N[i]? = some y := by rfl) (hv : Vis X.env.scope y := by first | exact Or.inl rfl | exact Or.inr (Or.inl rfl) | exact Or.inr (Or.inr rfl))
    (hd : (y == ("__debug__" : Str)) = false := by decide) (hcd : (y == ("__classdict__" : Str)) = false := by decide)
    (ha : ∀ v, assign (.Subscript (.Name y py) (.Constant (.int k) j pk) pos) X.env v = (do
      let ov ← holding [v] (eval (.Name y py) X.env)
      let iv ← holding [v, ov] (eval (.Constant (.int k) j pk) X.env)
      standAt pos
      holding [v, ov, iv] (setItem ov iv v)
      release [v, ov, iv] []) := by intro _; rfl) : PGd X z O EX [] (.Subscript (.Name y py) (.Constant (.int k) j pk) pos) (poolG k) := by
  refine ⟨_, pg_sub (pe_var hN hv hd hcd) pe_int set_list ha, fun B P σ H ρ S v d Q hP rr hv hs => ?_⟩
  obtain ⟨ad, hz⟩ := hzi
  obtain ⟨e1, e0, xs, e2, q3⟩ := rr.pool i ad hz
  rw [hsh] at e2
  unfold poolG at hs
  split at hs
  · rename_i j' hj
    refine ⟨_, e1, ad, xs, k, j', rfl, rfl, e2, by rw [q3.length]; exact hj, ?_⟩
    obtain ⟨r2, g2⟩ := rr.pput hz hsh (RpA.set hv j' q3)
    exact hs σ _ g2 r2 rfl fun _ _ => rfl
  · exact hs.elim
/-! ### built-in functions -/
section
variable {K : PySem.W.Frag} {ca : Str → Option Addr}
def lenD : List D → Option D | [.lst ds] => some (.int (ds.length : Nat)) | [.tup ds] => some (.int (ds.length : Nat)) | [.scr ns] => some (.int (ns.length : Nat)) | [.str y] => if y.length ≤ LINE then some (.int (y.length : Nat)) else none | _ => none
def rLen (K : PySem.W.Frag) : List V → Hp → VK → Prop := fun xs H Q => ∃ x n, xs = [x] ∧ LenV K x H n ∧ Q (.int n) H
theorem callD_len : CallD K ca (rLen K) lenD := by
  intro H L N vs ds d Q fr hv e hq
  unfold lenD at e
  split at e
  · cases e
    cases hv with
    | cons h r =>
      cases r
      obtain ⟨a, xs, rfl, h1, r1⟩ := h.lst
      exact ⟨_, _, rfl, .inl ⟨xs, SqL.of h1, r1.length.symm⟩, hq _ H (Ex.refl H) (.int _)⟩
  · cases e
    cases hv with
    | cons h r =>
      cases r
      obtain ⟨a, xs, rfl, h1, r1⟩ := h.tup
      exact ⟨_, _, rfl, .inr ⟨xs, ex_t (frz_ex _ _) h1, r1.length.symm⟩, hq _ H (Ex.refl H) (.int _)⟩
  · cases e
    cases hv with
    | cons h r =>
      cases r
      obtain ⟨a, rfl, h1⟩ := h.scr
      exact ⟨_, _, rfl, .inl ⟨_, ex_l (frz_ex _ _) h1, by rw [List.length_map]⟩, hq _ H (Ex.refl H) (.int _)⟩
  · split at e
    · rename_i w
      cases e
      cases hv with
      | cons h r =>
        cases r
        cases h.str
        exact ⟨_, _, rfl, ⟨line_le w, rfl⟩, hq _ H (Ex.refl H) (.int _)⟩
    · cases e
  · cases e
theorem pd_len (hK : X.K = z.K) (hm : X.mg "len" = none) (ha : PBA X z O EX [e] fa) (hg : Gl X "len" := by rfl) (he : starEach [e] X.env = (false, eval e X.env) :: starEach [] X.env := by rfl) (hpl : (backTo pos (starEach [] X.env)).any (·.1) = false := by rfl) :
    PD X z O EX (.Call (.Name "len" p) [e] [] pos) (callE lenD fa) := pd_callB (r := rLen z.K) (hK ▸ call_len) callD_len hm ha hg PySem.boot_len (by decide) (by decide) he hpl
/-- two ints in -/
theorem callD_int2 {r : List V → Hp → VK → Prop} {g : Int → Int → Int} (hr : ∀ i j H (Q : VK), Q (.int (g i j)) H → r [.int i, .int j] H Q) : CallD K ca r fun | [.int i, .int j] => some (.int (g i j)) | _ => none := by
  intro H L N vs ds d Q fr hv e hq
  dsimp only at e
  split at e
  · cases e
    cases hv with
    | cons h r =>
      cases r with
      | cons h2 r =>
        cases r
        cases h.int
        cases h2.int
        exact hr _ _ _ _ (hq _ H (Ex.refl H) (.int _))
  · cases e
def min2D : List D → Option D | [.int i, .int j] => some (.int (if j < i then j else i)) | _ => none
def max2D : List D → Option D | [.int i, .int j] => some (.int (if j > i then j else i)) | _ => none
theorem pd_min2 (hc : X.calm = true) (hm : X.mg "min" = none) (ha : PBA X z O EX [a, b] fa) (hg : Gl X "min" := by rfl) (he : starEach [a, b] X.env = (false, eval a X.env) :: starEach [b] X.env := by rfl) (hpl : (backTo pos (starEach [b] X.env)).any (·.1) = false := by rfl) :
    PD X z O EX (.Call (.Name "min" p) [a, b] [] pos) (callE min2D fa) := pd_callB (call_min2 hc) (callD_int2 fun i j H Q q => ⟨i, j, rfl, q⟩) hm ha hg (by decide +kernel) (by decide) (by decide) he hpl
theorem pd_max2 (hc : X.calm = true) (hm : X.mg "max" = none) (ha : PBA X z O EX [a, b] fa) (hg : Gl X "max" := by rfl) (he : starEach [a, b] X.env = (false, eval a X.env) :: starEach [b] X.env := by rfl) (hpl : (backTo pos (starEach [b] X.env)).any (·.1) = false := by rfl) :
    PD X z O EX (.Call (.Name "max" p) [a, b] [] pos) (callE max2D fa) := pd_callB (call_max2 hc) (callD_int2 fun i j H Q q => ⟨i, j, rfl, q⟩) hm ha hg (by decide +kernel) (by decide) (by decide) he hpl
/-- one int in -/
def absD : List D → Option D | [.int i] => some (.int (if i < 0 then -i else i)) | _ => none
def rAbs : List V → Hp → VK → Prop := fun xs H Q => ∃ i, xs = [.int i] ∧ Q (.int (if i < 0 then -i else i)) H
theorem callD_abs : CallD K ca rAbs absD := by
  intro H L N vs ds d Q fr hv e hq
  unfold absD at e
  split at e
  · cases e
    cases hv with
    | cons h r =>
      cases r
      cases h.int
      exact ⟨_, rfl, hq _ H (Ex.refl H) (.int _)⟩
  · cases e
theorem pd_abs (hm : X.mg "abs" = none) (ha : PBA X z O EX [e] fa) (hg : Gl X "abs" := by rfl) (he : starEach [e] X.env = (false, eval e X.env) :: starEach [] X.env := by rfl) (hpl : (backTo pos (starEach [] X.env)).any (·.1) = false := by rfl) :
    PD X z O EX (.Call (.Name "abs" p) [e] [] pos) (callE absD fa) := pd_callB (r := rAbs) call_abs callD_abs hm ha hg (by decide +kernel) (by decide) (by decide) he hpl
def strD : List D → Option D | [.int i] => if i.natAbs.log2 < 1920 then some (.str (toString i)) else none | _ => none
/-- tuple(x) -/
def tupD : List D → Option D | [.lst ds] => some (.tup ds) | [.tup ds] => some (.tup ds) | [.scr ns] => some (.tup (ns.map .int)) | _ => none
/-- all, any of bools -/
def blsOf : D → Option (List Bool) | .lst ds => D.bls ds | _ => none
theorem bls_sq {H : Hp} {L N : List Addr} {v : V} {d : D} {ns : List Bool} (h : Rb K ca H L N v d) (e : blsOf d = some ns) : ∃ a, v = .ref a ∧ SqL K H a (ns.map V.bl) := by
  cases d <;> simp only [blsOf, reduceCtorEq] at e
  obtain ⟨a, xs, rfl, h1, r1⟩ := h.lst
  rw [RpA.bls r1 e] at h1
  exact ⟨a, rfl, SqL.of h1⟩
def allD : List D → Option D | [x] => (blsOf x).map fun ns => .bl (ns.all id) | _ => none
theorem callD_all : CallD K ca (rAll K) allD := by
  intro H L N vs ds d Q fr hv e hq
  unfold allD at e
  split at e
  · simp only [Option.map_eq_some_iff] at e
    obtain ⟨ns, e, rfl⟩ := e
    cases hv with
    | cons h r =>
      cases r
      obtain ⟨a, rfl, h1⟩ := bls_sq h e
      exact ⟨a, ns, rfl, h1, hq _ H (Ex.refl H) (.bl _)⟩
  · cases e
theorem pd_all (hK : X.K = z.K) (hc : X.calm = true) (hm : X.mg "all" = none) (ha : PBA X z O EX [e] fa) (hg : Gl X "all" := by rfl) (he : starEach [e] X.env = (false, eval e X.env) :: starEach [] X.env := by rfl) (hpl : (backTo pos (starEach [] X.env)).any (·.1) = false := by rfl) :
    PD X z O EX (.Call (.Name "all" p) [e] [] pos) (callE allD fa) := pd_callB (r := rAll z.K) (hK ▸ cr_all hc) callD_all hm ha hg (by decide +kernel) (by decide) (by decide) he hpl
/-- divmod -/
def divmodD : List D → Option D | [.int i, .int j] => if 0 < j ∧ j < 1073741824 then some (.tup [.int (i / j), .int (i % j)]) else none | _ => none
def rDivmod : List V → Hp → VK → Prop := fun xs H Q => ∃ i j, xs = [.int i, .int j] ∧ CDiv i j ∧ ∀ p, H p = none → Q (.ref p) (upd H p (.tup [.int (i / j), .int (i % j)]))
theorem callD_divmod : CallD K ca rDivmod divmodD := by
  intro H L N vs ds d Q fr hv e hq
  unfold divmodD at e
  split at e
  · split at e
    · rename_i w
      cases e
      cases hv with
      | cons h r =>
        cases r with
        | cons h2 r =>
          cases r
          cases h.int
          cases h2.int
          exact ⟨_, _, rfl, w, fun p hp => hq _ _ (Ex.new hp) (new_tup hp (fr p hp) (.cons (.int _) (.cons (.int _) .nil)))⟩
    · cases e
  · cases e
theorem pd_divmod (hm : X.mg "divmod" = none) (ha : PBA X z O EX [a, b] fa) (hg : Gl X "divmod" := by rfl) (he : starEach [a, b] X.env = (false, eval a X.env) :: starEach [b] X.env := by rfl) (hpl : (backTo pos (starEach [b] X.env)).any (·.1) = false := by rfl) :
    PD X z O EX (.Call (.Name "divmod" p) [a, b] [] pos) (callE divmodD fa) := pd_callB (r := rDivmod) call_divmod callD_divmod hm ha hg (by decide +kernel) (by decide) (by decide) he hpl
/-- isinstance(x, T), T a built-in type -/
def tyD : D → Option String | .non => some "NoneType" | .bl _ => some "bool" | .int _ => some "int" | .str _ => some "str" | .tup _ => some "tuple" | .lst _ => some "list" | .scr _ => some "list" | .dic _ _ => some "dict" | .ins _ _ _ => none | .cls _ => none | .exn _ _ _ => none
/-- what isinstance asks of an own class -/
structure InsK (K : PySem.W.Frag) (C : Addr) : Prop where
  cl : Cls K C
  ha : PySem.W.findIn K (.ref C) "__class__" = some (some (.builtin "object.__class__"))
  hn : PySem.W.specialIn K (.builtin "object.__class__") "__get__" = some (some (.builtin "getset_descriptor.__get__"))
  tk : PySem.W.takesIn K (.builtin "object.__class__") = some true
  mr : PySem.W.mroIn K C (.type "object") = some true
def isiD (ty : String → Option Bool) (inst : Str → Option Bool) : D → Option D
  | .ins c _ _ => (inst c).map .bl
  | x => (tyD x).bind fun t => (ty t).map .bl
theorem ty_x {K : PySem.W.Frag} {ca : Str → Option Addr} {H : Hp} {v : V} {d : D} {t : String} (h : Rp K ca H v d) (e : tyD d = some t) : TyX K H v (.type t) := by
  cases h with
  | non => cases e; exact .base .non
  | bl b => cases e; exact .base (.bl b)
  | int i => cases e; exact .base (.int i)
  | str x => cases e; exact .base (.str x)
  | tup h r =>
    cases e
    rcases h with (h | ⟨o, h⟩) | ⟨o, its, n, h, hc, _⟩
    · exact .base (.tup h)
    · exact .fTuple h
    · exact .kTuple h hc
  | lst h r => cases e; exact .base (.lst h)
  | scr h =>
    cases e
    rcases h with (h | ⟨o, h⟩) | ⟨o, its, n, h, hc, _⟩
    · exact .base (.lst h)
    · exact .base (.frz h)
    · exact .kList h hc
  | dic h r => cases e; exact .base (.dK h)
  | ins h c r => cases e
  | cls h => cases e
  | exn0 _ _ => cases e
  | exnD _ _ _ _ => cases e
theorem pd_isi {ty : String → Option Bool} {inst : Str → Option Bool} {cv : V} {u : Value} {ce : Expr} (hK : X.K = z.K) (hm : X.mg "isinstance" = none) (hcv : PE X ce (tC cv)) (hu : ClsV cv u) (hty : ∀ t k, ty t = some k → PySem.W.kitOne z.K (.type t) u = some k)
    (hin : ∀ c k, inst c = some k → ∃ C, z.ca c = some C ∧ InsK z.K C ∧ PySem.W.kitOne z.K (.ref C) u = some k) (ha : PB X z O EX e f) (hg : Gl X "isinstance" := by rfl)
    (he : starEach [e, ce] X.env = (false, eval e X.env) :: starEach [ce] X.env := by rfl) (he2 : starEach [ce] X.env = (false, eval ce X.env) :: starEach [] X.env := by rfl) (hpl : (backTo pos (starEach [ce] X.env)).any (·.1) = false := by rfl) :
    PD X z O EX (.Call (.Name "isinstance" p) [e, ce] [] pos) (un1 (isiD ty inst) f) := by
  obtain ⟨t, pt, q⟩ := ha.ex
  refine ⟨_, pe_callB (r := rIsi X.K) call_isi hg hm (by decide +kernel) (pa_cons pt (pa_cons hcv pa_nil he2) he) (by decide) (by decide) he hpl, fun B P σ H ρ S Q hP rr hs => ?_⟩
  refine q B P σ H ρ S _ hP rr ((sat_bind.mp hs).imp fun x hx v H1 g1 r1 hv => ?_)
  obtain ⟨d, hd, hq⟩ := sat_of (sat_bind.mp hx)
  show rIsi X.K [v, cv] H1 Q
  rw [hK]
  have hr := hv.rp
  obtain ⟨x1, S1⟩ := x
  have oth : ∀ {t' : String}, tyD x1 = some t' → ((ty t').map D.bl) = some d → rIsi z.K [v, cv] H1 Q := fun {t'} e1 e2 => by
    simp only [Option.map_eq_some_iff] at e2
    obtain ⟨k, e2, rfl⟩ := e2
    exact ⟨v, cv, .type t', u, k, rfl, hu, ty_x hr e1, hty _ _ e2, hq _ H1 g1 r1 (.bl k)⟩
  cases x1 with
  | ins c ns vs =>
    simp only [isiD, Option.map_eq_some_iff] at hd
    obtain ⟨k, e2, rfl⟩ := hd
    obtain ⟨C, hca, ik, hk⟩ := hin c k e2
    cases hr with
    | ins h c' r =>
      rw [hca] at c'
      cases c'
      exact ⟨_, cv, .ref C, u, k, rfl, hu, .base (.ins h ik.cl ik.ha ik.hn ik.tk ik.mr), hk, hq _ H1 g1 r1 (.bl k)⟩
  | cls c => simp [isiD, tyD] at hd
  | exn c ns vs => simp [isiD, tyD] at hd
  | _ => exact oth rfl (by simpa [isiD, tyD] using hd)
end
/-! ### the law's own call -/
theorem law_g {Pg : Program} {w : World} {K : PySem.W.Frag} {mg mb : Str → Option Value} {k : Nat} {fA a : Addr} {fd : FuncData} {x : Str} {sp : Sp} {s1 : Shared} {vs : List Value} {ns : List Int}
    (kin : K.In s1.heap) (hns : s1.heap.Ns mainGlobals mg) (hb : s1.heap.Ns builtinsNs mb) (hbb : ∀ y : Str, y ≠ "__name__" → mb y = bootBuiltins y) (lim : s1.heap.NoLimit) (hg : s1.gens = #[])
    (ha : s1.heap.get? a = some { cls := .type "list", data := .seq vs.toArray }) (hi : PyProof.Rows.IntsAre vs ns) (hl : ns.length ≤ sizeLine) (hr : Room k callerA)
    (F : ∀ base : Heap, K.In base → base.Ns mainGlobals mg → FnG Pg w K mg base k fA fd [x] sp) (bnd : ∀ (s : Shared) (u : Value), BindsTo s fd ⟨[u], []⟩ [(x, u)])
    (hsp : ∀ H : Hp, SqL K H a (ns.map V.int) → sp [.ref a] H (fun v _ => v = .bl true) fun _ _ _ => False) :
    codeAny (model Pg w) callerA (.call (.ref fA) ⟨[.ref a], []⟩) (fun r s' => r = .ok (.ret (.bool true)) ∧ OldK s1.heap s'.heap ∧ s'.os = s1.os ∧ AllBare s'.gens) s1 := by
  have rv := vals_ints hi
  have ln := hi.length
  -- H tracks nothing, or the script alone
  suffices main : ∀ H : Hp, (∀ b u, H b = some u → b = a ∧ K.lookup a = none ∧ ∃ o xs, u = .frz o (.lst xs)) → SqL K H a (ns.map V.int) → HOk Pg w H s1.heap →
      codeAny (model Pg w) callerA (.call (.ref fA) ⟨[.ref a], []⟩) (fun r s' => r = .ok (.ret (.bool true)) ∧ OldK s1.heap s'.heap ∧ s'.os = s1.os ∧ AllBare s'.gens) s1 by
    by_cases hk : ∃ o, K.lookup a = some o
    · obtain ⟨o, hk⟩ := hk
      have eo := kin a o hk
      rw [ha] at eo
      cases eo
      exact main (fun _ => none) (fun b u q => nomatch q) (.inr ⟨_, vs.toArray, _, hk, rfl, rfl, rfl, by rw [List.size_toArray, ln]; exact hl, by simpa using rv⟩) (fun b u q => nomatch q)
    · have hk0 : K.lookup a = none := by
        cases q : K.lookup a with
        | none => rfl
        | some o => exact absurd ⟨o, q⟩ hk
      refine main (upd (fun _ => none) a (.frz { cls := .type "list", data := .seq vs.toArray } (.lst (ns.map V.int)))) (fun b u q => ?_) (.inl (.inr ⟨_, upd_same⟩)) fun b u q => ?_
      · by_cases hba : b = a
        · rw [hba, upd_same] at q
          cases q
          exact ⟨hba, hk0, _, _, rfl⟩
        · rw [upd_ne hba] at q
          cases q
      · by_cases hba : b = a
        · rw [hba, upd_same] at q
          cases q
          rw [hba]
          exact ⟨ha, by rw [List.length_map]; exact hl, vs, _, rv, ha⟩
        · rw [upd_ne hba] at q
          cases q
  intro H hO hS hok
  have keepB : ∀ {b : Addr} {o : Obj}, s1.heap.get? b = some o → (b = a → K.lookup a ≠ none ∨ ∃ es ep, o.data = .dict es ep) → (hidT s1.heap H).get? b = some o := fun {b o} e n => hidT_get e (by
    cases q : H b with
    | none => rfl
    | some u =>
      obtain ⟨hba, hk, _⟩ := hO b u q
      rcases n hba with z | ⟨es, ep, z⟩
      · exact absurd hk z
      · rw [hba, ha] at e
        cases e
        cases (show Data.seq vs.toArray _ = Data.dict es ep from z))
  have nsB : ∀ {b : Addr} {m : Str → Option Value}, s1.heap.Ns b m → (hidT s1.heap H).Ns b m := fun {b m} hN => by
    obtain ⟨o, es, ep, e, d, r⟩ := hN
    exact ⟨o, es, ep, keepB e fun _ => .inr ⟨es, ep, d⟩, d, r⟩
  have kinB : K.In (hidT s1.heap H) := fun b o e => keepB (kin b o e) fun hba => .inl (by rw [← hba, e]; exact fun z => nomatch z)
  have e0 : Env0 Pg w K mg (hidT s1.heap H) callerA [] s1 H := by
    obtain ⟨mc, h1, h2⟩ := lim
    exact { frames := rfl, mod := ⟨kinB, nsB hns, ⟨mb, nsB hb, hbb⟩, mc, nsB h1, h2⟩, bs := fun b o e => of_hidT e, bsz := Nat.le_of_eq (hidT_size _ _), funs := trivial, frf := (fun b hb => nomatch hb), hok := hok, bare := .of_eq hg }
  refine codeAny_mono ((F _ kinB (nsB hns)).go callerA [] s1 H ⟨[.ref a], []⟩ [.ref a] [.ref a] _ _ hr rfl e0 (bnd s1 (.ref a)) (.cons rfl .nil) (hsp H hS)) fun res s' hq => ?_
  match res, hq with
  | .ok (.ret u), hq =>
    obtain ⟨v, H', os, bare, un, hok', r', q⟩ := hq
    cases (show v = .bl true from q)
    cases (show u = Value.bool true from r')
    refine ⟨rfl, OldK.of_keep fun b o e => ?_, os, bare⟩
    cases q : H b with
    | none => exact un.keep b o e q (fun z => nomatch z) (fun z => nomatch z)
    | some u =>
      obtain ⟨_, _, ob, xs, rfl⟩ := hO b u q
      obtain ⟨e1, _⟩ := hok b _ q
      obtain ⟨e2, _⟩ := hok' b _ (un.frzs b ob _ q)
      rw [e] at e1
      cases e1
      exact e2
  | .ok .next, hq => exact False.elim hq
  | .ok .brk, hq => exact False.elim hq
  | .ok .cont, hq => exact False.elim hq
  | .error er, hq => exact False.elim hq
/-- the goal that k_head leaves -/
theorem walk_g {l : PySem.W.OpenLaw} {k : Nat} {q : Program} {loose : List Str} {XP : (Str → Option Value) → Heap → Prop} {YP : World → Heap → Prop} {d : DefRec} {K : Params → PySem.W.Frag} {x : Str} {ca : World → Str → Option Addr} {G : List D → R D}
    (hn : l.most = some 63) (hdf : d.params.defaults = []) (hr : Room k callerA) (hY : ∀ (w : World) (h : Heap), YP w h → (K w.params).In h)
    (F : ∀ (w : World) (mg : Str → Option Value) (fA : Addr) (h : Heap), (K w.params).In h → h.Ns mainGlobals mg → mg d.name = some (.ref fA) →
      ∃ fd : FuncData, (∀ (s : Shared) (u : Value), BindsTo s fd ⟨[u], []⟩ [(x, u)]) ∧ ∀ base : Heap, (K w.params).In base → base.Ns mainGlobals mg → ∃ ca, FnG l.prog w (K w.params) mg base k fA fd [x] (spF (K w.params) ca [] G))
    (hG : ∀ ns : List Int, ns.length ≤ 63 → G [.scr ns] = R.ok (.bl true)) : PySem.W.WalkO q loose XP YP l.row.toRowW d [] (fun f vs => PySem.call f vs) := by
  refine Att.attach_call hn hdf fun w s₀ s₁ mg mb fa o pm cd doc a vs ns Gr Y ho hd hcd hmg hobj hints hlen hg => ?_
  have kin := hY w _ Y
  obtain ⟨fd, hb, hF⟩ := F w mg fa _ kin Gr.T.g hmg
  have big : ns.length ≤ sizeLine := by rw [sizeLine_eq]; omega
  refine law_g (sp := fun vs H Q E => ∃ (ns : List Int) (a : Addr), ns.length ≤ 63 ∧ vs = [.ref a] ∧ SqL (K w.params) H a (ns.map V.int) ∧ ∀ H', Q (.bl true) H') kin Gr.T.g Gr.T.b Gr.T.builtins Gr.T.nolimit hg hobj hints big hr (fun base h1 h2 => ?_) hb fun H hS => ⟨ns, a, hlen, rfl, hS, fun _ => rfl⟩
  obtain ⟨ca, FG⟩ := hF base h1 h2
  refine ⟨fun vs H Q E h => ?_, fun A up s H args us vs Q E hr hgu e0 hb r h => FG.go A up s H args us vs Q E hr hgu e0 hb r ?_⟩
  · obtain ⟨ns, a, _, rfl, _⟩ := h
    rfl
  · obtain ⟨ns, a, hl, rfl, hS, hq⟩ := h
    refine ⟨[.scr ns], [], List.nodup_nil, fun _ z => (nomatch z), TIn.nil, .cons (.scr ?_) .nil, ?_⟩
    · have : Frz H [] = H := by
        funext b
        unfold Frz
        rw [if_neg (fun z => nomatch z)]
      rw [this]
      exact hS
    · rw [hG ns hl]
      exact fun v H' _ _ hv => by
        cases hv
        exact hq H'
end
end PL
set_option Elab.async false
set_option linter.all false
set_option maxRecDepth 100000
set_option maxHeartbeats 4000000
namespace PL
open PySem PySem.Spec PyProof.Rows L2
section
variable {X : Cx} {z : Z} {O OI OM OO OL : List Nat} {EX : EXT} {a b c e o : Expr} {es : List Expr} {f g h : FE} {fa ga fk : FA} {fs gs : FS} {pos p apos : Pos} {st : Stmt} {sts : List Stmt}
/-! ### longer chains of comparisons -/
def lastC (g2 : D → D → Option D) (g : FE) : D → FE := fun d ρ S => g ρ S >>= fun y => R.of (g2 d y.1) >>= fun r => R.ok (r, y.2)
def consC (g2 : D → D → Option D) (g : FE) (h : D → FE) : D → FE := fun d ρ S => g ρ S >>= fun y => R.of (g2 d y.1) >>= fun r => match r with
  | .bl true => h y.1 ρ y.2
  | .bl false => R.ok (.bl false, y.2)
  | _ => R.bad
def chnE (f : FE) (h : D → FE) : FE := fun ρ S => f ρ S >>= fun x => h x.1 ρ x.2
/-! ### len of an instance -/
def lenC (cn : Str) (F : List D → R D) (f : FE) : FE := fun ρ S => f ρ S >>= fun x => match x.1 with
  | .ins c _ _ => if c = cn then noX (F [x.1]) >>= fun d => match d with
    | .int n => if 0 ≤ n ∧ n < 2 ^ 63 then R.ok (.int n, x.2) else R.bad
    | _ => R.bad else R.bad
  | _ => R.bad
/-! ### {}, {k: v}, list(range(..)) -/
theorem pd_dic : PD X z O EX (.Dict [] [] pos) (fun _ S => R.ok (.dic [] [], S)) := pd_dic0 pe_dnewK
def rangeF : List D → Option (List D)
  | [.int a, .int b] => if -(2 ^ 62) ≤ a ∧ a < 2 ^ 62 ∧ -(2 ^ 62) ≤ b ∧ b < 2 ^ 62 ∧ (b - a).toNat ≤ 2 ^ 24 then some ((List.range (b - a).toNat).map fun i => D.int (a + (i : Nat))) else none
  | _ => none
def rgF (f g : FE) : FA := fun ρ S => f ρ S >>= fun x => g ρ x.2 >>= fun y => R.of (rangeF [x.1, y.1]) >>= fun d => R.ok (d, y.2)
/-! ### x.extend(ys), x owned -/
def extS (i : Nat) (f : FE) : FS := fun ρ S => f ρ S >>= fun x => lk ρ i >>= fun l => match l, x.1 with
  | .lst ds, .lst es => if ds.length + es.length ≤ LINE then setE ρ i (.lst (ds ++ es)) >>= fun ρ1 => R.ok (.nx, ρ1, x.2) else R.bad
  | _, _ => R.bad
/-! ### a, b, c, d = ([], [], e, e'): the lists are owned -/
def own4S (i j k l : Nat) (f g : FE) : FS := fun ρ S => f ρ S >>= fun x => g ρ x.2 >>= fun y => setE ρ i (.lst []) >>= fun ρ1 => setE ρ1 j (.lst []) >>= fun ρ2 => setE ρ2 k x.1 >>= fun ρ3 => setE ρ3 l y.1 >>= fun ρ4 => R.ok (.nx, ρ4, y.2)
end
end PL
set_option Elab.async false
set_option linter.all false
set_option maxRecDepth 100000
set_option maxHeartbeats 4000000
/-! zip and enumerate over tuples and lists, as many as there are. -/
namespace PLZ
open PySem
open PySem.Sem (wp)
/-- an iterator, what it walks, whether that is a tuple -/
structure Src where
  it : Addr
  l : Addr
  tp : Bool
def At (h : Heap) (c : Src) (xs : List Value) (j : Nat) : Prop :=
  if c.tp then h.IsTupleIter c.it c.l j ∧ h.IsTuple c.l xs.toArray else h.IsListIter c.it c.l j ∧ h.IsList c.l xs.toArray
section
variable {prog : Program} {w : World} {A : Around} {E : Value → Shared → Prop} {s : Shared} {h h' : Heap} {c : Src} {xs : List Value} {j : Nat}
theorem At.keep (a : At h c xs j) (k1 : ∀ o, h.get? c.it = some o → h'.get? c.it = some o) (k2 : ∀ o, h.get? c.l = some o → h'.get? c.l = some o) : At h' c xs j := by
  unfold At at a ⊢
  split at a
  · rename_i q
    rw [if_pos q]
    exact ⟨a.1.at fun o e => k1 o e, a.2.at fun o e => k2 o e⟩
  · rename_i q
    rw [if_neg q]
    exact ⟨a.1.at fun o e => k1 o e, a.2.at fun o e => k2 o e⟩
theorem At.there (a : At h c xs j) : ∃ o, h.get? c.it = some o ∧ ∃ vs, o.data = .fields vs := by
  unfold At at a
  split at a
  · obtain ⟨⟨o, ho, _, hd⟩, _⟩ := a
    exact ⟨o, ho, _, hd⟩
  · obtain ⟨⟨o, ho, _, hd⟩, _⟩ := a
    exact ⟨o, ho, _, hd⟩
theorem At.item {x : Value} {Q : Value → Shared → Prop} (a : At s.heap c xs j) (hx : xs[j]? = some x) (ne : c.l ≠ c.it)
    (hQ : ∀ h1, At h1 c xs (j + 1) → Heap.SameBut c.it s.heap h1 → Q x { s with heap := h1 }) : wpAny (model prog w) A (Builtin.SmallTypes.nextOf (.ref c.it)) Q E s := by
  unfold At at a
  split at a
  · rename_i q
    refine RZ.nextOf_tuple_item a.1 a.2 (x := x) (by simpa using hx) fun h1 a1 sb => hQ h1 ?_ sb
    unfold At
    rw [if_pos q]
    exact ⟨a1, a.2.extBut sb.extBut ne⟩
  · rename_i q
    refine wpAny_nextOf_list_item a.1 a.2 (x := x) (by simpa using hx) fun h1 a1 sb => hQ h1 ?_ sb
    unfold At
    rw [if_neg q]
    exact ⟨a1, a.2.extBut sb.extBut ne⟩
theorem At.stop {Q : Value → Shared → Prop} (hh : A.handled = none) (a : At s.heap c xs j) (hx : xs.length ≤ j)
    (hE : ∀ h1 e, Heap.ExtBut c.it s.heap h1 → (∃ o, h1.get? e = some o ∧ o.cls = .type "StopIteration") → E (.ref e) { s with heap := h1 }) :
    wpAny (model prog w) A (Builtin.SmallTypes.nextOf (.ref c.it)) Q E s := by
  unfold At at a
  split at a
  · exact RZ.nextOf_tuple_end hh a.1 a.2 (by simpa using hx) hE
  · exact wpAny_nextOf_list_end hh a.1 a.2 (by simpa using hx) hE
/-! the zip -/
abbrev Col := Src × List Value
def row (cs : List Col) (j : Nat) : List Value := cs.map fun p => p.2.getD j .none
def feet (z TI TO : Addr) (cs : List Col) : List Addr := z :: TI :: TO :: cs.map (·.1.it)
structure Apart (z TI TO : Addr) (cs : List Col) : Prop where
  nd : (feet z TI TO cs).Nodup
  off : ∀ p ∈ cs, p.1.l ∉ feet z TI TO cs
  few : cs.length ≤ 8
  non : cs ≠ []
abbrev ZipRec (h : Heap) (z TI TO : Addr) (f0 : Value) (f1 : Bool) : Prop :=
  h.get? z = some { cls := .type "zip", dict := none, data := .fields #[f0, .bool f1, .bool false, .ref TI, .ref TO], slots := #[] }
abbrev TupRec (h : Heap) (T : Addr) (xs : List Value) : Prop := h.get? T = some { cls := .type "tuple", data := .seq xs.toArray }
structure ZipAt (h : Heap) (z TI TO : Addr) (cs : List Col) (j : Nat) : Prop where
  z : ∃ f0 f1, (f0 = .none ∨ ∃ T : Addr, f0 = rawInt T) ∧ ZipRec h z TI TO f0 f1
  ti : TupRec h TI (cs.map fun p => .ref p.1.it)
  to : ∃ ws, ws.length = cs.length ∧ TupRec h TO ws
  at_ : ∀ p ∈ cs, At h p.1 p.2 j
theorem upd_tup {T : Addr} {ws : List Value} {k : Nat} {x : Value} {Q : Unit → Shared → Prop} (ht : TupRec s.heap T ws) (hk : ws.length ≤ 8)
    (hQ : ∀ h1, TupRec h1 T (ws.set k x) → Heap.SameBut T s.heap h1 → Q () { s with heap := h1 }) : wpAny (model prog w) A (updateSeq T (·.setIfInBounds k x)) Q E s := by
  have e : sizeLine = 16777216 := by decide
  refine wpAny_updateSeq ht rfl (hQ _ ?_ (Heap.SameBut.update ..)) (by rw [List.size_toArray, e]; omega) (by rw [Array.size_setIfInBounds, List.size_toArray, e]; omega)
  show Heap.get? _ _ = _
  rw [Heap.get?_update_self _ ht rfl]
  simp [Obj.mapSeq]
end
end PLZ
set_option Elab.async false
set_option linter.all false
set_option maxRecDepth 100000
set_option maxHeartbeats 4000000
namespace PLZ
open PySem
open PySem.Sem (wp)
section
variable {prog : Program} {w : World} {A : Around} {E : Value → Shared → Prop} {s : Shared} {h h' : Heap} {z TI TO : Addr} {cs : List Col} {j : Nat}
theorem alive_any {a : Addr} {Q : Option Obj → Shared → Prop} (hq : Q (s.heap.get? a) s) : wpAny (model prog w) A (loadIfAlive a) Q E s := fun _ _ _ => hq
/-- is the tuple free: both may come -/
theorem free_any {f0 : Value} {f1 : Bool} {Q : Bool → Shared → Prop} (ez : ZipRec s.heap z TI TO f0 f1) (h0 : f0 = .none ∨ ∃ T : Addr, f0 = rawInt T)
    (h1 : Q true s) (h2 : ∀ h1, ZipRec h1 z TI TO f0 true → Heap.SameBut z s.heap h1 → Q false { s with heap := h1 }) : wpAny (model prog w) A (Builtin.SmallTypes.ownedTupleIsFree (.ref z)) Q E s := by
  unfold Builtin.SmallTypes.ownedTupleIsFree
  refine wpAny_bind (wpAny_field ez rfl (x := f0) rfl ?_)
  rcases h0 with rfl | ⟨T, rfl⟩
  · exact wpAny_pure h1
  · show wpAny _ _ (loadIfAlive ((T : Int).toNat) >>= _) _ _ s
    refine wpAny_bind (alive_any ?_)
    cases q : s.heap.get? (T : Int).toNat with
    | none =>
      simp only [Option.isNone_none, if_true]
      exact wpAny_pure h1
    | some o =>
      simp only [Option.isNone_some, Bool.false_eq_true, if_false]
      refine wpAny_bind (wpAny_field ez rfl (x := .bool f1) rfl ?_)
      cases f1 with
      | true =>
        rw [if_neg (by simp)]
        exact wpAny_pure (h2 s.heap ez (Heap.SameBut.refl _ _))
      | false =>
        rw [if_pos (by rfl)]
        exact wpAny_bind (wpAny_setField_rec ez (by simp) fun h1 e1 sb => wpAny_pure (h2 h1 e1 sb))
theorem take_s {α : Type} {l : List α} {k : Nat} (hk : k < l.length) : l.take (k + 1) = l.take k ++ [l[k]] := by
  rw [List.take_add_one]
  simp [hk]
theorem few_ok {n : Nat} (hn : n ≤ 8) : n ≤ sizeLine := by
  have e : sizeLine = 16777216 := by decide
  omega
theorem Apart.ne (D : Apart z TI TO cs) : z ≠ TI ∧ z ≠ TO ∧ TI ≠ TO ∧ ∀ p ∈ cs, p.1.it ≠ z ∧ p.1.it ≠ TI ∧ p.1.it ≠ TO := by
  have nd := D.nd
  unfold feet at nd
  simp only [List.nodup_cons, List.mem_cons, not_or] at nd
  obtain ⟨⟨a1, a2, a3⟩, ⟨b1, b2⟩, c1, _⟩ := nd
  refine ⟨a1, a2, b1, fun p hp => ?_⟩
  have hm : p.1.it ∈ cs.map (·.1.it) := List.mem_map_of_mem (f := fun q : Col => q.1.it) hp
  exact ⟨fun e => a3 (e ▸ hm), fun e => b2 (e ▸ hm), fun e => c1 (e ▸ hm)⟩
theorem Apart.inj (D : Apart z TI TO cs) {i k : Nat} {p q : Col} (hp : cs[i]? = some p) (hq : cs[k]? = some q) (e : p.1.it = q.1.it) : i = k := by
  have nd : (cs.map (·.1.it)).Nodup := by
    have nd := D.nd
    unfold feet at nd
    simp only [List.nodup_cons] at nd
    exact nd.2.2.2
  have hi : i < cs.length := (List.getElem?_eq_some_iff.mp hp).1
  refine (List.getElem?_inj (l := cs.map (·.1.it)) (by simpa using hi) nd).mp ?_
  rw [List.getElem?_map, List.getElem?_map, hp, hq]
  simp [e]
/-- the first k have been drawn -/
structure Mid (s0 : Heap) (z TI TO : Addr) (cs : List Col) (j k : Nat) (h : Heap) (ws : List Value) : Prop where
  ti : TupRec h TI (cs.map fun p => .ref p.1.it)
  to : TupRec h TO ws
  got : ∀ i p, cs[i]? = some p → At h p.1 p.2 (if i < k then j + 1 else j)
  sz : h.objs.size = s0.objs.size
  old : ∀ b o, b ∉ feet z TI TO cs → s0.get? b = some o → h.get? b = some o
theorem Mid.draw {s0 h1 : Heap} {k : Nat} {ws : List Value} {p : Col} (D : Apart z TI TO cs) (M : Mid s0 z TI TO cs j k h ws) (hp : cs[k]? = some p) (a : At h1 p.1 p.2 (j + 1)) (sb : Heap.SameBut p.1.it h h1) : Mid s0 z TI TO cs j (k + 1) h1 ws := by
  have hm : p ∈ cs := List.mem_of_getElem? hp
  obtain ⟨n1, n2, n3, n4⟩ := D.ne
  obtain ⟨m1, m2, m3⟩ := n4 p hm
  refine ⟨sb.extBut _ _ (Ne.symm m2) M.ti, sb.extBut _ _ (Ne.symm m3) M.to, fun i q hq => ?_, sb.1.trans M.sz, fun b o hb e => sb.extBut _ _ (fun z => hb ?_) (M.old b o hb e)⟩
  · by_cases hik : i = k
    · subst hik
      rw [hp] at hq
      cases hq
      rw [if_pos (Nat.lt_succ_self _)]
      exact a
    · have e : (if i < k + 1 then j + 1 else j) = if i < k then j + 1 else j := by
        by_cases h1 : i < k
        · rw [if_pos h1, if_pos (by omega)]
        · rw [if_neg h1, if_neg (by omega)]
      rw [e]
      have hqm : q ∈ cs := List.mem_of_getElem? hq
      refine (M.got i q hq).keep (fun o e => sb.extBut _ _ (fun z => hik (D.inj hq hp z)) e) fun o e => sb.extBut _ _ (fun z => D.off q hqm ?_) e
      rw [z]
      unfold feet
      exact List.mem_cons_of_mem _ (List.mem_cons_of_mem _ (List.mem_cons_of_mem _ (List.mem_map_of_mem (f := fun q : Col => q.1.it) hm)))
  · rw [z]
    unfold feet
    exact List.mem_cons_of_mem _ (List.mem_cons_of_mem _ (List.mem_cons_of_mem _ (List.mem_map_of_mem (f := fun q : Col => q.1.it) hm)))
/-- a write to z or to TO -/
theorem Mid.put {s0 h1 : Heap} {k : Nat} {ws ws1 : List Value} {a : Addr} (D : Apart z TI TO cs) (M : Mid s0 z TI TO cs j k h ws) (ha : a = z ∨ a = TO) (ht : TupRec h1 TO ws1) (sb : Heap.SameBut a h h1) : Mid s0 z TI TO cs j k h1 ws1 := by
  obtain ⟨n1, n2, n3, n4⟩ := D.ne
  have hf : a ∈ feet z TI TO cs := by
    unfold feet
    rcases ha with rfl | rfl <;> simp
  refine ⟨sb.extBut _ _ ?_ M.ti, ht, fun i q hq => ?_, sb.1.trans M.sz, fun b o hb e => sb.extBut _ _ (fun z => hb (z ▸ hf)) (M.old b o hb e)⟩
  · rcases ha with rfl | rfl
    · exact Ne.symm n1
    · exact n3
  · have hqm : q ∈ cs := List.mem_of_getElem? hq
    refine (M.got i q hq).keep (fun o e => sb.extBut _ _ ?_ e) fun o e => sb.extBut _ _ (fun z => D.off q hqm (z ▸ hf)) e
    obtain ⟨m1, m2, m3⟩ := n4 q hqm
    rcases ha with rfl | rfl
    · exact m1
    · exact m3
theorem Mid.start (D : Apart z TI TO cs) {ws : List Value} (ti : TupRec h TI (cs.map fun p => .ref p.1.it)) (to : TupRec h TO ws) (ats : ∀ p ∈ cs, At h p.1 p.2 j) : Mid h z TI TO cs j 0 h ws :=
  ⟨ti, to, fun i p hp => by rw [if_neg (Nat.not_lt_zero _)]; exact ats p (List.mem_of_getElem? hp), rfl, fun _ _ _ e => e⟩
theorem zip_item {Q : Value → Shared → Prop} (D : Apart z TI TO cs) (Z : ZipAt s.heap z TI TO cs j) (hj : ∀ p ∈ cs, j < p.2.length)
    (hQ : ∀ h1, ZipAt h1 z TI TO cs (j + 1) → TupRec h1 s.heap.objs.size (row cs j) → h1.objs.size = s.heap.objs.size + 1 → (∀ b o, b ∉ feet z TI TO cs → s.heap.get? b = some o → h1.get? b = some o) → Q (.ref s.heap.objs.size) { s with heap := h1 }) :
    wpAny (model prog w) A (Builtin.«zip.__next__» ⟨[.ref z], []⟩) (fun fin s1 => ∃ v, fin = .done (.ret v) ∧ Q v s1) E s := by
  obtain ⟨⟨f0, f1, h0, ez⟩, eTI, ⟨ws, lw, eTO⟩, ats⟩ := Z
  obtain ⟨n1, n2, n3, n4⟩ := D.ne
  show wpAny _ _ (field (.ref z) 2 >>= _) _ _ s
  refine wpAny_bind (wpAny_field ez rfl (x := .bool false) rfl ?_)
  show wpAny _ _ (field (.ref z) 3 >>= _) _ _ s
  refine wpAny_bind (wpAny_field ez rfl (x := .ref TI) rfl ?_)
  refine wpAny_bind (wpAny_seqItems eTI rfl ?_)
  have ne : ((cs.map fun p => Value.ref p.1.it).toArray.isEmpty) = false := by
    have := D.non
    cases cs with
    | nil => exact absurd rfl this
    | cons _ _ => simp
  simp only [ne, Bool.false_eq_true, if_false]
  refine wpAny_bind (free_any ez h0 ?_ ?_)
  · simp only [if_true]
    refine wpAny_bind (wpAny_rule ?_)
    refine wpAny_bind (wpAny_field ez rfl (x := .ref TO) rfl ?_)
    refine wpAny_bind (wpAny_setField_rec ez (by simp) fun h1 e1 sb1 => ?_)
    refine wpAny_bind ?_
    refine wpAny_forIn_list _ (fun rest b s1 => ∃ k h2, rest = ((cs.map fun p => Value.ref p.1.it).zipIdx).drop k ∧ k ≤ cs.length ∧ b = (none, ()) ∧ s1 = { s with heap := h2 } ∧ ZipRec h2 z TI TO .ellipsis f1 ∧ Mid s.heap z TI TO cs j k h2 ((row cs j).take k ++ ws.drop k)) _ ?_ ?_ _ _ ⟨0, h1, by simp, Nat.zero_le _, rfl, rfl, e1, (Mid.start D eTI eTO ats).put D (.inl rfl) (sb1.extBut _ _ (Ne.symm n2) (by simpa using eTO)) sb1⟩
    · rintro x rest b s1 ⟨k, h2, er, hk, rfl, rfl, z2, M⟩
      have hlt : k < cs.length := by
        rcases Nat.lt_or_ge k cs.length with q | q
        · exact q
        · rw [List.drop_of_length_le (by simpa using q)] at er
          cases er
      have hpk : cs[k]? = some cs[k] := List.getElem?_eq_getElem hlt
      rw [List.drop_eq_getElem_cons (by simpa using hlt)] at er
      cases er
      simp only [List.getElem_zipIdx, List.getElem_map, Nat.zero_add]
      have am := M.got k _ hpk
      rw [if_neg (Nat.lt_irrefl _)] at am
      have hm := List.mem_of_getElem? hpk
      have jl := hj _ hm
      refine wpAny_bind (wpAny_onRaise ?_)
      show wpAny _ _ (Builtin.SmallTypes.nextOf (.ref cs[k].1.it) >>= _) _ _ _
      refine wpAny_bind (am.item (s := { s with heap := h2 }) (x := cs[k].2[j]) (by simp [jl]) (fun e => D.off _ hm (by unfold feet; rw [e]; exact List.mem_cons_of_mem _ (List.mem_cons_of_mem _ (List.mem_cons_of_mem _ (List.mem_map_of_mem (f := fun q : Col => q.1.it) hm))))) fun h3 a3 sb3 => wpAny_pure ?_)
      have M3 := M.draw D hpk a3 sb3
      have z3 : ZipRec h3 z TI TO .ellipsis f1 := sb3.extBut _ _ (Ne.symm (n4 _ hm).1) z2
      show wpAny _ _ (seqItems? (.ref TO) >>= _) _ _ _
      refine wpAny_bind (wpAny_seqItems (s := { s with heap := h3 }) M3.to rfl ?_)
      have lr : (row cs j).length = cs.length := by simp [row]
      refine wpAny_bind (upd_tup (s := { s with heap := h3 }) M3.to (by have := D.few; simp; omega) fun h4 t4 sb4 => ?_)
      refine wpAny_bind (wpAny_letGo (wpAny_pure ?_))
      have ew : ((row cs j).take k ++ ws.drop k).set k cs[k].2[j] = (row cs j).take (k + 1) ++ ws.drop (k + 1) := by
        rw [List.set_append_right _ _ (by simp [lr]; omega), List.length_take, Nat.min_eq_left (by omega), Nat.sub_self, List.drop_eq_getElem_cons (by omega : k < ws.length), List.set_cons_zero, take_s (by omega : k < (row cs j).length)]
        simp [row, jl]
      exact ⟨k + 1, h4, rfl, hlt, rfl, rfl, sb4.extBut _ _ n2 z3, (M3.put D (.inr rfl) (ew ▸ t4) sb4)⟩
    · rintro b s1 ⟨k, h2, er, hk, rfl, rfl, z2, M⟩
      have ek : k = cs.length := by
        have := congrArg List.length er
        simp at this
        omega
      subst ek
      have lr : (row cs j).length = cs.length := by simp [row]
      have ew : (row cs j).take cs.length ++ ws.drop cs.length = row cs j := by
        rw [← lr, List.take_length, List.drop_of_length_le (by omega), List.append_nil]
      rw [ew] at M
      dsimp only
      refine wpAny_bind (wpAny_seqItems (s := { s with heap := h2 }) M.to rfl ?_)
      simp only [List.toList_toArray]
      refine wpAny_bind (wpAny_newTuple (s := { s with heap := h2 }) ?_ (few_ok (by rw [lr]; exact D.few)))
      show wpAny _ _ (Builtin.SmallTypes.ownedTupleHandOut (.ref z) (.ref h2.objs.size) >>= _) _ _ _
      refine wpAny_bind ?_
      unfold Builtin.SmallTypes.ownedTupleHandOut
      have z5 : ZipRec (h2.push { cls := .type "tuple", data := .seq (row cs j).toArray }) z TI TO .ellipsis f1 := Heap.get?_push_of_some _ z2
      refine wpAny_bind (wpAny_setField_rec (s := { s with heap := _ }) z5 (by simp) fun h6 z6 sb6 => ?_)
      refine wpAny_setField_rec (s := { s with heap := _ }) z6 (by simp) fun h7 z7 sb7 => ?_
      refine wpAny_pure ⟨_, rfl, ?_⟩
      have up : ∀ b o, b ≠ z → h2.get? b = some o → h7.get? b = some o := fun b o n e => sb7.extBut _ _ n (sb6.extBut _ _ n (Heap.get?_push_of_some _ e))
      have zl : z < h2.objs.size := Heap.lt_size z2
      have s7 : h7.objs.size = s.heap.objs.size + 1 := by rw [sb7.1, sb6.1, Heap.size_push, M.sz]
      show Q (.ref h2.objs.size) _
      rw [M.sz]
      refine hQ h7 ⟨⟨rawInt h2.objs.size, false, .inr ⟨_, rfl⟩, z7⟩, up _ _ (Ne.symm n1) M.ti, ⟨_, lr, up _ _ (Ne.symm n2) M.to⟩, fun p hp => ?_⟩ ?_ s7 fun b o hb e => ?_
      · obtain ⟨i, hi⟩ := List.mem_iff_getElem?.mp hp
        have a := M.got i p hi
        rw [if_pos (List.getElem?_eq_some_iff.mp hi).1] at a
        exact a.keep (fun o e => up _ o (n4 p hp).1 e) fun o e => up _ o (fun q => D.off p hp (by rw [q]; unfold feet; simp)) e
      · have t : TupRec h7 h2.objs.size (row cs j) := sb7.extBut _ _ (Nat.ne_of_gt zl) (sb6.extBut _ _ (Nat.ne_of_gt zl) (Heap.get?_push_size _ rfl))
        rw [M.sz] at t
        exact t
      · exact up b o (fun q => hb (by rw [q]; unfold feet; simp)) (M.old b o hb e)
  · intro h1 e1 sb1
    simp only [Bool.false_eq_true, if_false]
    refine wpAny_bind ?_
    have t1 : TupRec h1 TO ws := sb1.extBut _ _ (Ne.symm n2) eTO
    refine wpAny_forIn_array' _ (fun rest b s1 => ∃ k h2, rest = (cs.map fun p => Value.ref p.1.it).drop k ∧ k ≤ cs.length ∧ b = (none, ((row cs j).take k).toArray) ∧ s1 = { s with heap := h2 } ∧ ZipRec h2 z TI TO f0 true ∧ Mid s.heap z TI TO cs j k h2 ws) _ ?_ ?_ _ _ ⟨0, h1, by simp, Nat.zero_le _, by simp, rfl, e1, (Mid.start D eTI eTO ats).put D (.inl rfl) t1 sb1⟩
    · rintro x rest b s1 ⟨k, h2, er, hk, rfl, rfl, z2, M⟩
      have hlt : k < cs.length := by
        rcases Nat.lt_or_ge k cs.length with q | q
        · exact q
        · rw [List.drop_of_length_le (by simpa using q)] at er
          cases er
      have hpk : cs[k]? = some cs[k] := List.getElem?_eq_getElem hlt
      rw [List.drop_eq_getElem_cons (by simpa using hlt)] at er
      cases er
      simp only [List.getElem_map]
      have am := M.got k _ hpk
      rw [if_neg (Nat.lt_irrefl _)] at am
      have hm := List.mem_of_getElem? hpk
      have jl := hj _ hm
      refine wpAny_bind (wpAny_holding ?_)
      show wpAny _ _ (Builtin.SmallTypes.nextOf (.ref cs[k].1.it) >>= _) _ _ _
      refine wpAny_bind (am.item (s := { s with heap := h2 }) (x := cs[k].2[j]) (by simp [jl]) (fun e => D.off _ hm (by unfold feet; rw [e]; exact List.mem_cons_of_mem _ (List.mem_cons_of_mem _ (List.mem_cons_of_mem _ (List.mem_map_of_mem (f := fun q : Col => q.1.it) hm))))) fun h3 a3 sb3 => wpAny_pure (wpAny_pure ?_))
      have lr : (row cs j).length = cs.length := by simp [row]
      refine ⟨k + 1, h3, rfl, hlt, ?_, rfl, sb3.extBut _ _ (Ne.symm (n4 _ hm).1) z2, M.draw D hpk a3 sb3⟩
      rw [take_s (by omega : k < (row cs j).length)]
      simp [row, jl]
    · rintro b s1 ⟨k, h2, er, hk, rfl, rfl, z2, M⟩
      have ek : k = cs.length := by
        have := congrArg List.length er
        simp at this
        omega
      subst ek
      have lr : (row cs j).length = cs.length := by simp [row]
      dsimp only
      rw [← lr, List.take_length]
      refine wpAny_bind (wpAny_newTuple (s := { s with heap := h2 }) (wpAny_pure ⟨_, rfl, ?_⟩) (few_ok (by rw [lr]; exact D.few)))
      show Q (.ref h2.objs.size) _
      rw [M.sz]
      have up : ∀ b o, h2.get? b = some o → (h2.push { cls := .type "tuple", data := .seq (row cs j).toArray }).get? b = some o := fun b o e => Heap.get?_push_of_some _ e
      refine hQ _ ⟨⟨f0, true, h0, up _ _ z2⟩, up _ _ M.ti, ⟨_, lw, up _ _ M.to⟩, fun p hp => ?_⟩ ?_ (by rw [Heap.size_push, M.sz]) fun b o hb e => up _ _ (M.old b o hb e)
      · obtain ⟨i, hi⟩ := List.mem_iff_getElem?.mp hp
        have a := M.got i p hi
        rw [if_pos (List.getElem?_eq_some_iff.mp hi).1] at a
        exact a.keep (fun o e => up _ o e) fun o e => up _ o e
      · have t : TupRec (h2.push { cls := .type "tuple", data := .seq (row cs j).toArray }) h2.objs.size (row cs j) := Heap.get?_push_size _ rfl
        rw [M.sz] at t
        exact t
end
end PLZ
set_option Elab.async false
set_option linter.all false
set_option maxRecDepth 100000
set_option maxHeartbeats 4000000
namespace PLZ
open PySem
open PySem.Sem (wp)
section
variable {prog : Program} {w : World} {A : Around} {E : Value → Shared → Prop} {s : Shared} {h h' : Heap} {z TI TO : Addr} {cs : List Col} {j : Nat}
theorem zip_stop {Q : Fin → Shared → Prop} (hh : A.handled = none) (D : Apart z TI TO cs) (Z : ZipAt s.heap z TI TO cs j) (hj : ∀ p ∈ cs, p.2.length ≤ j)
    (hE : ∀ h1 e, (∀ b o, b ∉ feet z TI TO cs → s.heap.get? b = some o → h1.get? b = some o) → (∃ o, h1.get? e = some o ∧ o.cls = .type "StopIteration") → E (.ref e) { s with heap := h1 }) :
    wpAny (model prog w) A (Builtin.«zip.__next__» ⟨[.ref z], []⟩) Q E s := by
  obtain ⟨⟨f0, f1, h0, ez⟩, eTI, ⟨ws, lw, eTO⟩, ats⟩ := Z
  obtain ⟨n1, n2, n3, n4⟩ := D.ne
  have zf : z ∈ feet z TI TO cs := by unfold feet; simp
  show wpAny _ _ (field (.ref z) 2 >>= _) _ _ s
  refine wpAny_bind (wpAny_field ez rfl (x := .bool false) rfl ?_)
  show wpAny _ _ (field (.ref z) 3 >>= _) _ _ s
  refine wpAny_bind (wpAny_field ez rfl (x := .ref TI) rfl ?_)
  refine wpAny_bind (wpAny_seqItems eTI rfl ?_)
  obtain ⟨p, r, rfl⟩ : ∃ p r, cs = p :: r := by
    cases cs with
    | nil => exact absurd rfl D.non
    | cons p r => exact ⟨p, r, rfl⟩
  have hm : p ∈ p :: r := List.mem_cons_self ..
  have pf : p.1.it ∈ feet z TI TO (p :: r) := by unfold feet; simp
  have ne : (((p :: r).map fun p : Col => Value.ref p.1.it).toArray.isEmpty) = false := by simp
  simp only [ne, Bool.false_eq_true, if_false]
  refine wpAny_bind (free_any ez h0 ?_ ?_)
  · simp only [if_true]
    refine wpAny_bind (wpAny_rule ?_)
    refine wpAny_bind (wpAny_field ez rfl (x := .ref TO) rfl ?_)
    refine wpAny_bind (wpAny_setField_rec ez (by simp) fun h1 e1 sb1 => ?_)
    refine wpAny_bind ?_
    simp only [List.map_cons, List.zipIdx_cons, List.forIn_cons]
    refine wpAny_bind (wpAny_bind (wpAny_onRaise ?_))
    show wpAny _ _ (Builtin.SmallTypes.nextOf (.ref p.1.it) >>= _) _ _ _
    have a1 : At h1 p.1 p.2 j := (ats p hm).keep (fun o e => sb1.extBut _ _ (n4 p hm).1 e) fun o e => sb1.extBut _ _ (fun q => D.off p hm (q ▸ zf)) e
    refine wpAny_bind (a1.stop (s := { s with heap := h1 }) hh (hj p hm) fun h2 e x2 ho => ?_)
    have z2 := x2 _ _ (Ne.symm (n4 p hm).1) e1
    refine wpAny_setField_rec (s := { s with heap := h2 }) z2 (by simp) fun h3 z3 sb3 => ?_
    refine hE h3 e (fun b o hb q => sb3.extBut _ _ (fun c => hb (c ▸ zf)) (x2 _ _ (fun c => hb (c ▸ pf)) (sb1.extBut _ _ (fun c => hb (c ▸ zf)) q))) ?_
    obtain ⟨o, ho, hc⟩ := ho
    have nz : e ≠ z := fun c => by
      rw [c, z2] at ho
      cases ho
      simp at hc
    exact ⟨o, sb3.extBut _ _ nz ho, hc⟩
  · intro h1 e1 sb1
    simp only [Bool.false_eq_true, if_false]
    refine wpAny_bind ?_
    rw [← Array.forIn_toList]
    simp only [List.map_cons, List.forIn_cons]
    refine wpAny_bind (wpAny_bind (wpAny_holding ?_))
    show wpAny _ _ (Builtin.SmallTypes.nextOf (.ref p.1.it) >>= _) _ _ _
    have a1 : At h1 p.1 p.2 j := (ats p hm).keep (fun o e => sb1.extBut _ _ (n4 p hm).1 e) fun o e => sb1.extBut _ _ (fun q => D.off p hm (q ▸ zf)) e
    refine wpAny_bind (a1.stop (s := { s with heap := h1 }) hh (hj p hm) fun h2 e x2 ho => ?_)
    exact hE h2 e (fun b o hb q => x2 _ _ (fun c => hb (c ▸ pf)) (sb1.extBut _ _ (fun c => hb (c ▸ zf)) q)) ho
/-! enumerate over what draws -/
theorem enum_item {e it : Addr} {i : Nat} {old : Value} {P : Value → Heap → Prop} {Q : Value → Shared → Prop} (ee : IsEnum s.heap e it i old)
    (nx : ∀ (Q : Value → Shared → Prop) (E : Value → Shared → Prop), (∀ x h1 tk, P x h1 → IsEnum h1 e it i old → Q x { s with heap := h1, toks := tk }) → wpAny (model prog w) A (Builtin.SmallTypes.nextOf (.ref it)) Q E s)
    (hQ : ∀ x h1 tk h2, P x h1 → IsEnumOut h2 e it ((i : Int) + 1) x h1.objs.size → h2.get? h1.objs.size = some { cls := .type "tuple", data := .seq #[.int i tk, x] } → h2.objs.size = h1.objs.size + 1 →
      (∀ b o, b ≠ e → h1.get? b = some o → h2.get? b = some o) → Q (.ref h1.objs.size) { s with heap := h2, toks := tk + 1 }) :
    wpAny (model prog w) A (Builtin.«enumerate.__next__» ⟨[.ref e], []⟩) (fun fin s1 => ∃ v, fin = .done (.ret v) ∧ Q v s1) E s := by
  show wpAny _ _ (field (.ref e) 2 >>= _) _ _ s
  refine wpAny_bind (wpAny_field ee rfl (x := .ref it) rfl ?_)
  refine wpAny_bind (nx _ _ fun x h1 tk px e1 => ?_)
  show wpAny _ _ (field (.ref e) 3 >>= _) _ _ { s with heap := h1, toks := tk }
  refine wpAny_bind (wpAny_field (s := { s with heap := h1, toks := tk }) e1 rfl (x := rawInt i) rfl ?_)
  show wpAny _ _ (field (.ref e) 4 >>= _) _ _ { s with heap := h1, toks := tk }
  refine wpAny_bind (wpAny_field (s := { s with heap := h1, toks := tk }) e1 rfl (x := .none) rfl ?_)
  show wpAny _ _ (mkInt i >>= _) _ _ { s with heap := h1, toks := tk }
  refine wpAny_bind (wpAny_mkInt ?_)
  show wpAny _ _ (setField (.ref e) 3 (rawInt ((i : Int) + 1)) >>= _) _ _ { s with heap := h1, toks := tk + 1 }
  refine wpAny_bind (wpAny_setField_rec (s := { s with heap := h1, toks := tk + 1 }) e1 (by simp) fun h2 e2 sb2 => ?_)
  show wpAny _ _ (setField (.ref e) 4 .none >>= _) _ _ { s with heap := h2, toks := tk + 1 }
  refine wpAny_bind (wpAny_setField_rec (s := { s with heap := h2, toks := tk + 1 }) e2 (by simp) fun h3 e3 sb3 => ?_)
  show wpAny _ _ (newTuple [.int i tk, x] >>= _) _ _ { s with heap := h3, toks := tk + 1 }
  refine wpAny_bind (wpAny_newTuple ?_)
  have sz3 : h3.objs.size = h1.objs.size := by rw [sb3.1, sb2.1]
  have el : e < h1.objs.size := Heap.lt_size e1
  have e4 : IsEnum (h3.push { cls := .type "tuple", data := .seq #[.int i tk, x] }) e it ((i : Int) + 1) old := Heap.get?_push_of_some _ e3
  have t4 : (h3.push { cls := .type "tuple", data := .seq #[.int i tk, x] }).get? h1.objs.size = some { cls := .type "tuple", data := .seq #[.int i tk, x] } := by
    rw [← sz3]
    exact Heap.get?_push_size _ rfl
  have k4 : ∀ b o, b ≠ e → h1.get? b = some o → (h3.push { cls := .type "tuple", data := .seq #[.int i tk, x] }).get? b = some o := fun b o n q => Heap.get?_push_of_some _ (sb3.extBut _ _ n (sb2.extBut _ _ n q))
  have z4 : (h3.push { cls := .type "tuple", data := .seq #[.int i tk, x] }).objs.size = h1.objs.size + 1 := by rw [Heap.size_push, sz3]
  show wpAny _ _ (Builtin.SmallTypes.ownedTupleIsFree (.ref e) >>= _) _ _ ⟨h3.push { cls := .type "tuple", data := .seq #[.int i tk, x] }, s.gens, s.drawn, tk + 1, s.os⟩
  dsimp only
  rw [sz3]
  generalize h3.push { cls := .type "tuple", data := .seq #[.int i tk, x] } = h4 at e4 t4 k4 z4
  refine wpAny_bind ?_
  unfold Builtin.SmallTypes.ownedTupleIsFree
  refine wpAny_bind (wpAny_field (s := ⟨h4, s.gens, s.drawn, tk + 1, s.os⟩) e4 rfl (x := .none) rfl (wpAny_pure ?_))
  simp only [if_true]
  refine wpAny_bind (wpAny_rule ?_)
  refine wpAny_bind (wpAny_field (s := ⟨h4, s.gens, s.drawn, tk + 1, s.os⟩) e4 rfl (x := old) rfl ?_)
  refine wpAny_bind (wpAny_setField_rec (s := ⟨h4, s.gens, s.drawn, tk + 1, s.os⟩) e4 (by simp) fun h5 e5 sb5 => ?_)
  show wpAny _ _ (Builtin.SmallTypes.ownedTupleHandOut (.ref e) (.ref h1.objs.size) >>= _) _ _ ⟨h5, s.gens, s.drawn, tk + 1, s.os⟩
  refine wpAny_bind ?_
  unfold Builtin.SmallTypes.ownedTupleHandOut
  refine wpAny_bind (wpAny_setField_rec (s := ⟨h5, s.gens, s.drawn, tk + 1, s.os⟩) e5 (by simp) fun h6 e6 sb6 => ?_)
  refine wpAny_setField_rec (s := ⟨h6, s.gens, s.drawn, tk + 1, s.os⟩) e6 (by simp) fun h7 e7 sb7 => ?_
  have up : ∀ b o, b ≠ e → h4.get? b = some o → h7.get? b = some o := fun b o n q => sb7.extBut _ _ n (sb6.extBut _ _ n (sb5.extBut _ _ n q))
  exact wpAny_bind (wpAny_letGo (wpAny_pure ⟨_, rfl, hQ x h1 tk h7 px e7 (up _ _ (Nat.ne_of_gt el) t4) (by rw [sb7.1, sb6.1, sb5.1, z4]) fun b o n q => up b o n (k4 b o n q)⟩))
theorem next_of {e : Addr} {T id : String} {o : Obj} {f : Builtin} {Q : Value → Shared → Prop} (ho : s.heap.get? e = some o) (hc : o.cls = .type T) (sl : Slot T "__next__" id) (en : entryFor table id = some f) (ar : argsOk id ⟨[.ref e], []⟩)
    (hq : wpAny (model prog w) A.in1 (f ⟨[.ref e], []⟩) (fun fin s1 => ∃ v, fin = .done (.ret v) ∧ Q v s1) E s) : wpAny (model prog w) A (Builtin.SmallTypes.nextOf (.ref e)) Q E s := by
  have hT : s.TypeIs (.ref e) T := ⟨o, ho, hc⟩
  unfold Builtin.SmallTypes.nextOf
  refine wpAny_bind (wpAny_callSpecial?_slot (name := Str.ofString "__next__") hT sl (wpAny_call_entry sl hT en ?_ ar))
  exact wpAny_mono hq (fun fin s1 ⟨v, e1, q⟩ => ⟨v, e1, wpAny_pure q⟩) fun _ _ q => q
theorem py_next {e : Addr} {T id : String} {o : Obj} {f : Builtin} {Q : Option Value → Shared → Prop} (ho : s.heap.get? e = some o) (hc : o.cls = .type T) (sl : Slot T "__next__" id) (en : entryFor table id = some f) (ar : argsOk id ⟨[.ref e], []⟩)
    (hq : wpAny (model prog w) A.in1 (f ⟨[.ref e], []⟩) (fun fin s1 => ∃ v, fin = .done (.ret v) ∧ Q (some v) s1) (fun x s1 => (∃ e o, x = .ref e ∧ s1.heap.get? e = some o ∧ o.cls = .type "StopIteration") ∧ Q none s1) s) : wpAny (model prog w) A (pyNext (.ref e)) Q E s := by
  have hT : s.TypeIs (.ref e) T := ⟨o, ho, hc⟩
  unfold pyNext
  refine wpAny_bind (wpAny_attempt (wpAny_callSpecial?_slot (name := Str.ofString "__next__") hT sl (wpAny_call_entry sl hT en ?_ ar)))
  refine wpAny_mono hq (fun fin s1 ⟨v, e1, q⟩ => ⟨v, e1, wpAny_pure q⟩) fun x s1 ⟨⟨e, o, ex, ho, hc⟩, q⟩ => ?_
  subst ex
  refine wpAny_bind (wpAny_isInstance (T := "StopIteration") (b := true) ⟨o, ho, hc⟩ isSubtype_stop ?_)
  exact wpAny_pure q
theorem enum_stop {e it : Addr} {i : Int} {old : Value} {Q : Fin → Shared → Prop} (ee : IsEnum s.heap e it i old)
    (nx : ∀ (Q : Value → Shared → Prop), wpAny (model prog w) A (Builtin.SmallTypes.nextOf (.ref it)) Q E s) :
    wpAny (model prog w) A (Builtin.«enumerate.__next__» ⟨[.ref e], []⟩) Q E s := by
  show wpAny _ _ (field (.ref e) 2 >>= _) _ _ s
  refine wpAny_bind (wpAny_field ee rfl (x := .ref it) rfl ?_)
  exact wpAny_bind (nx _)
/-! enumerate(v) -/
structure Starts (v : Value) (H : Heap → Prop) (it : Heap → Addr) (nx : Heap → Heap) : Prop where
  iter : ∀ (prog : Program) (w : World) (A : Around) (E : Value → Shared → Prop) (s : Shared) (Q : Value → Shared → Prop), H s.heap → Q (.ref (it s.heap)) { s with heap := nx s.heap } → wpAny (model prog w) A (pyIter v) Q E s
  grow : ∀ h, H h → ∀ b o, h.get? b = some o → (nx h).get? b = some o
abbrev enumObj (it : Addr) : Obj := { cls := .type "enumerate", data := .fields #[.none, .bool false, .ref it, rawInt 0, .none, .none] }
theorem meets_enum {v : Value} {H : Heap → Prop} {it : Heap → Addr} {nx : Heap → Heap} (B : Starts v H it nx) :
    Meets (Builtin.«enumerate.__new__» ⟨[.type "enumerate", v], []⟩) (fun _ R s => H s.heap ∧ R (.ok (.ret (.ref (nx s.heap).objs.size))) { s with heap := (nx s.heap).push (enumObj (it s.heap)) }) :=
  .of_wp fun prog w A R s hr => by
    obtain ⟨hp, g, d, tk, os⟩ := s
    obtain ⟨h1, hr⟩ := hr
    have sub := sub_enumerate
    have q1 : ∀ {A1 : Around} {E : Value → Shared → Prop} {Q : Value → Shared → Prop}, Q (.ref (it hp)) ⟨nx hp, g, d, tk, os⟩ → wpAny (model prog w) A1 (pyIter v) Q E ⟨hp, g, d, tk, os⟩ :=
      fun q => B.iter prog w _ _ ⟨hp, g, d, tk, os⟩ _ h1 q
    wp_walk using q1
    refine wpAny_stack_any fun st => wpAny_pure ?_
    split
    · rename_i c _ _ _ _ _
      cases (c == Value.type "enumerate") <;> (wp_walk using q1; exact ⟨_, rfl, hr⟩)
    · wp_walk using q1
      exact ⟨_, rfl, hr⟩
theorem call_enum {v : Value} {H : Heap → Prop} {it : Heap → Addr} {nx : Heap → Heap} {Q : Value → Shared → Prop} (B : Starts v H it nx) (h1 : H s.heap)
    (hq : ∀ h2, IsEnum h2 (nx s.heap).objs.size (it s.heap) 0 .none → h2.objs.size = (nx s.heap).objs.size + 1 → (∀ b o, (nx s.heap).get? b = some o → h2.get? b = some o) → Q (.ref (nx s.heap).objs.size) { s with heap := h2 }) :
    wpAny (model prog w) A (call (.type "enumerate") [v]) Q E s := by
  refine callType_new F.called_enumerate (by decide) (F.typeCall_enumerate_1 _) (F.newCall_enumerate_1 _) (fun obj => F.args_object_init_2 obj _) F.entry_enumerate_new (meets_enum B) ⟨h1, ?_⟩
  have en : IsEnum ((nx s.heap).push (enumObj (it s.heap))) (nx s.heap).objs.size (it s.heap) 0 .none := Heap.get?_push_size _ rfl
  exact ⟨⟨_, en, rfl⟩, hq _ en (by rw [Heap.size_push]) fun b o q => Heap.get?_push_of_some _ q⟩
theorem starts_zip (z TI TO : Addr) (f0 : Value) : Starts (.ref z) (fun h => IsZip h z TI TO f0) (fun _ => z) id where
  iter := fun prog w A E s Q hz q => wpAny_pyIter_zip hz q
  grow := fun _ _ _ _ e => e
end
end PLZ
set_option Elab.async false
set_option linter.all false
set_option maxRecDepth 100000
set_option maxHeartbeats 4000000
namespace PLZ
open PySem PySem.Spec PyProof.Rows L2
/-- a tuple or a list, what is in it -/
abbrev Q3 := Addr × Bool × List V
def Sq (K : PySem.W.Frag) (H : Hp) (q : Q3) : Prop := if q.2.1 then SqT K H q.1 q.2.2 else SqL K H q.1 q.2.2
def Held (K : PySem.W.Frag) (H : Hp) (L : List Q3) : Prop := ∀ q ∈ L, Sq K H q
def vrow (L : List Q3) (j : Nat) : List V := L.map fun q => q.2.2.getD j .non
abbrev Ln := Src × List V
def q3 (p : Ln) : Q3 := (p.1.l, p.1.tp, p.2)
def IterAt (h : Heap) (c : Src) (j : Nat) : Prop := if c.tp then h.IsTupleIter c.it c.l j else h.IsListIter c.it c.l j
theorem IterAt.keep {h h' : Heap} {c : Src} {j : Nat} (a : IterAt h c j) (k : ∀ o, h.get? c.it = some o → h'.get? c.it = some o) : IterAt h' c j := by
  unfold IterAt at a ⊢
  split at a
  · rename_i q
    rw [if_pos q]
    exact a.at fun o e => k o e
  · rename_i q
    rw [if_neg q]
    exact a.at fun o e => k o e
theorem IterAt.obj {h : Heap} {c : Src} {j : Nat} (a : IterAt h c j) : ∃ o, h.get? c.it = some o ∧ ∃ vs, o.data = .fields vs := by
  unfold IterAt at a
  split at a
  · obtain ⟨o, ho, _, hd⟩ := a
    exact ⟨o, ho, _, hd⟩
  · obtain ⟨o, ho, _, hd⟩ := a
    exact ⟨o, ho, _, hd⟩
theorem At.iter {h : Heap} {c : Src} {xs : List Value} {j : Nat} (a : At h c xs j) : IterAt h c j := by
  unfold At at a
  unfold IterAt
  split at a
  · rename_i q
    rw [if_pos q]
    exact a.1
  · rename_i q
    rw [if_neg q]
    exact a.1
theorem Sq.at_ {X : Cx} {pins : List (Addr × Obj)} {σ : L2.St} {H : Hp} {s : Shared} (I : Inv X pins σ H s) {p : Ln} (h : Sq X.K H (q3 p)) {j : Nat} (a : IterAt s.heap p.1 j) : ∃ us : List Value, Vals p.2 us ∧ At s.heap p.1 us j := by
  unfold Sq q3 at h
  unfold IterAt at a
  dsimp only at h
  unfold At
  split at a
  · rename_i q
    rw [if_pos q] at h
    obtain ⟨its, rv, pl, _⟩ := I.tuple h
    exact ⟨its, rv, by rw [if_pos q]; exact ⟨a, pl⟩⟩
  · rename_i q
    rw [if_neg q] at h
    obtain ⟨its, rv, pl, _⟩ := I.list h
    exact ⟨its, rv, by rw [if_neg q]; exact ⟨a, pl.isList⟩⟩
theorem cols_of {X : Cx} {pins : List (Addr × Obj)} {σ : L2.St} {H : Hp} {s : Shared} (I : Inv X pins σ H s) {j n : Nat} : ∀ (L : List Ln), (∀ p ∈ L, Sq X.K H (q3 p)) → (∀ p ∈ L, IterAt s.heap p.1 j) → (∀ p ∈ L, p.2.length = n) →
    ∃ cs : List Col, cs.map (·.1) = L.map (·.1) ∧ (∀ p ∈ cs, At s.heap p.1 p.2 j) ∧ (∀ p ∈ cs, p.2.length = n) ∧ ∀ i, i < n → Vals (vrow (L.map q3) i) (row cs i)
  | [], _, _, _ => by
    refine ⟨[], rfl, ?_, ?_, fun _ _ => Paired.nil⟩ <;> intro p hp <;> cases hp
  | p :: L, h1, h2, h3 => by
    obtain ⟨cs, e, a, l, r⟩ := cols_of I L (fun p hp => h1 p (List.mem_cons_of_mem _ hp)) (fun p hp => h2 p (List.mem_cons_of_mem _ hp)) fun p hp => h3 p (List.mem_cons_of_mem _ hp)
    obtain ⟨us, rv, au⟩ := (h1 p (List.mem_cons_self ..)).at_ I (h2 p (List.mem_cons_self ..))
    have lu : us.length = n := by rw [← rv.length]; exact h3 p (List.mem_cons_self ..)
    refine ⟨(p.1, us) :: cs, by simp [e], fun q hq => ?_, fun q hq => ?_, fun i hi => ?_⟩
    · rcases List.mem_cons.mp hq with rfl | hq
      · exact au
      · exact a q hq
    · rcases List.mem_cons.mp hq with rfl | hq
      · exact lu
      · exact l q hq
    · refine .cons ?_ (r i hi)
      have hp : i < p.2.length := by rw [h3 p (List.mem_cons_self ..)]; exact hi
      obtain ⟨u, hu, ru⟩ := rv.get (i := i) (List.getElem?_eq_getElem hp)
      show RelV (p.2.getD i .non) (us.getD i .none)
      rw [List.getD_eq_getElem?_getD, List.getD_eq_getElem?_getD, hu, List.getElem?_eq_getElem hp]
      exact ru
/-! the zip's shape -/
def feetS (z TI TO : Addr) (ss : List Src) : List Addr := z :: TI :: TO :: ss.map (·.it)
theorem feet_eq {z TI TO : Addr} {cs : List Col} {ss : List Src} (e : cs.map (·.1) = ss) : feet z TI TO cs = feetS z TI TO ss := by
  subst e
  unfold feet feetS
  rw [List.map_map]
  rfl
structure ApartS (z TI TO : Addr) (ss : List Src) : Prop where
  nd : (feetS z TI TO ss).Nodup
  off : ∀ c ∈ ss, c.l ∉ feetS z TI TO ss
  few : ss.length ≤ 8
  non : ss ≠ []
theorem ApartS.to {z TI TO : Addr} {ss : List Src} {cs : List Col} (D : ApartS z TI TO ss) (e : cs.map (·.1) = ss) : Apart z TI TO cs where
  nd := by rw [feet_eq e]; exact D.nd
  off := fun p hp => by
    rw [feet_eq e]
    exact D.off _ (e ▸ List.mem_map_of_mem (f := fun q : Col => q.1) hp)
  few := by
    have := D.few
    rw [← e] at this
    simpa using this
  non := fun q => D.non (by rw [← e, q]; rfl)
structure ZipIt (h : Heap) (z TI TO : Addr) (ss : List Src) (j : Nat) : Prop where
  z : ∃ f0 f1, (f0 = .none ∨ ∃ T : Addr, f0 = rawInt T) ∧ ZipRec h z TI TO f0 f1
  ti : TupRec h TI (ss.map fun c => .ref c.it)
  to : ∃ ws, ws.length = ss.length ∧ TupRec h TO ws
  its : ∀ c ∈ ss, IterAt h c j
theorem ZipIt.up {h : Heap} {z TI TO : Addr} {ss : List Src} {cs : List Col} {j : Nat} (Z : ZipIt h z TI TO ss j) (e : cs.map (·.1) = ss) (a : ∀ p ∈ cs, At h p.1 p.2 j) : ZipAt h z TI TO cs j where
  z := Z.z
  ti := by
    have t := Z.ti
    rw [← e, List.map_map] at t
    exact t
  to := by
    obtain ⟨ws, l, t⟩ := Z.to
    exact ⟨ws, by rw [l, ← e]; simp, t⟩
  at_ := a
theorem ZipAt.down {h : Heap} {z TI TO : Addr} {ss : List Src} {cs : List Col} {j : Nat} (Z : ZipAt h z TI TO cs j) (e : cs.map (·.1) = ss) : ZipIt h z TI TO ss j where
  z := Z.z
  ti := by
    have t := Z.ti
    rw [← e, List.map_map]
    exact t
  to := by
    obtain ⟨ws, l, t⟩ := Z.to
    exact ⟨ws, by rw [l, ← e]; simp, t⟩
  its := fun c hc => by
    rw [← e] at hc
    obtain ⟨p, hp, rfl⟩ := List.mem_map.mp hc
    exact (Z.at_ p hp).iter
theorem ZipIt.keep {h h' : Heap} {z TI TO : Addr} {ss : List Src} {j : Nat} (Z : ZipIt h z TI TO ss j) (k : ∀ b ∈ feetS z TI TO ss, ∀ o, h.get? b = some o → h'.get? b = some o) : ZipIt h' z TI TO ss j where
  z := let ⟨f0, f1, a, b⟩ := Z.z; ⟨f0, f1, a, k z (by unfold feetS; simp) _ b⟩
  ti := k TI (by unfold feetS; simp) _ Z.ti
  to := let ⟨ws, l, t⟩ := Z.to; ⟨ws, l, k TO (by unfold feetS; simp) _ t⟩
  its := fun c hc => (Z.its c hc).keep fun o e => k c.it (by unfold feetS; simp only [List.mem_cons, List.mem_map]; exact .inr (.inr (.inr ⟨c, hc, rfl⟩))) o e
theorem ZipIt.obj {h : Heap} {z TI TO : Addr} {ss : List Src} {j : Nat} (Z : ZipIt h z TI TO ss j) : ∀ b ∈ feetS z TI TO ss, ∃ o, h.get? b = some o ∧ ∀ v, o.data ≠ .cell v := fun b hb => by
  unfold feetS at hb
  simp only [List.mem_cons, List.mem_map] at hb
  rcases hb with rfl | rfl | rfl | ⟨c, hc, rfl⟩
  · obtain ⟨f0, f1, _, e⟩ := Z.z
    exact ⟨_, e, fun v q => nomatch q⟩
  · exact ⟨_, Z.ti, fun v q => nomatch q⟩
  · obtain ⟨ws, _, e⟩ := Z.to
    exact ⟨_, e, fun v q => nomatch q⟩
  · obtain ⟨o, ho, vs, hd⟩ := (Z.its c hc).obj
    exact ⟨o, ho, fun v q => by rw [hd] at q; cases q⟩
/-! what draws -/
structure Drw (P : Program) (w : World) (K : PySem.W.Frag) (J : It) (fp : List Addr) (it : Addr) (tn : Nat → Heap → Prop) : Prop where
  mem : it ∈ fp
  obj : ∀ i h, tn i h → ∀ b ∈ fp, ∃ o, h.get? b = some o ∧ ∀ v, o.data ≠ .cell v
  keep : ∀ i h h', tn i h → (∀ b ∈ fp, ∀ o, h.get? b = some o → h'.get? b = some o) → tn i h'
  item : ∀ (X : Cx) (A : Around), X.prog = P → X.w = w → X.K = K → X.calm = true → ∀ (i : Nat) (pins : List (Addr × Obj)) (s : Shared) (σ : L2.St) (H : Hp) (Q : Value → Shared → Prop) (E : Value → Shared → Prop), Inv X pins σ H s → (∀ b ∈ fp, FpOk X pins H b) → tn i s.heap → J.go i H →
    (∀ x u H' h1 tk, Inv X pins σ H' { s with heap := h1, toks := tk } → RelV x u → J.yld i H x H' → tn (i + 1) h1 → (∀ b ∈ fp, H' b = none) → (∀ b o, b ∉ fp → s.heap.get? b = some o → h1.get? b = some o) → (∀ b, s.heap.objs.size > b → H' b = H b) → Q u { s with heap := h1, toks := tk }) →
    wpAny (model P w) A (Builtin.SmallTypes.nextOf (.ref it)) Q E s
  done : ∀ (X : Cx) (A : Around), X.prog = P → X.w = w → X.K = K → X.calm = true → A.handled = none → ∀ (i : Nat) (pins : List (Addr × Obj)) (s : Shared) (σ : L2.St) (H : Hp) (Q : Value → Shared → Prop) (E : Value → Shared → Prop), Inv X pins σ H s → (∀ b ∈ fp, FpOk X pins H b) → tn i s.heap → J.stop i H →
    (∀ h1 e, Inv X pins σ H { s with heap := h1 } → (∃ o, h1.get? e = some o ∧ o.cls = .type "StopIteration") → E (.ref e) { s with heap := h1 }) →
    wpAny (model P w) A (Builtin.SmallTypes.nextOf (.ref it)) Q E s
def ItZ (K : PySem.W.Frag) (L : List Q3) (n : Nat) : It := ⟨fun i H => i < n ∧ Held K H L, fun i H v H' => ∃ T, v = .ref T ∧ H T = none ∧ H' = upd H T (.tup (vrow L i)), fun i H => n ≤ i ∧ Held K H L⟩
theorem vals_row {X : Cx} {H : Hp} {h : Heap} {T : Addr} {xs : List V} {us : List Value} (rv : Vals xs us) (hl : xs.length ≤ 8) (t : TupRec h T us) : ObjOk X.prog X.w (upd H T (.tup xs)) h T (.tup xs) :=
  ⟨few_ok hl, us, rv, ⟨_, t, rfl, _, rfl⟩⟩
theorem drw_zip {P : Program} {w : World} {K : PySem.W.Frag} {z TI TO : Addr} {L : List Ln} {n : Nat} (D : ApartS z TI TO (L.map (·.1))) (hn : ∀ p ∈ L, p.2.length = n) :
    Drw P w K (ItZ K (L.map q3) n) (feetS z TI TO (L.map (·.1))) z (fun i h => ZipIt h z TI TO (L.map (·.1)) i) where
  mem := by unfold feetS; simp
  obj := fun i h Z => Z.obj
  keep := fun i h h' Z k => Z.keep k
  item := by
    intro X A hP hw hK hc i pins s σ H Q E I hf Z hg hQ
    subst hP hw hK
    obtain ⟨cs, ec, ac, lc, rc⟩ := cols_of I (j := i) L (fun p hp => hg.2 _ (List.mem_map_of_mem (f := q3) hp)) (fun p hp => Z.its _ (List.mem_map_of_mem (f := fun q : Ln => q.1) hp)) hn
    have D2 := D.to ec
    have Z2 := Z.up ec ac
    obtain ⟨f0, f1, _, ez⟩ := Z.z
    refine next_of ez rfl F.slot_zip_next F.entry_zip_next (F.args_zip_next_1 _) (zip_item D2 Z2 (fun p hp => by rw [lc p hp]; exact hg.1) fun h1 Z1 t1 s1 k1 => ?_)
    rw [feet_eq ec] at k1
    have hT := I.hok.fresh (Nat.le_refl s.heap.objs.size)
    have hl : (vrow (L.map q3) i).length ≤ 8 := by
      have := D.few
      simp [vrow] at this ⊢
      exact this
    have I1 : Inv X pins σ (upd H s.heap.objs.size (.tup (vrow (L.map q3) i))) { s with heap := h1, toks := s.toks } := I.turnedNew (ch := feetS z TI TO (L.map (·.1))) k1 hf (Nat.le_refl _) (vals_row (rc i hg.1) hl t1)
    refine hQ (.ref s.heap.objs.size) _ _ h1 s.toks I1 rfl ⟨_, rfl, hT, rfl⟩ (Z1.down ec) (fun b hb => ?_) k1 fun b hb => upd_ne (Nat.ne_of_lt hb)
    obtain ⟨o, ho, _⟩ := Z.obj b hb
    rw [upd_ne (Nat.ne_of_lt (Heap.lt_size ho))]
    exact (hf b hb).1
  done := by
    intro X A hP hw hK hc hh i pins s σ H Q E I hf Z hg hE
    subst hP hw hK
    obtain ⟨cs, ec, ac, lc, rc⟩ := cols_of I (j := i) L (fun p hp => hg.2 _ (List.mem_map_of_mem (f := q3) hp)) (fun p hp => Z.its _ (List.mem_map_of_mem (f := fun q : Ln => q.1) hp)) hn
    have D2 := D.to ec
    have Z2 := Z.up ec ac
    obtain ⟨f0, f1, _, ez⟩ := Z.z
    refine next_of ez rfl F.slot_zip_next F.entry_zip_next (F.args_zip_next_1 _) (zip_stop hh D2 Z2 (fun p hp => by rw [lc p hp]; exact hg.1) fun h1 e k1 ho => hE h1 e ?_ ho)
    rw [feet_eq ec] at k1
    exact I.turnedL (t' := s.toks) (ch := feetS z TI TO (L.map (·.1))) k1 hf
/-! enumerate over what draws -/
def ItE (J : It) : It := ⟨J.go, fun i H v H' => ∃ x H1 T, J.yld i H x H1 ∧ v = .ref T ∧ H1 T = none ∧ H' = upd H1 T (.tup [.int (i : Nat), x]), J.stop⟩
theorem turn_enum {P : Program} {w : World} {K : PySem.W.Frag} {J : It} {fp : List Addr} {e it : Addr} {tn : Nat → Heap → Prop} {elts : List Expr} {kk : Nat} {tpos : Pos} (B : Drw P w K J fp it tn) (hef : e ∉ fp) :
    Turn P w K (.Tuple elts kk tpos) (ItE J) (e :: fp) e (fun i h => (∃ old, IsEnum h e it ((i : Nat) : Int) old) ∧ tn i h) where
  mem := List.mem_cons_self ..
  obj := fun i h ⟨⟨old, ee⟩, st⟩ b hb => by
    rcases List.mem_cons.mp hb with rfl | hb
    · exact ⟨_, ee, fun v q => nomatch q⟩
    · exact B.obj i h st b hb
  keep := fun i h h' ⟨⟨old, ee⟩, st⟩ k => ⟨⟨old, k e (List.mem_cons_self ..) _ ee⟩, B.keep i h h' st fun b hb => k b (List.mem_cons_of_mem _ hb)⟩
  item := by
    intro X hP hw hK hc i pins s σ H E I hf st hg
    obtain ⟨⟨old, ee⟩, st⟩ := st
    refine py_next ee rfl F.slot_enumerate_next F.entry_enumerate_next (F.args_enumerate_next_1 _) ?_
    have hfe := hf e (List.mem_cons_self ..)
    have hff : ∀ b ∈ fp, FpOk X pins H b := fun b hb => hf b (List.mem_cons_of_mem _ hb)
    have el : e < s.heap.objs.size := Heap.lt_size ee
    refine enum_item ee (P := fun u h1 => ∃ x H' tk, Inv X pins σ H' { s with heap := h1, toks := tk } ∧ RelV x u ∧ J.yld i H x H' ∧ tn (i + 1) h1 ∧ (∀ b ∈ fp, H' b = none) ∧ H' e = none ∧ IsEnum h1 e it ((i : Nat) : Int) old) (fun Q E1 hq => ?_) ?_
    · refine B.item X _ hP hw hK hc i pins s σ H Q E1 I hff st hg fun x u H' h1 tk I1 r y t f k o => hq u h1 tk ⟨x, H', tk, I1, r, y, t, f, ?_, k _ _ hef ee⟩ (k _ _ hef ee)
      rw [o e el]
      exact hfe.1
    · rintro u h1 tk h2 ⟨x, H', tk', I1, r, y, t, f, oe, ee1⟩ eo tt sz k
      subst hP hw hK
      refine ⟨_, rfl, wpAny_letOwnedTupleGo_enum (s := { s with heap := h2, toks := tk + 1 }) eo fun h3 e3 sb => ?_⟩
      have el1 : e < h1.objs.size := Heap.lt_size ee1
      have t3 : h3.get? h1.objs.size = some { cls := .type "tuple", data := .seq #[.int i tk, u] } := (sb.2 _ (Nat.ne_of_gt el1)).trans tt
      have k3 : ∀ b o, b ≠ e → h1.get? b = some o → h3.get? b = some o := fun b o n q => sb.extBut _ _ n (k b o n q)
      have nw : ObjOk X.prog X.w (upd H' h1.objs.size (.tup [.int (i : Nat), x])) h3 h1.objs.size (.tup [.int (i : Nat), x]) := ⟨few_ok (by simp), [.int i tk, u], .cons ⟨_, rfl⟩ (.cons r .nil), ⟨_, t3, rfl, _, rfl⟩⟩
      have I0 : Inv X pins σ H' { s with heap := h1, toks := tk } := I1.kept (t' := tk) fun _ _ q => q
      have I2 : Inv X pins σ (upd H' h1.objs.size (.tup [.int (i : Nat), x])) { s with heap := h3, toks := tk + 1 } :=
        I0.turnedNew (ch := [e]) (fun b o hb q => k3 b o (fun c => hb (List.mem_singleton.mpr c)) q) (fun b hb => by rw [List.mem_singleton.mp hb]; exact ⟨oe, hfe.2⟩) (Nat.le_refl _) nw
      refine ⟨.ref h1.objs.size, _, I2, rfl, ⟨x, H', _, y, rfl, I1.hok.fresh (Nat.le_refl _), rfl⟩, ⟨⟨u, ?_⟩, B.keep (i + 1) h1 h3 t fun b hb o q => k3 b o (fun c => hef (c ▸ hb)) q⟩, fun b hb => ?_⟩
      · have ei : ((i + 1 : Nat) : Int) = (i : Int) + 1 := by omega
        rw [ei]
        exact e3
      · rcases List.mem_cons.mp hb with rfl | hb
        · rw [upd_ne (Nat.ne_of_lt el1)]
          exact oe
        · obtain ⟨o, ho, _⟩ := B.obj (i + 1) h1 t b hb
          rw [upd_ne (Nat.ne_of_lt (Heap.lt_size ho))]
          exact f b hb
  done := by
    intro X hP hw hK hc i pins s σ H E I hf st hg
    obtain ⟨⟨old, ee⟩, st⟩ := st
    refine py_next ee rfl F.slot_enumerate_next F.entry_enumerate_next (F.args_enumerate_next_1 _) ?_
    refine enum_stop ee fun Q => B.done X X.A.in1 hP hw hK hc (show X.A.in1.handled = none from I.ok.hd hc) i pins s σ H Q _ I (fun b hb => hf b (List.mem_cons_of_mem _ hb)) st hg fun h1 x I1 ⟨o, ho, hcl⟩ => ⟨⟨x, o, rfl, ho, hcl⟩, rfl, I1⟩
  self := fun A i s Q E st h => let ⟨⟨_, ee⟩, _⟩ := st; wpAny_pyIter_enum ee h
end PLZ
set_option Elab.async false
set_option linter.all false
set_option maxRecDepth 100000
set_option maxHeartbeats 4000000
namespace PLZ
open PySem PySem.Spec PyProof.Rows L2
theorem Begins.of {X : Cx} {pins : List (Addr × Obj)} {σ : L2.St} {H : Hp} {s : Shared} (I : Inv X pins σ H s) {q : Q3} (h : Sq X.K H q) : ∃ (o : Obj) (G : Heap → Prop), Begins (.ref q.1) o G ∧ G s.heap ∧ q.1 < s.heap.objs.size ∧ ∀ (h1 : Heap) (a : Addr), h1.get? a = some o → IterAt h1 ⟨a, q.1, q.2.1⟩ 0 := by
  unfold Sq at h
  split at h
  · rename_i t
    obtain ⟨its, rv, p, _⟩ := I.tuple h
    obtain ⟨o, ho, _⟩ := id p
    refine ⟨_, _, begins_tuple q.1 its.toArray, show s.heap.IsTuple q.1 its.toArray from p, Heap.lt_size ho, fun h1 a e => ?_⟩
    unfold IterAt
    rw [if_pos t]
    exact ⟨_, e, rfl, rfl⟩
  · rename_i t
    obtain ⟨its, rv, p, _⟩ := I.list h
    obtain ⟨o, n, ho, _⟩ := id p
    refine ⟨_, _, begins_list q.1 its.toArray, p.isList, Heap.lt_size ho, fun h1 a e => ?_⟩
    unfold IterAt
    rw [if_neg t]
    exact ⟨_, e, rfl, rfl⟩
/-- what a zip's call leads to -/
def ZipPost (X : Cx) (pins : List (Addr × Obj)) (σ : L2.St) (R : List Q3 → Hp → Prop) (v : Value) (s1 : Shared) : Prop :=
  ∃ z TI TO L H1, v = .ref z ∧ Inv X pins σ H1 s1 ∧ IsZip s1.heap z TI TO .none ∧ ZipIt s1.heap z TI TO (L.map (·.1)) 0 ∧ ApartS z TI TO ((L : List Ln).map (·.1)) ∧ (∀ b ∈ feetS z TI TO (L.map (·.1)), FpOk X pins H1 b) ∧ R (L.map q3) H1
abbrev TZ := L2.St → Hp → (List Q3 → Hp → Prop) → Prop
structure PZ (X : Cx) (e : Expr) (t : TZ) : Prop where
  run : ∀ (pins : List (Addr × Obj)) (s : Shared) (σ : L2.St) (H : Hp) (R : List Q3 → Hp → Prop), Inv X pins σ H s → t σ H R → wpAny (model X.prog X.w) X.A (eval e X.env) (ZipPost X pins σ R) X.xe s
def tZip2 (K : PySem.W.Frag) (ta : TA) : TZ := fun σ H R => ta σ H fun vs H1 => ∃ q1 q2 : Q3, vs = [.ref q1.1, .ref q2.1] ∧ Held K H1 [q1, q2] ∧ R [q1, q2] H1
theorem nd5 (n : Nat) : [n + 4, n + 2, n + 3, n, n + 1].Nodup := by
  simp only [List.nodup_cons, List.mem_cons, List.not_mem_nil, or_false, not_or, List.nodup_nil, not_false_eq_true, and_true]
  omega
theorem pz_zip2 {X : Cx} {e e2 : Expr} {ta : TA} {p pos : Pos} (hm : X.mg "zip" = none) (ha : PA X [e, e2] ta) (hg : Gl X "zip" := by rfl)
    (hs : starEach [e, e2] X.env = (false, eval e X.env) :: starEach [e2] X.env := by rfl) (hpl : (backTo pos (starEach [e2] X.env)).any (·.1) = false := by rfl) :
    PZ X (.Call (.Name "zip" p) [e, e2] [] pos) (tZip2 X.K ta) := by
  refine ⟨fun pins s σ H R I h => ?_⟩
  refine Call_ (ld_blt I hg hm PyProof.Rows.boot_zip (PyProof.Rows.callWith_type1 (thn (ha.run pos pins s σ H _ I h) fun us s1 ⟨vs, H1, I1, r1, q1, q2, ex, hL, hR⟩ => ?_) hs hpl))
  subst ex
  cases r1 with
  | cons x1 r1 =>
   cases r1 with
   | cons x2 r1 =>
    cases r1
    cases x1
    cases x2
    obtain ⟨o1, G1, B1, g1, l1, i1⟩ := Begins.of I1 (hL q1 (by simp))
    obtain ⟨o2, G2, B2, g2, l2, i2⟩ := Begins.of I1 (hL q2 (by simp))
    refine zip_begins2 B1 B2 g1 g2 fun h1 ez eTI eTO e1 e2 sz k => ?_
    have I2 : Inv X pins σ H1 { s1 with heap := h1 } := I1.kept (t' := s1.toks) k
    have big : ∀ b ∈ feetS (s1.heap.objs.size + 4) (s1.heap.objs.size + 2) (s1.heap.objs.size + 3) [⟨s1.heap.objs.size, q1.1, q1.2.1⟩, ⟨s1.heap.objs.size + 1, q2.1, q2.2.1⟩], s1.heap.objs.size ≤ b := fun b hb => by
      simp only [feetS, List.map_cons, List.map_nil, List.mem_cons, List.not_mem_nil, or_false] at hb
      rcases hb with rfl | rfl | rfl | rfl | rfl <;> omega
    refine ⟨_, _, _, [(⟨s1.heap.objs.size, q1.1, q1.2.1⟩, q1.2.2), (⟨s1.heap.objs.size + 1, q2.1, q2.2.1⟩, q2.2.2)], H1, rfl, I2, ez, ⟨⟨_, _, .inl rfl, ez⟩, eTI, ⟨[.none, .none], rfl, eTO⟩, fun c hc => ?_⟩, ⟨?_, fun c hc hb => ?_, by simp, by simp⟩, fun b hb => I1.fpOk (big b hb) (I1.hok.fresh (big b hb)), hR⟩
    · simp only [List.map_cons, List.map_nil, List.mem_cons, List.not_mem_nil, or_false] at hc
      rcases hc with rfl | rfl
      · exact i1 _ _ e1
      · exact i2 _ _ e2
    · exact nd5 _
    · have := big _ hb
      simp only [List.map_cons, List.map_nil, List.mem_cons, List.not_mem_nil, or_false] at hc
      rcases hc with rfl | rfl
      · exact absurd l1 (Nat.not_lt.mpr this)
      · exact absurd l2 (Nat.not_lt.mpr this)
/-- a loop over enumerate of a zip -/
def iEZ (K : PySem.W.Frag) (tz : TZ) : TI := fun σ H R => tz σ H fun L H1 => ∃ n, (∀ q ∈ L, q.2.2.length = n) ∧ R (ItE (ItZ K L n)) H1
theorem pi_enumz {X : Cx} {e : Expr} {tz : TZ} {elts : List Expr} {kk : Nat} {tpos p pos : Pos} (hm : X.mg "enumerate" = none) (he : PZ X e tz) (hg : Gl X "enumerate" := by rfl) (hs : starEach [e] X.env = [(false, eval e X.env)] := by rfl) :
    PI X (.Tuple elts kk tpos) (.Call (.Name "enumerate" p) [e] [] pos) (iEZ X.K tz) := by
  refine ⟨fun pins s σ H R I h => ?_⟩
  refine Call_ (ld_blt I hg hm boot_enumerate (PyProof.Rows.callWith_type1 (Q := _) ?_ hs rfl))
  rw [hs]
  refine Calls.spliced_cons (thn (he.run pins s σ H _ I h) ?_)
  rintro v s1 ⟨z, TI, TO, L, H1, rfl, I1, ez, Z, D, f, n, hn, hR⟩
  refine Calls.spliced_nil ?_
  refine call_enum (starts_zip z TI TO .none) ez fun h2 ee sz k => wpAny_pyIter_enum ee ?_
  have I2 : Inv X pins σ H1 { s1 with heap := h2 } := I1.kept (t' := s1.toks) k
  have old : ∀ b ∈ feetS z TI TO (L.map (·.1)), b < s1.heap.objs.size := fun b hb => by
    obtain ⟨o, ho, _⟩ := Z.obj b hb
    exact Heap.lt_size ho
  refine ⟨s1.heap.objs.size, s1.heap.objs.size :: feetS z TI TO (L.map (·.1)), _, _, H1, rfl, I2, turn_enum (drw_zip D fun p hp => hn _ (List.mem_map_of_mem (f := q3) hp)) (fun q => Nat.lt_irrefl _ (old _ q)), ⟨⟨.none, ee⟩, Z.keep fun b _ o q => k b o q⟩, fun b hb => ?_, hR⟩
  rcases List.mem_cons.mp hb with rfl | hb
  · exact I1.fpOk (Nat.le_refl _) (I1.hok.fresh (Nat.le_refl _))
  · exact f b hb
end PLZ
set_option Elab.async false
set_option linter.all false
set_option maxRecDepth 100000
set_option maxHeartbeats 4000000
namespace PL
open PySem PySem.Spec PyProof.Rows L2 PLZ
/-! ### zip, enumerate -/
def itemsA : D → Option (List D) | .tup ds => some ds | .lst ds => some ds | .scr ns => some (ns.map .int) | _ => none
theorem Rp.seq {K : PySem.W.Frag} {ca : Str → Option Addr} {F : Hp} {v : V} {d : D} {ds : List D} (h : Rp K ca F v d) (e : itemsA d = some ds) : ∃ q : Q3, v = .ref q.1 ∧ Sq K F q ∧ RpA K ca F q.2.2 ds := by
  cases h <;> simp only [itemsA, reduceCtorEq, Option.some.injEq] at e
  · rename_i h r
    subst e
    exact ⟨(_, true, _), rfl, by unfold Sq; exact h, r⟩
  · rename_i h r
    subst e
    exact ⟨(_, false, _), rfl, by unfold Sq; exact SqL.of h, r⟩
  · rename_i h
    subst e
    exact ⟨(_, false, _), rfl, by unfold Sq; exact h, RpA.ofInts _⟩
theorem Sq.ex {K : PySem.W.Frag} {H H' : Hp} {q : Q3} (e : Ex H H') (h : Sq K H q) : Sq K H' q := by
  unfold Sq at h ⊢
  split at h
  · rename_i t
    rw [if_pos t]
    exact ex_t e h
  · rename_i t
    rw [if_neg t]
    exact ex_l e h
section
variable {X : Cx} {z : Z} {O OI OM OO OL : List Nat} {EX : EXT} {a b c e : Expr} {es : List Expr} {f g h : FE} {fs gs : FS} {pos : Pos} {st : Stmt} {sts : List Stmt}
/-- columns -/
inductive Cols (K : PySem.W.Frag) (ca : Str → Option Addr) (F : Hp) (n : Nat) : List Q3 → List (List D) → Prop
  | nil : Cols K ca F n [] []
  | cons {q : Q3} {L : List Q3} {ds : List D} {dss : List (List D)} : Sq K F q → RpA K ca F q.2.2 ds → ds.length = n → Cols K ca F n L dss → Cols K ca F n (q :: L) (ds :: dss)
theorem Cols.held {K : PySem.W.Frag} {ca : Str → Option Addr} {F H : Hp} {n : Nat} (e : Ex F H) : ∀ {L : List Q3} {dss : List (List D)}, Cols K ca F n L dss → Held K H L
  | _, _, .nil => fun q hq => nomatch hq
  | _, _, .cons h r _ t => fun q hq => by
    rcases List.mem_cons.mp hq with rfl | hq
    · exact Sq.ex e h
    · exact Cols.held e t q hq
theorem Cols.len {K : PySem.W.Frag} {ca : Str → Option Addr} {F : Hp} {n : Nat} : ∀ {L : List Q3} {dss : List (List D)}, Cols K ca F n L dss → ∀ q ∈ L, q.2.2.length = n
  | _, _, .nil => fun q hq => nomatch hq
  | _, _, .cons h r l t => fun q hq => by
    rcases List.mem_cons.mp hq with rfl | hq
    · rw [r.length, l]
    · exact Cols.len t q hq
theorem Cols.row {K : PySem.W.Frag} {ca : Str → Option Addr} {F : Hp} {n i : Nat} (hi : i < n) : ∀ {L : List Q3} {dss : List (List D)}, Cols K ca F n L dss → RpA K ca F (vrow L i) (dss.map fun c => c.getD i .non)
  | _, _, .nil => .nil
  | _, _, .cons (q := q) (ds := ds) h r l t => by
    refine .cons ?_ (Cols.row hi t)
    have hd : ds[i]? = some ds[i] := List.getElem?_eq_getElem (by omega)
    obtain ⟨v, hv, rv⟩ := r.get hd
    show Rp K ca F (q.2.2.getD i .non) (ds.getD i .non)
    rw [List.getD_eq_getElem?_getD, List.getD_eq_getElem?_getD, hv, hd]
    exact rv
def rows (dss : List (List D)) (n : Nat) : List D := (List.range n).map fun i => D.tup (dss.map fun c => c.getD i .non)
theorem items_zip {F : Hp} {n : Nat} {L : List Q3} {dss : List (List D)} (C : Cols z.K z.ca F n L dss) : Items z (ItZ z.K L n) F (rows dss n) where
  go := fun i B P H e hi => ⟨by simpa [rows] using hi, C.held (e.trans (frz_ex _ _))⟩
  stop := fun B P H e => ⟨by simp [rows], C.held (e.trans (frz_ex _ _))⟩
  yld := fun i B P H x H' d e nw y h => by
    obtain ⟨T, rfl, hT, rfl⟩ := y
    unfold rows at h
    rw [List.getElem?_map] at h
    cases q : (List.range n)[i]? with
    | none => rw [q] at h; cases h
    | some k =>
      rw [q] at h
      cases h
      obtain ⟨hl, q⟩ := List.getElem?_eq_some_iff.mp q
      rw [List.getElem_range] at q
      subst q
      have hi : i < n := by simpa using hl
      have ex : Ex H (upd H T (.tup (vrow L i))) := Ex.new hT
      refine ⟨ex, .tup (.inl (.inl (frz_of upd_same (nw T hT)))) ((C.row hi).mono (e.trans ?_))⟩
      exact frz_mono fun a o _ ha => ex a o ha
def enD (ds : List D) : List D := ds.mapIdx fun i d => D.tup [.int (i : Nat), d]
theorem items_enum {F : Hp} {J : It} {ds : List D} (I : Items z J F ds) : Items z (ItE J) F (enD ds) where
  go := fun i B P H e hi => I.go i B P H e (by simpa [enD] using hi)
  stop := fun B P H e => by
    have := I.stop B P H e
    show J.stop (enD ds).length H
    unfold enD
    rw [List.length_mapIdx]
    exact this
  yld := fun i B P H x H' d e nw y h => by
    obtain ⟨x1, H1, T, y1, rfl, hT, rfl⟩ := y
    unfold enD at h
    rw [List.getElem?_mapIdx] at h
    cases q : ds[i]? with
    | none => rw [q] at h; cases h
    | some d1 =>
      rw [q] at h
      cases h
      obtain ⟨ex1, r1⟩ := I.yld i B P H x1 H1 d1 e nw y1 q
      have ex2 : Ex H1 (upd H1 T (.tup [.int (i : Nat), x1])) := Ex.new hT
      have nT : T ∉ z.L B P := nw T (by
        cases w : H T with
        | none => rfl
        | some o => rw [ex1 T o w] at hT; cases hT)
      refine ⟨ex1.trans ex2, .tup (.inl (.inl (frz_of upd_same nT))) (.cons (.int _) (.cons (r1.mono ?_) .nil))⟩
      exact frz_mono fun a o _ ha => ex2 a o ha
/-- the columns of two, of three -/
def zip2D : List D → Option (List D)
  | [a, b] => itemsA a >>= fun xs => itemsA b >>= fun ys => if ys.length = xs.length then some (rows [xs, ys] xs.length) else none
  | _ => none
def EvZ (z : Z) (O : List Nat) (EX : EXT) (tz : TZ) (f : FA) : Prop :=
  ∀ B P σ H ρ S R, P.map (·.1) = O → Rel z B P σ H ρ S →
    Sat (f ρ S) (fun r => ∀ L H1 n, Grow z H H1 → Rel z B P σ H1 ρ r.2 → (∀ q ∈ L, q.2.2.length = n) → Items z (ItZ z.K L n) (Frz H1 (z.L B P)) r.1 → R L H1) EX → tz σ H R
structure PZd (X : Cx) (z : Z) (O : List Nat) (EX : EXT) (e : Expr) (f : FA) : Prop where
  ex : ∃ t, PZ X e t ∧ EvZ z O EX t f
theorem pzd_zip2 (hK : X.K = z.K) {p : Pos} {fa : FA} (hm : X.mg "zip" = none) (ha : PAd X z O EX [a, b] fa) (hg : Gl X "zip" := by rfl)
    (hs : starEach [a, b] X.env = (false, eval a X.env) :: starEach [b] X.env := by rfl) (hpl : (backTo pos (starEach [b] X.env)).any (·.1) = false := by rfl) : PZd X z O EX (.Call (.Name "zip" p) [a, b] [] pos) (rngI zip2D fa) := by
  obtain ⟨t, pt, q⟩ := ha.ex
  refine ⟨_, pz_zip2 hm pt hg hs hpl, fun B P σ H ρ S R hP rr hs => ?_⟩
  refine q B P σ H ρ S _ hP rr ((sat_bind.mp hs).imp fun x hx vs H1 g1 r1 hv => ?_)
  obtain ⟨ds, hd, hq⟩ := sat_of (sat_bind.mp hx)
  obtain ⟨xs, S1⟩ := x
  dsimp only at hd hv
  unfold zip2D at hd
  split at hd
  · rename_i a1 b1
    simp only [Option.bind_eq_bind, Option.bind_eq_some_iff] at hd
    obtain ⟨xs, ex, ys, ey, hd⟩ := hd
    split at hd
    · rename_i w
      cases hd
      cases hv with
      | cons h1 r =>
        cases r with
        | cons h2 r =>
          cases r
          obtain ⟨q1, rfl, s1, c1⟩ := h1.seq ex
          obtain ⟨q2, rfl, s2, c2⟩ := h2.seq ey
          have C : Cols z.K z.ca (Frz H1 (z.L B P)) xs.length [q1, q2] [xs, ys] := .cons s1 c1 rfl (.cons s2 c2 w .nil)
          rw [hK]
          exact ⟨q1, q2, rfl, C.held (frz_ex _ _), hq _ H1 _ g1 r1 C.len (items_zip C)⟩
    · cases hd
  · cases hd
def enI (fa : FA) : FA := fun ρ S => fa ρ S >>= fun x => R.ok (enD x.1, x.2)
theorem pid_enumz (hK : X.K = z.K) {elts : List Expr} {kk : Nat} {tpos p : Pos} {fa : FA} (hm : X.mg "enumerate" = none) (hz : PZd X z O EX e fa) (hg : Gl X "enumerate" := by rfl) (hs : starEach [e] X.env = [(false, eval e X.env)] := by rfl) :
    PId X z O EX (.Tuple elts kk tpos) (.Call (.Name "enumerate" p) [e] [] pos) (enI fa) := by
  obtain ⟨t, pt, q⟩ := hz.ex
  refine ⟨_, pi_enumz hm pt hg hs, fun B P σ H ρ S R hP rr hs => ?_⟩
  refine q B P σ H ρ S _ hP rr ((sat_bind.mp hs).imp fun x hx L H1 n g1 r1 hl it => ?_)
  rw [hK]
  exact ⟨n, hl, hx _ H1 g1 r1 (items_enum it)⟩
end
end PL
set_option Elab.async false
set_option linter.all false
set_option maxRecDepth 100000
set_option maxHeartbeats 4000000
namespace PL
open PySem PySem.Spec PyProof.Rows L2 ClX
/-! ### isinstance of the usual types, of own classes -/
def known : List String := ["NoneType", "bool", "int", "str", "tuple", "list", "dict"]
def tyB (t T : String) : Bool := t == T || (t == "bool" && T == "int")
def tyK (T : String) : String → Option Bool := fun t => if t ∈ known then some (tyB t T) else none
theorem kit_known (K : PySem.W.Frag) : ∀ T ∈ ["bool", "int", "str", "tuple", "list", "dict"], ∀ t ∈ known, PySem.W.kitOne K (.type t) (.type T) = some (tyB t T) := by
  intro T hT t ht
  simp only [known, List.mem_cons, List.not_mem_nil, or_false] at hT ht
  rcases hT with rfl | rfl | rfl | rfl | rfl | rfl <;> rcases ht with rfl | rfl | rfl | rfl | rfl | rfl | rfl <;> kernel_rfl
/-- an own class, as isinstance sees it -/
structure OwnC (K : PySem.W.Frag) (C : Addr) : Prop where
  ik : InsK K C
  bt : ∀ T ∈ ["bool", "int", "str", "tuple", "list", "dict"], PySem.W.kitOne K (.ref C) (.type T) = some false
  me : ((PySem.W.clsIn K C).isSome && PySem.W.typeIn K (.ref C) == some (.type "type")) = true
/-- the own classes there are, one of them -/
def inst0 (cs : List Str) : Str → Option Bool := fun c => if c ∈ cs then some false else none
section
variable {X : Cx} {z : Z} {O OI OM OO OL : List Nat} {EX : EXT} {a b c e : Expr} {es : List Expr} {f g h : FE} {fs gs : FS} {pos p p2 : Pos}
theorem pd_isB (T : String) (hT : T ∈ ["bool", "int", "str", "tuple", "list", "dict"]) (cs : List Str) (hcs : ∀ c ∈ cs, ∃ C, z.ca c = some C ∧ OwnC z.K C) (hK : X.K = z.K) (hm : X.mg "isinstance" = none) {x : Str} (hmT : X.mg x = none) (hbt : bootBuiltins x = some (.type T)) (ha : PB X z O EX e f)
    (hn : x ≠ "__name__" := by decide) (hd : (x == ("__debug__" : Str)) = false := by decide) (hg : Gl X "isinstance" := by rfl) (hgT : Gl X x := by rfl)
    (he : starEach [e, .Name x p2] X.env = (false, eval e X.env) :: starEach [.Name x p2] X.env := by rfl) (he2 : starEach [.Name x p2] X.env = (false, eval (.Name x p2) X.env) :: starEach [] X.env := by rfl) (hpl : (backTo pos (starEach [.Name x p2] X.env)).any (·.1) = false := by rfl) :
    PD X z O EX (.Call (.Name "isinstance" p) [e, .Name x p2] [] pos) (un1 (isiD (tyK T) (inst0 cs)) f) := by
  refine pd_isi hK hm (pe_bltn hgT hmT hbt (v := .ty T) rfl hn hd) (.ty T) (fun t k h => ?_) (fun c k h => ?_) ha hg he he2 hpl
  · unfold tyK at h
    split at h
    · rename_i w
      rw [kit_known z.K T hT t w]
      exact h
    · cases h
  · unfold inst0 at h
    split at h
    · rename_i w
      cases h
      obtain ⟨C, e, o⟩ := hcs c w
      exact ⟨C, e, o.ik, o.bt T hT⟩
    · cases h
/-- a class's value, read off the class -/
theorem pd_cval {me fn : Str} {C : Addr} {mc u : Value} {v : V} {d : D} (hm : X.mg me = some (.ref C)) (r : CRead X.K C mc) (k : CVal X.K C mc fn v u) (hv : ∀ F, Rp z.K z.ca F v d) (hg : Gl X me := by rfl) (hdb : (me == ("__debug__" : Str)) = false := by decide)
    (hb : attributeBase (.Name me p) fn X.env (eval (.Name me p) X.env) = eval (.Name me p) X.env := by rfl) : PD X z O EX (.Attribute (.Name me p) fn pos) (fun _ S => R.ok (d, S)) :=
  ⟨_, pe_cval (pe_glob hg hm (v := .ref C) rfl hdb) hb, fun B P σ H ρ S Q hP rr hs => ⟨C, mc, v, u, rfl, r, k, hs v H Grow.refl rr (hv _)⟩⟩
end
end PL
set_option Elab.async false
set_option linter.all false
set_option maxRecDepth 100000
set_option maxHeartbeats 4000000
/-! What is wanted of a result, form by form: simp walks a def's function from its head on. -/
namespace PL
open PySem PySem.Spec PyProof.Rows L2 ClX
@[simp ↓] theorem wp_bind {α β : Type} {x : R α} {f : α → R β} {Q : β → Prop} {EX : EXT} : Sat (x >>= f) Q EX ↔ Sat x (fun a => Sat (f a) Q EX) EX := sat_bind
@[simp ↓] theorem wp_ok {α : Type} {a : α} {Q : α → Prop} {EX : EXT} : Sat (R.ok a) Q EX ↔ Q a := Iff.rfl
@[simp ↓] theorem wp_bad {α : Type} {Q : α → Prop} {EX : EXT} : Sat (R.bad : R α) Q EX ↔ False := Iff.rfl
@[simp ↓] theorem wp_some {α : Type} {a : α} {Q : α → Prop} {EX : EXT} : Sat (R.of (some a)) Q EX ↔ Q a := Iff.rfl
@[simp ↓] theorem wp_none {α : Type} {Q : α → Prop} {EX : EXT} : Sat (R.of (none : Option α)) Q EX ↔ False := Iff.rfl
@[simp ↓] theorem wp_if {α : Type} {c : Prop} [Decidable c] {a b : R α} {Q : α → Prop} {EX : EXT} : Sat (if c then a else b) Q EX ↔ if c then Sat a Q EX else Sat b Q EX := by split <;> exact Iff.rfl
@[simp ↓] theorem wp_ofif {α : Type} {c : Prop} [Decidable c] {a b : Option α} {Q : α → Prop} {EX : EXT} : Sat (R.of (if c then a else b)) Q EX ↔ if c then Sat (R.of a) Q EX else Sat (R.of b) Q EX := by split <;> exact Iff.rfl
@[simp ↓] theorem wp_noX {α : Type} {r : R α} {Q : α → Prop} {EX : EXT} : Sat (noX r) Q EX ↔ Sat r Q EX0 := by cases r <;> exact Iff.rfl
@[simp ↓] theorem wp_lk0 {d : D} {ρ : Env} {Q : D → Prop} {EX : EXT} : Sat (lk (some d :: ρ) 0) Q EX ↔ Q d := Iff.rfl
@[simp ↓] theorem wp_lkS {d : Option D} {ρ : Env} {i : Nat} {Q : D → Prop} {EX : EXT} : Sat (lk (d :: ρ) (i + 1)) Q EX ↔ Sat (lk ρ i) Q EX := Iff.rfl
@[simp ↓] theorem wp_set0 {d : D} {o : Option D} {ρ : Env} {Q : Env → Prop} {EX : EXT} : Sat (setE (o :: ρ) 0 d) Q EX ↔ Q (some d :: ρ) := by
  unfold setE
  rw [if_pos (show 0 < (o :: ρ).length from Nat.succ_pos _)]
  exact Iff.rfl
@[simp ↓] theorem wp_setS {d : D} {o : Option D} {ρ : Env} {i : Nat} {Q : Env → Prop} {EX : EXT} : Sat (setE (o :: ρ) (i + 1) d) Q EX ↔ Sat (setE ρ i d) (fun r => Q (o :: r)) EX := by
  unfold setE
  by_cases h : i < ρ.length
  · rw [if_pos (show i + 1 < (o :: ρ).length from Nat.succ_lt_succ h), if_pos h]; exact Iff.rfl
  · rw [if_neg (show ¬ i + 1 < (o :: ρ).length from fun q => h (Nat.lt_of_succ_lt_succ q)), if_neg h]; exact Iff.rfl
def blK {α : Type} (d : D) (a b : R α) : R α := match d with | .bl true => a | .bl false => b | _ => .bad
@[simp ↓] theorem wp_blK {α : Type} {k : Bool} {a b : R α} {Q : α → Prop} {EX : EXT} : Sat (blK (.bl k) a b) Q EX ↔ if k = true then Sat a Q EX else Sat b Q EX := by cases k <;> exact Iff.rfl
theorem bind_congr' {α β : Type} {x : R α} {f g : α → R β} (h : ∀ a, f a = g a) : (x >>= f) = (x >>= g) := by rw [funext h]
theorem chn_eq {g2 g3 : D → D → Option D} {f g h : FE} {ρ : Env} {S : List D} : chn g2 g3 f g h ρ S = (f ρ S >>= fun x => g ρ x.2 >>= fun y => R.of (g2 x.1 y.1) >>= fun d => blK d (h ρ y.2 >>= fun w => R.of (g3 y.1 w.1) >>= fun d' => R.ok (d', w.2)) (R.ok (.bl false, y.2))) :=
  bind_congr' fun _ => bind_congr' fun _ => bind_congr' fun d => by
    cases d with
    | bl k => cases k <;> rfl
    | _ => rfl
@[simp ↓] theorem wp_chn {g2 g3 : D → D → Option D} {f g h : FE} {ρ : Env} {S : List D} {Q : D × List D → Prop} {EX : EXT} : Sat (chn g2 g3 f g h ρ S) Q EX ↔ Sat (f ρ S >>= fun x => g ρ x.2 >>= fun y => R.of (g2 x.1 y.1) >>= fun d => blK d (h ρ y.2 >>= fun w => R.of (g3 y.1 w.1) >>= fun d' => R.ok (d', w.2)) (R.ok (.bl false, y.2))) Q EX := by rw [chn_eq]
theorem consC_eq {g2 : D → D → Option D} {g : FE} {h : D → FE} {d : D} {ρ : Env} {S : List D} : consC g2 g h d ρ S = (g ρ S >>= fun y => R.of (g2 d y.1) >>= fun r => blK r (h y.1 ρ y.2) (R.ok (.bl false, y.2))) :=
  bind_congr' fun _ => bind_congr' fun d => by
    cases d with
    | bl k => cases k <;> rfl
    | _ => rfl
@[simp ↓] theorem wp_consC {g2 : D → D → Option D} {g : FE} {h : D → FE} {d : D} {ρ : Env} {S : List D} {Q : D × List D → Prop} {EX : EXT} : Sat (consC g2 g h d ρ S) Q EX ↔ Sat (g ρ S >>= fun y => R.of (g2 d y.1) >>= fun r => blK r (h y.1 ρ y.2) (R.ok (.bl false, y.2))) Q EX := by rw [consC_eq]
@[simp ↓] theorem wp_nilG {ρ : Env} {S : List D} {Q : Env × List D → Prop} {EX : EXT} : Sat (nilG [] ρ S) Q EX ↔ Q (ρ, S) := Iff.rfl
@[simp ↓] theorem wp_lcE {vs : List Nat} {fi : FA} {g : FG} {tt : FT} {te : FE} {ρ : Env} {S : List D} {Q : List D × List D → Prop} {EX : EXT} : Sat (lcE vs fi g tt te ρ S) Q EX ↔ Sat (fi ρ S) (fun x => Sat (lcL vs g tt te ρ x.1 x.2 []) Q EX0) EX := by
  show Sat (_ >>= _) Q EX ↔ _
  rw [wp_bind]
  exact iff_of_eq (by congr; funext a; exact propext wp_noX)
@[simp ↓] theorem wp_bin2 {g2 : D → D → Option D} {f g : FE} {ρ : Env} {S : List D} {Q : D × List D → Prop} {EX : EXT} : Sat (bin2 g2 f g ρ S) Q EX ↔ Sat (f ρ S >>= fun x => g ρ x.2 >>= fun y => R.of (g2 x.1 y.1) >>= fun d => R.ok (d, y.2)) Q EX := Iff.rfl
@[simp ↓] theorem wp_un1 {g1 : D → Option D} {f : FE} {ρ : Env} {S : List D} {Q : D × List D → Prop} {EX : EXT} : Sat (un1 g1 f ρ S) Q EX ↔ Sat (f ρ S >>= fun x => R.of (g1 x.1) >>= fun d => R.ok (d, x.2)) Q EX := Iff.rfl
@[simp ↓] theorem wp_tst {f : FE} {ρ : Env} {S : List D} {Q : Bool × List D → Prop} {EX : EXT} : Sat (tst f ρ S) Q EX ↔ Sat (f ρ S >>= fun x => R.of (truD x.1) >>= fun k => R.ok (k, x.2)) Q EX := Iff.rfl
@[simp ↓] theorem wp_tstB {f : FE} {ρ : Env} {S : List D} {Q : Bool × List D → Prop} {EX : EXT} : Sat (tstB f ρ S) Q EX ↔ Sat (f ρ S >>= fun x => match x.1 with
  | .bl k => R.ok (k, x.2)
  | _ => R.bad) Q EX := Iff.rfl
@[simp ↓] theorem wp_andT {f g : FT} {ρ : Env} {S : List D} {Q : Bool × List D → Prop} {EX : EXT} : Sat (andT f g ρ S) Q EX ↔ Sat (f ρ S >>= fun x => if x.1 then g ρ x.2 else R.ok (false, x.2)) Q EX := Iff.rfl
@[simp ↓] theorem wp_orT {f g : FT} {ρ : Env} {S : List D} {Q : Bool × List D → Prop} {EX : EXT} : Sat (orT f g ρ S) Q EX ↔ Sat (f ρ S >>= fun x => if x.1 then R.ok (true, x.2) else g ρ x.2) Q EX := Iff.rfl
@[simp ↓] theorem wp_notT {f : FT} {ρ : Env} {S : List D} {Q : Bool × List D → Prop} {EX : EXT} : Sat (notT f ρ S) Q EX ↔ Sat (f ρ S >>= fun x => R.ok (!x.1, x.2)) Q EX := Iff.rfl
@[simp ↓] theorem wp_andV {f g : FE} {ρ : Env} {S : List D} {Q : D × List D → Prop} {EX : EXT} : Sat (andV f g ρ S) Q EX ↔ Sat (f ρ S >>= fun x => R.of (truD x.1) >>= fun k => if k then g ρ x.2 else R.ok x) Q EX := Iff.rfl
@[simp ↓] theorem wp_orV {f g : FE} {ρ : Env} {S : List D} {Q : D × List D → Prop} {EX : EXT} : Sat (orV f g ρ S) Q EX ↔ Sat (f ρ S >>= fun x => R.of (truD x.1) >>= fun k => if k then R.ok x else g ρ x.2) Q EX := Iff.rfl
@[simp ↓] theorem wp_notV {f : FE} {ρ : Env} {S : List D} {Q : D × List D → Prop} {EX : EXT} : Sat (notV f ρ S) Q EX ↔ Sat (f ρ S >>= fun x => R.of (truD x.1) >>= fun k => R.ok (.bl (!k), x.2)) Q EX := Iff.rfl
@[simp ↓] theorem wp_ifE {t : FT} {f g : FE} {ρ : Env} {S : List D} {Q : D × List D → Prop} {EX : EXT} : Sat (ifE t f g ρ S) Q EX ↔ Sat (t ρ S >>= fun x => if x.1 then f ρ x.2 else g ρ x.2) Q EX := Iff.rfl
@[simp ↓] theorem wp_consA {f : FE} {g : FA} {ρ : Env} {S : List D} {Q : List D × List D → Prop} {EX : EXT} : Sat (consA f g ρ S) Q EX ↔ Sat (f ρ S >>= fun x => g ρ x.2 >>= fun y => R.ok (x.1 :: y.1, y.2)) Q EX := Iff.rfl
@[simp ↓] theorem wp_tupE {fa : FA} {ρ : Env} {S : List D} {Q : D × List D → Prop} {EX : EXT} : Sat (tupE fa ρ S) Q EX ↔ Sat (fa ρ S >>= fun x => if x.1.length ≤ LINE then R.ok (.tup x.1, x.2) else R.bad) Q EX := Iff.rfl
@[simp ↓] theorem wp_lstE {fa : FA} {ρ : Env} {S : List D} {Q : D × List D → Prop} {EX : EXT} : Sat (lstE fa ρ S) Q EX ↔ Sat (fa ρ S >>= fun x => if x.1.length ≤ LINE then R.ok (.lst x.1, x.2) else R.bad) Q EX := Iff.rfl
@[simp ↓] theorem wp_someO {f : FE} {ρ : Env} {S : List D} {Q : Option Int × List D → Prop} {EX : EXT} : Sat (someO f ρ S) Q EX ↔ Sat (f ρ S >>= fun x => match x.1 with
  | .int i => R.ok (some i, x.2)
  | _ => R.bad) Q EX := Iff.rfl
@[simp ↓] theorem wp_slcE {f : FE} {l h : FO} {ρ : Env} {S : List D} {Q : D × List D → Prop} {EX : EXT} : Sat (slcE f l h ρ S) Q EX ↔ Sat (f ρ S >>= fun x => l ρ x.2 >>= fun lo => h ρ lo.2 >>= fun hi => R.of (slcD x.1 lo.1 hi.1) >>= fun d => R.ok (d, hi.2)) Q EX := Iff.rfl
@[simp ↓] theorem wp_callE {g : List D → Option D} {fa : FA} {ρ : Env} {S : List D} {Q : D × List D → Prop} {EX : EXT} : Sat (callE g fa ρ S) Q EX ↔ Sat (fa ρ S >>= fun x => R.of (g x.1) >>= fun d => R.ok (d, x.2)) Q EX := Iff.rfl
@[simp ↓] theorem wp_mthE {T : String} {g : D → List D → Option D} {f : FE} {fa : FA} {ρ : Env} {S : List D} {Q : D × List D → Prop} {EX : EXT} : Sat (mthE T g f fa ρ S) Q EX ↔ Sat (f ρ S >>= fun x => if kindD T x.1 then fa ρ x.2 >>= fun y => R.of (g x.1 y.1) >>= fun d => R.ok (d, y.2) else R.bad) Q EX := Iff.rfl
def nxt (g : FS) (r : Ctl × Env × List D) : R (Ctl × Env × List D) := match r.1 with | .nx => g r.2.1 r.2.2 | _ => R.ok r
@[simp ↓] theorem wp_nxt {g : FS} {ρ : Env} {S : List D} {Q : Ctl × Env × List D → Prop} {EX : EXT} : Sat (nxt g (.nx, ρ, S)) Q EX ↔ Sat (g ρ S) Q EX := Iff.rfl
@[simp ↓] theorem wp_nxt_rt {g : FS} {d : D} {ρ : Env} {S : List D} {Q : Ctl × Env × List D → Prop} {EX : EXT} : Sat (nxt g (.rt d, ρ, S)) Q EX ↔ Q (.rt d, ρ, S) := Iff.rfl
@[simp ↓] theorem wp_nxt_bk {g : FS} {ρ : Env} {S : List D} {Q : Ctl × Env × List D → Prop} {EX : EXT} : Sat (nxt g (.bk, ρ, S)) Q EX ↔ Q (.bk, ρ, S) := Iff.rfl
@[simp ↓] theorem wp_nxt_ct {g : FS} {ρ : Env} {S : List D} {Q : Ctl × Env × List D → Prop} {EX : EXT} : Sat (nxt g (.ct, ρ, S)) Q EX ↔ Q (.ct, ρ, S) := Iff.rfl
@[simp ↓] theorem wp_seqS {f g : FS} {ρ : Env} {S : List D} {Q : Ctl × Env × List D → Prop} {EX : EXT} : Sat (seqS f g ρ S) Q EX ↔ Sat (f ρ S) (fun r => Sat (nxt g r) Q EX) EX := by
  show Sat (_ >>= _) Q EX ↔ _
  rw [wp_bind]
  exact Iff.rfl
@[simp ↓] theorem wp_retS {f : FE} {ρ : Env} {S : List D} {Q : Ctl × Env × List D → Prop} {EX : EXT} : Sat (retS f ρ S) Q EX ↔ Sat (f ρ S >>= fun x => R.ok (.rt x.1, ρ, x.2)) Q EX := Iff.rfl
@[simp ↓] theorem wp_exprS {f : FE} {ρ : Env} {S : List D} {Q : Ctl × Env × List D → Prop} {EX : EXT} : Sat (exprS f ρ S) Q EX ↔ Sat (f ρ S >>= fun x => R.ok (.nx, ρ, x.2)) Q EX := Iff.rfl
@[simp ↓] theorem wp_ifS {c : FT} {f g : FS} {ρ : Env} {S : List D} {Q : Ctl × Env × List D → Prop} {EX : EXT} : Sat (ifS c f g ρ S) Q EX ↔ Sat (c ρ S >>= fun x => if x.1 then f ρ x.2 else g ρ x.2) Q EX := Iff.rfl
@[simp ↓] theorem wp_asgS {f : FE} {g : FG} {ρ : Env} {S : List D} {Q : Ctl × Env × List D → Prop} {EX : EXT} : Sat (asgS f g ρ S) Q EX ↔ Sat (f ρ S >>= fun x => g x.1 ρ x.2 >>= fun r => R.ok (.nx, r.1, r.2)) Q EX := Iff.rfl
@[simp ↓] theorem wp_parS {i j : Nat} {fa : FA} {ρ : Env} {S : List D} {Q : Ctl × Env × List D → Prop} {EX : EXT} : Sat (parS i j fa ρ S) Q EX ↔ Sat (fa ρ S >>= fun x => match x.1 with
  | [u, v] => setE ρ i u >>= fun ρ1 => setE ρ1 j v >>= fun ρ2 => R.ok (.nx, ρ2, x.2)
  | _ => R.bad) Q EX := Iff.rfl
@[simp ↓] theorem wp_augS {i : Nat} {g2 : D → D → Option D} {f : FE} {ρ : Env} {S : List D} {Q : Ctl × Env × List D → Prop} {EX : EXT} : Sat (augS i g2 f ρ S) Q EX ↔ Sat (lk ρ i >>= fun u => f ρ S >>= fun x => R.of (g2 u x.1) >>= fun d => setE ρ i d >>= fun ρ1 => R.ok (.nx, ρ1, x.2)) Q EX := Iff.rfl
@[simp ↓] theorem wp_forS {fi : FA} {g : FG} {fb : FS} {ρ : Env} {S : List D} {Q : Ctl × Env × List D → Prop} {EX : EXT} : Sat (forS fi g fb ρ S) Q EX ↔ Sat (fi ρ S >>= fun x => forL g fb x.1 ρ x.2) Q EX := Iff.rfl
@[simp ↓] theorem wp_rngI {g : List D → Option (List D)} {fa : FA} {ρ : Env} {S : List D} {Q : List D × List D → Prop} {EX : EXT} : Sat (rngI g fa ρ S) Q EX ↔ Sat (fa ρ S >>= fun x => R.of (g x.1) >>= fun ds => R.ok (ds, x.2)) Q EX := Iff.rfl
@[simp ↓] theorem wp_seqI {g : D → Option (List D)} {f : FE} {ρ : Env} {S : List D} {Q : List D × List D → Prop} {EX : EXT} : Sat (seqI g f ρ S) Q EX ↔ Sat (f ρ S >>= fun x => R.of (g x.1) >>= fun ds => R.ok (ds, x.2)) Q EX := Iff.rfl
@[simp ↓] theorem wp_ofF {f : FA} {ρ : Env} {S : List D} {Q : D × List D → Prop} {EX : EXT} : Sat (ofF f ρ S) Q EX ↔ Sat (f ρ S >>= fun x => R.ok (.lst x.1, x.2)) Q EX := Iff.rfl
@[simp ↓] theorem wp_lstF {fa : FA} {ρ : Env} {S : List D} {Q : List D × List D → Prop} {EX : EXT} : Sat (lstF fa ρ S) Q EX ↔ Sat (fa ρ S >>= fun x => if x.1.length ≤ LINE then R.ok x else R.bad) Q EX := Iff.rfl
@[simp ↓] theorem wp_bin2F {g2 : D → D → Option (List D)} {f g : FE} {ρ : Env} {S : List D} {Q : List D × List D → Prop} {EX : EXT} : Sat (bin2F g2 f g ρ S) Q EX ↔ Sat (f ρ S >>= fun x => g ρ x.2 >>= fun y => R.of (g2 x.1 y.1) >>= fun d => R.ok (d, y.2)) Q EX := Iff.rfl
@[simp ↓] theorem wp_callF {g : List D → Option (List D)} {fa : FA} {ρ : Env} {S : List D} {Q : List D × List D → Prop} {EX : EXT} : Sat (callF g fa ρ S) Q EX ↔ Sat (fa ρ S >>= fun x => R.of (g x.1) >>= fun d => R.ok (d, x.2)) Q EX := Iff.rfl
@[simp ↓] theorem wp_ownS {i : Nat} {f : FA} {ρ : Env} {S : List D} {Q : Ctl × Env × List D → Prop} {EX : EXT} : Sat (ownS i f ρ S) Q EX ↔ Sat (f ρ S >>= fun x => setE ρ i (.lst x.1) >>= fun ρ1 => R.ok (.nx, ρ1, x.2)) Q EX := Iff.rfl
@[simp ↓] theorem wp_appS {i : Nat} {f : FE} {ρ : Env} {S : List D} {Q : Ctl × Env × List D → Prop} {EX : EXT} : Sat (appS i f ρ S) Q EX ↔ Sat (f ρ S >>= fun x => lk ρ i >>= fun l => match l with
  | .lst ds => if ds.length < LINE then setE ρ i (.lst (ds ++ [x.1])) >>= fun ρ1 => R.ok (.nx, ρ1, x.2) else R.bad
  | _ => R.bad) Q EX := Iff.rfl
@[simp ↓] theorem wp_stoS {i : Nat} {f g : FE} {ρ : Env} {S : List D} {Q : Ctl × Env × List D → Prop} {EX : EXT} : Sat (stoS i f g ρ S) Q EX ↔ Sat (f ρ S >>= fun x => g ρ x.2 >>= fun y => lk ρ i >>= fun l => match l, y.1 with
  | .lst ds, .int k => match ixN ds.length k with
    | some j => setE ρ i (.lst (ds.set j x.1)) >>= fun ρ1 => R.ok (.nx, ρ1, y.2)
    | none => R.bad
  | _, _ => R.bad) Q EX := Iff.rfl
@[simp ↓] theorem wp_callD {F : List D → R D} {dds : List D} {fa : FA} {ρ : Env} {S : List D} {Q : D × List D → Prop} {EX : EXT} : Sat (callD F dds fa ρ S) Q EX ↔ Sat (fa ρ S >>= fun x => noX (F (x.1 ++ dds)) >>= fun d => R.ok (d, x.2)) Q EX := Iff.rfl
@[simp ↓] theorem wp_callN {F : List D → R (List D)} {dds : List D} {fa : FA} {ρ : Env} {S : List D} {Q : List D × List D → Prop} {EX : EXT} : Sat (callN F dds fa ρ S) Q EX ↔ Sat (fa ρ S >>= fun x => noX (F (x.1 ++ dds)) >>= fun d => R.ok (d, x.2)) Q EX := Iff.rfl
@[simp ↓] theorem wp_callP {F : List D → List D → R (D × List D)} {fa : FA} {ρ : Env} {S : List D} {Q : D × List D → Prop} {EX : EXT} : Sat (callP F fa ρ S) Q EX ↔ Sat (fa ρ S >>= fun x => noX (F x.2 x.1)) Q EX := Iff.rfl
@[simp ↓] theorem wp_callPN {F : List D → List D → R (D × List D)} {fn : FA} {ρ : Env} {S : List D} {Q : D × List D → Prop} {EX : EXT} : Sat (callPN F fn ρ S) Q EX ↔ Sat (fn ρ S >>= fun x => noX (F x.1 []) >>= fun r => R.ok (r.1, x.2)) Q EX := Iff.rfl
@[simp ↓] theorem wp_callKD {F : List D → R D} {n m : Nat} {ix : List Nat} {fa fk : FA} {ρ : Env} {S : List D} {Q : D × List D → Prop} {EX : EXT} : Sat (callKD F n m ix fa fk ρ S) Q EX ↔ Sat (fa ρ S >>= fun x => fk ρ x.2 >>= fun y => if x.1.length = n ∧ y.1.length = m then noX (F (pick ix (x.1 ++ y.1))) >>= fun d => R.ok (d, y.2) else R.bad) Q EX := Iff.rfl
@[simp ↓] theorem wp_mkD {c : Str} {nm : List Str} {F : List D → R (List D)} {fa : FA} {ρ : Env} {S : List D} {Q : D × List D → Prop} {EX : EXT} : Sat (mkD c nm F fa ρ S) Q EX ↔ Sat (fa ρ S >>= fun x => noX (F x.1) >>= fun es => R.ok (.ins c nm es, x.2)) Q EX := Iff.rfl
@[simp ↓] theorem wp_mkI {c : Str} {nm : List Str} {F : List D → R (List D)} {n m : Nat} {ix : List Nat} {fa fk : FA} {ρ : Env} {S : List D} {Q : D × List D → Prop} {EX : EXT} : Sat (mkI c nm F n m ix fa fk ρ S) Q EX ↔ Sat (fa ρ S >>= fun x => fk ρ x.2 >>= fun y => if x.1.length = n ∧ y.1.length = m then noX (F (pick ix (x.1 ++ y.1))) >>= fun es => R.ok (.ins c nm es, y.2) else R.bad) Q EX := Iff.rfl
@[simp ↓] theorem wp_mthC {cn m : Str} {F : List D → R D} {dds : List D} {f : FE} {fa : FA} {ρ : Env} {S : List D} {Q : D × List D → Prop} {EX : EXT} : Sat (mthC cn m F dds f fa ρ S) Q EX ↔ Sat (f ρ S >>= fun x => match x.1 with
  | .ins c ns _ => if c = cn ∧ ns.contains m = false then fa ρ x.2 >>= fun y => noX (F (x.1 :: (y.1 ++ dds))) >>= fun d => R.ok (d, y.2) else R.bad
  | _ => R.bad) Q EX := Iff.rfl
@[simp ↓] theorem wp_propD {cn : Str} {F : List D → R D} {f : FE} {ρ : Env} {S : List D} {Q : D × List D → Prop} {EX : EXT} : Sat (propD cn F f ρ S) Q EX ↔ Sat (f ρ S >>= fun x => match x.1 with
  | .ins c _ _ => if c = cn then noX (F [x.1]) >>= fun d => R.ok (d, x.2) else R.bad
  | _ => R.bad) Q EX := Iff.rfl
@[simp ↓] theorem wp_seqN {fs : FS} {fa : FA} {ρ : Env} {S : List D} {Q : List D × List D → Prop} {EX : EXT} : Sat (seqN fs fa ρ S) Q EX ↔ Sat (fs ρ S >>= fun r => match r.1 with | .nx => fa r.2.1 r.2.2 | _ => R.bad) Q EX := Iff.rfl
@[simp ↓] theorem wp_slfS {nm : List Str} {fn : Str} {f : FE} {ρ : Env} {S : List D} {Q : Ctl × Env × List D → Prop} {EX : EXT} : Sat (slfS nm fn f ρ S) Q EX ↔ Sat (f ρ S >>= fun x => if nm[x.2.length]? = some fn ∧ (nm.take x.2.length).contains fn = false ∧ x.2.length < 999 then R.ok (.nx, ρ, x.2 ++ [x.1]) else R.bad) Q EX := Iff.rfl
@[simp ↓] theorem wp_poolE {k : Int} {z0 : Env} {S : List D} {Q : D × List D → Prop} {EX : EXT} : Sat (poolE k z0 S) Q EX ↔ Sat (R.of (L2.atI S k) >>= fun d => R.ok (d, S)) Q EX := Iff.rfl
@[simp ↓] theorem wp_poolG {k : Int} {d : D} {ρ : Env} {S : List D} {Q : Env × List D → Prop} {EX : EXT} : Sat (poolG k d ρ S) Q EX ↔ Sat (match ixN S.length k with | some j => R.ok (ρ, S.set j d) | none => R.bad) Q EX := Iff.rfl
@[simp ↓] theorem wp_lastC {g2 : D → D → Option D} {g : FE} {d : D} {ρ : Env} {S : List D} {Q : D × List D → Prop} {EX : EXT} : Sat (lastC g2 g d ρ S) Q EX ↔ Sat (g ρ S >>= fun y => R.of (g2 d y.1) >>= fun r => R.ok (r, y.2)) Q EX := Iff.rfl
@[simp ↓] theorem wp_chnE {f : FE} {h : D → FE} {ρ : Env} {S : List D} {Q : D × List D → Prop} {EX : EXT} : Sat (chnE f h ρ S) Q EX ↔ Sat (f ρ S >>= fun x => h x.1 ρ x.2) Q EX := Iff.rfl
@[simp ↓] theorem wp_lenC {cn : Str} {F : List D → R D} {f : FE} {ρ : Env} {S : List D} {Q : D × List D → Prop} {EX : EXT} : Sat (lenC cn F f ρ S) Q EX ↔ Sat (f ρ S >>= fun x => match x.1 with
  | .ins c _ _ => if c = cn then noX (F [x.1]) >>= fun d => match d with
    | .int n => if 0 ≤ n ∧ n < 2 ^ 63 then R.ok (.int n, x.2) else R.bad
    | _ => R.bad else R.bad
  | _ => R.bad) Q EX := Iff.rfl
@[simp ↓] theorem wp_rgF {f g : FE} {ρ : Env} {S : List D} {Q : List D × List D → Prop} {EX : EXT} : Sat (rgF f g ρ S) Q EX ↔ Sat (f ρ S >>= fun x => g ρ x.2 >>= fun y => R.of (rangeF [x.1, y.1]) >>= fun d => R.ok (d, y.2)) Q EX := Iff.rfl
@[simp ↓] theorem wp_extS {i : Nat} {f : FE} {ρ : Env} {S : List D} {Q : Ctl × Env × List D → Prop} {EX : EXT} : Sat (extS i f ρ S) Q EX ↔ Sat (f ρ S >>= fun x => lk ρ i >>= fun l => match l, x.1 with
  | .lst ds, .lst es => if ds.length + es.length ≤ LINE then setE ρ i (.lst (ds ++ es)) >>= fun ρ1 => R.ok (.nx, ρ1, x.2) else R.bad
  | _, _ => R.bad) Q EX := Iff.rfl
@[simp ↓] theorem wp_own4S {i j k l : Nat} {f g : FE} {ρ : Env} {S : List D} {Q : Ctl × Env × List D → Prop} {EX : EXT} : Sat (own4S i j k l f g ρ S) Q EX ↔ Sat (f ρ S >>= fun x => g ρ x.2 >>= fun y => setE ρ i (.lst []) >>= fun ρ1 => setE ρ1 j (.lst []) >>= fun ρ2 => setE ρ2 k x.1 >>= fun ρ3 => setE ρ3 l y.1 >>= fun ρ4 => R.ok (.nx, ρ4, y.2)) Q EX := Iff.rfl
@[simp ↓] theorem wp_enI {fa : FA} {ρ : Env} {S : List D} {Q : List D × List D → Prop} {EX : EXT} : Sat (enI fa ρ S) Q EX ↔ Sat (fa ρ S >>= fun x => R.ok (enD x.1, x.2)) Q EX := Iff.rfl
@[simp ↓] theorem wp_nmG {i : Nat} {d : D} {ρ : Env} {S : List D} {Q : Env × List D → Prop} {EX : EXT} : Sat (nmG i d ρ S) Q EX ↔ Sat (setE ρ i d >>= fun ρ1 => R.ok (ρ1, S)) Q EX := Iff.rfl
@[simp ↓] theorem wp_consG {g : FG} {h : FGs} {ds : List D} {ρ : Env} {S : List D} {Q : Env × List D → Prop} {EX : EXT} : Sat (consG g h ds ρ S) Q EX ↔ Sat (match ds with | [] => R.bad | d :: r => g d ρ S >>= fun ρ1 => h r ρ1.1 ρ1.2) Q EX := Iff.rfl
@[simp ↓] theorem wp_tupG {n : Nat} {g : FGs} {d : D} {ρ : Env} {S : List D} {Q : Env × List D → Prop} {EX : EXT} : Sat (tupG n g d ρ S) Q EX ↔ Sat (match d with | .tup ds => if ds.length = n then g ds ρ S else R.bad | _ => R.bad) Q EX := Iff.rfl
@[simp ↓] theorem wp_lstG {n : Nat} {g : FGs} {d : D} {ρ : Env} {S : List D} {Q : Env × List D → Prop} {EX : EXT} : Sat (lstG n g d ρ S) Q EX ↔ Sat (match d with | .lst ds => if ds.length = n then g ds ρ S else R.bad | _ => R.bad) Q EX := Iff.rfl
@[simp ↓] theorem wp_yesT {z0 : Env} {S : List D} {Q : Bool × List D → Prop} {EX : EXT} : Sat (yesT  z0 S) Q EX ↔ Sat (R.ok (true, S)) Q EX := Iff.rfl
@[simp ↓] theorem wp_nxS {ρ : Env} {S : List D} {Q : Ctl × Env × List D → Prop} {EX : EXT} : Sat (nxS  ρ S) Q EX ↔ Sat (R.ok (.nx, ρ, S)) Q EX := Iff.rfl
@[simp ↓] theorem wp_bkS {ρ : Env} {S : List D} {Q : Ctl × Env × List D → Prop} {EX : EXT} : Sat (bkS  ρ S) Q EX ↔ Sat (R.ok (.bk, ρ, S)) Q EX := Iff.rfl
@[simp ↓] theorem wp_ctS {ρ : Env} {S : List D} {Q : Ctl × Env × List D → Prop} {EX : EXT} : Sat (ctS  ρ S) Q EX ↔ Sat (R.ok (.ct, ρ, S)) Q EX := Iff.rfl
@[simp ↓] theorem wp_badS {z0 : Env} {z1 : List D} {Q : Ctl × Env × List D → Prop} {EX : EXT} : Sat (badS  z0 z1) Q EX ↔ Sat (R.bad) Q EX := Iff.rfl
@[simp ↓] theorem wp_nilA {z0 : Env} {S : List D} {Q : List D × List D → Prop} {EX : EXT} : Sat (nilA  z0 S) Q EX ↔ Sat (R.ok ([], S)) Q EX := Iff.rfl
@[simp ↓] theorem wp_noneO {z0 : Env} {S : List D} {Q : Option Int × List D → Prop} {EX : EXT} : Sat (noneO  z0 S) Q EX ↔ Sat (R.ok (none, S)) Q EX := Iff.rfl
@[simp ↓] theorem wp_end_rt {d : D} {ρ : Env} {S : List D} {Q : D → Prop} {EX : EXT} : Sat (endD (.rt d, ρ, S)) Q EX ↔ Q d := Iff.rfl
@[simp ↓] theorem wp_end_nx {ρ : Env} {S : List D} {Q : D → Prop} {EX : EXT} : Sat (endD (.nx, ρ, S)) Q EX ↔ Q .non := Iff.rfl
@[simp ↓] theorem wp_endP_rt {d : D} {ρ : Env} {S : List D} {Q : D × List D → Prop} {EX : EXT} : Sat (endP (.rt d, ρ, S)) Q EX ↔ Q (d, S) := Iff.rfl
@[simp ↓] theorem wp_endP_nx {ρ : Env} {S : List D} {Q : D × List D → Prop} {EX : EXT} : Sat (endP (.nx, ρ, S)) Q EX ↔ Q (.non, S) := Iff.rfl
/-- a def's run, from its arguments on -/
theorem wp_runF {n k : Nat} {fs : FS} {ds : List D} {Q : D → Prop} {EX : EXT} (h : ds.length = k) : Sat (runF n k fs ds) Q EX ↔ Sat (fs (startE n ds) []) (fun r => Sat (endD r) Q EX) EX := by
  unfold runF
  rw [if_pos h]
  exact wp_bind
theorem wp_runP {n k : Nat} {fs : FS} {S ds : List D} {Q : D × List D → Prop} {EX : EXT} (h : ds.length + 1 = k) : Sat (runP n k fs S ds) Q EX ↔ Sat (fs (startP n ds) S) (fun r => Sat (endP r) Q EX) EX := by
  unfold runP
  rw [if_pos h]
  exact wp_bind
theorem wp_runN {n k : Nat} {fa : FA} {ds : List D} {Q : List D → Prop} {EX : EXT} (h : ds.length = k) : Sat (runN n k fa ds) Q EX ↔ Sat (fa (startE n ds) []) (fun r => Q r.1) EX := by
  unfold runN
  rw [if_pos h]
  exact wp_bind
theorem wp_runI {nm : List Str} {n k : Nat} {fs : FS} {ds : List D} {Q : List D → Prop} {EX : EXT} (h : ds.length + 1 = k) : Sat (runI nm n k fs ds) Q EX ↔ Sat (fs (startP n ds) []) (fun r => match r.1 with | .nx => r.2.2.length = nm.length ∧ Q r.2.2 | _ => False) EX := by
  unfold runI
  rw [if_pos h, wp_bind]
  refine iff_of_eq (congrArg (fun q => Sat _ q EX) (funext fun r => ?_))
  obtain ⟨c, ρ, S⟩ := r
  cases c with
  | nx =>
    show Sat (if S.length = nm.length then R.ok S else R.bad) Q EX = _
    rw [wp_if]
    by_cases q : S.length = nm.length
    · rw [if_pos q]; exact propext ⟨fun z => ⟨q, z⟩, fun z => z.2⟩
    · rw [if_neg q]; exact propext ⟨fun z => z.elim, fun z => q z.1⟩
  | _ => rfl
theorem sat_eq {α : Type} {r : R α} {a : α} {EX : EXT} (h : r = R.ok a) {Q : α → Prop} (q : Q a) : Sat r Q EX := by rw [h]; exact q
theorem eq_sat {α : Type} {r : R α} {a : α} (h : Sat r (fun x => x = a) EX0) : r = R.ok a := by
  cases r with
  | ok x => exact congrArg R.ok h
  | exc _ _ _ => exact h.elim
  | bad => exact h.elim
/-! operators on plain data -/
@[simp] theorem addD_int (a b : Int) : addD (.int a) (.int b) = some (.int (a + b)) := rfl
@[simp] theorem subD_int (a b : Int) : subD (.int a) (.int b) = some (.int (a - b)) := rfl
@[simp] theorem mulD_int (a b : Int) : mulD (.int a) (.int b) = if (-(2 ^ 64) < a ∧ a < 2 ^ 64) ∨ (-(2 ^ 64) < b ∧ b < 2 ^ 64) then some (.int (a * b)) else none := by
  show (if (-(2 ^ 64) < a ∧ a < 2 ^ 64) ∨ (-(2 ^ 64) < b ∧ b < 2 ^ 64) then some (D.int (a * b)) else none).or ((none : Option D).or (none : Option D)) = _
  simp only [Option.or_none]
@[simp] theorem fdivD_int (a b : Int) : fdivD (.int a) (.int b) = if 0 < b ∧ b < 1073741824 then some (.int (a / b)) else none := rfl
@[simp] theorem modD_int (a b : Int) : modD (.int a) (.int b) = if 0 < b then some (.int (a % b)) else none := rfl
@[simp] theorem powD_int (a b : Int) : powD (.int a) (.int b) = if 0 ≤ b ∧ b ≤ 1000000 ∧ a.natAbs < 2 ^ 64 then some (.int (a ^ b.toNat)) else none := rfl
@[simp] theorem divmodD_int (a b : Int) : divmodD [.int a, .int b] = if 0 < b ∧ b < 1073741824 then some (.tup [.int (a / b), .int (a % b)]) else none := rfl
@[simp] theorem negD_int (a : Int) : negD (.int a) = some (.int (-a)) := rfl
@[simp] theorem ltD_int (a b : Int) : ltD (.int a) (.int b) = some (.bl (decide (a < b))) := rfl
@[simp] theorem leD_int (a b : Int) : leD (.int a) (.int b) = some (.bl (decide (a ≤ b))) := rfl
@[simp] theorem gtD_int (a b : Int) : gtD (.int a) (.int b) = some (.bl (decide (b < a))) := rfl
@[simp] theorem geD_int (a b : Int) : geD (.int a) (.int b) = some (.bl (decide (b ≤ a))) := rfl
@[simp] theorem neD_int (a b : Int) : neD (.int a) (.int b) = some (.bl (!decide (a = b))) := by
  unfold neD eqP toPy
  simp [SeqAt.shaped, PyData.eqv, PyData.canLay0, PyData.depth]
  rfl
@[simp] theorem eqD_int (a b : Int) : eqD (.int a) (.int b) = some (.bl (decide (a = b))) := by
  unfold eqD eqP toPy
  simp [SeqAt.shaped, PyData.eqv, PyData.canLay0, PyData.depth]
  rfl
@[simp] theorem addD_lst (a b : List D) : addD (.lst a) (.lst b) = if a.length + b.length ≤ LINE then some (.lst (a ++ b)) else none := by
  show (none : Option D).or ((none : Option D).or ((addL (.lst a) (.lst b)).or (addT (.lst a) (.lst b)))) = _
  simp only [addL, addT, Option.none_or, Option.or_none]
@[simp] theorem addD_tup (a b : List D) : addD (.tup a) (.tup b) = if a.length + b.length ≤ LINE then some (.tup (a ++ b)) else none := by
  show (none : Option D).or ((none : Option D).or ((addL (.tup a) (.tup b)).or (addT (.tup a) (.tup b)))) = _
  simp only [addL, addT, Option.none_or, Option.or_none]
@[simp] theorem idxD_lst (a : List D) (i : Int) : idxD (.lst a) (.int i) = L2.atI a i := by
  show (L2.atI a i).or ((none : Option D).or (none : Option D)) = _
  simp only [Option.or_none]
@[simp] theorem idxD_tup (a : List D) (i : Int) : idxD (.tup a) (.int i) = L2.atI a i := by
  show (none : Option D).or ((L2.atI a i).or (none : Option D)) = _
  simp only [Option.or_none, Option.none_or]
@[simp] theorem idxD_scr (a : List Int) (i : Int) : idxD (.scr a) (.int i) = (L2.atI a i).map .int := by
  show ((L2.atI a i).map D.int).or ((none : Option D).or (none : Option D)) = _
  simp only [Option.or_none]
@[simp] theorem truD_bl (b : Bool) : truD (.bl b) = some b := rfl
@[simp] theorem truD_int (i : Int) : truD (.int i) = some (i != 0) := rfl
@[simp] theorem lenD_lst (ds : List D) : lenD [.lst ds] = some (.int (ds.length : Nat)) := rfl
@[simp] theorem lenD_tup (ds : List D) : lenD [.tup ds] = some (.int (ds.length : Nat)) := rfl
@[simp] theorem lenD_scr (ds : List Int) : lenD [.scr ds] = some (.int (ds.length : Nat)) := rfl
@[simp] theorem min2D_int (i j : Int) : min2D [.int i, .int j] = some (.int (if j < i then j else i)) := rfl
@[simp] theorem max2D_int (i j : Int) : max2D [.int i, .int j] = some (.int (if j > i then j else i)) := rfl
@[simp] theorem absD_int (i : Int) : absD [.int i] = some (.int (if i < 0 then -i else i)) := rfl
@[simp] theorem tupD_lst (ds : List D) : tupD [.lst ds] = some (.tup ds) := rfl
@[simp] theorem tupD_tup (ds : List D) : tupD [.tup ds] = some (.tup ds) := rfl
@[simp] theorem itemsL_lst (ds : List D) : itemsL (.lst ds) = some ds := rfl
@[simp] theorem itemsL_scr (ns : List Int) : itemsL (.scr ns) = some (ns.map .int) := rfl
@[simp] theorem itemsT_tup (ds : List D) : itemsT (.tup ds) = some ds := rfl
@[simp] theorem itemsA_tup (ds : List D) : itemsA (.tup ds) = some ds := rfl
@[simp] theorem itemsA_lst (ds : List D) : itemsA (.lst ds) = some ds := rfl
@[simp] theorem rng1D_int (n : Int) : rng1D [.int n] = if -(2 ^ 62) ≤ n ∧ n < 2 ^ 62 then some ((List.range n.toNat).map fun i => D.int (0 + (i : Nat))) else none := rfl
@[simp] theorem rng2D_int (a b : Int) : rng2D [.int a, .int b] = if -(2 ^ 62) ≤ a ∧ a < 2 ^ 62 ∧ -(2 ^ 62) ≤ b ∧ b < 2 ^ 62 then some ((List.range (b - a).toNat).map fun i => D.int (a + (i : Nat))) else none := rfl
theorem allD_lst (ds : List D) : allD [.lst ds] = (D.bls ds).map fun ns => .bl (ns.all id) := rfl
@[simp] theorem isiD_int (t : String → Option Bool) (u : Str → Option Bool) (i : Int) : isiD t u (.int i) = (t "int").map .bl := rfl
@[simp] theorem isiD_bl (t : String → Option Bool) (u : Str → Option Bool) (i : Bool) : isiD t u (.bl i) = (t "bool").map .bl := rfl
@[simp] theorem isiD_non (t : String → Option Bool) (u : Str → Option Bool) : isiD t u .non = (t "NoneType").map .bl := rfl
@[simp] theorem isiD_str (t : String → Option Bool) (u : Str → Option Bool) (s : Str) : isiD t u (.str s) = (t "str").map .bl := rfl
@[simp] theorem isiD_tup (t : String → Option Bool) (u : Str → Option Bool) (s : List D) : isiD t u (.tup s) = (t "tuple").map .bl := rfl
@[simp] theorem isiD_lst (t : String → Option Bool) (u : Str → Option Bool) (s : List D) : isiD t u (.lst s) = (t "list").map .bl := rfl
@[simp] theorem isiD_scr (t : String → Option Bool) (u : Str → Option Bool) (s : List Int) : isiD t u (.scr s) = (t "list").map .bl := rfl
@[simp] theorem isiD_dic (t : String → Option Bool) (u : Str → Option Bool) (s : List Key) (v : List D) : isiD t u (.dic s v) = (t "dict").map .bl := rfl
@[simp] theorem isiD_ins (t : String → Option Bool) (u : Str → Option Bool) (c : Str) (n : List Str) (v : List D) : isiD t u (.ins c n v) = (u c).map .bl := rfl
/-! an item at a place -/
theorem atI_of {α : Type} {xs : List α} {i : Int} (h0 : 0 ≤ i) (h1 : i < xs.length) : ∃ d, L2.atI xs i = some d ∧ d ∈ xs ∧ xs[i.toNat]? = some d := by
  have h2 : i.toNat < xs.length := by omega
  refine ⟨xs[i.toNat], ?_, List.getElem_mem h2, List.getElem?_eq_getElem h2⟩
  unfold L2.atI ixN
  rw [if_pos h0, if_pos h1]
  exact List.getElem?_eq_getElem h2
inductive All2 {α β : Type} (r : α → β → Prop) : List α → List β → Prop
  | nil : All2 r [] []
  | cons {a : α} {b : β} {as : List α} {bs : List β} : r a b → All2 r as bs → All2 r (a :: as) (b :: bs)
theorem All2.length_eq {α β : Type} {r : α → β → Prop} {as : List α} {bs : List β} (h : All2 r as bs) : as.length = bs.length := by
  induction h with
  | nil => rfl
  | cons _ _ ih => simp [ih]
theorem All2.eq_map {α β : Type} {f : α → β} {as : List α} {bs : List β} (h : All2 (fun a b => b = f a) as bs) : bs = as.map f := by
  induction h with
  | nil => rfl
  | cons h _ ih => simp [h, ih]
/-! loops -/
theorem wp_for {g : FG} {fb : FS} {Q : Ctl × Env × List D → Prop} {EX : EXT} (ds : List D) (I : Nat → Env → List D → Prop)
    (step : ∀ i d ρ S, ds[i]? = some d → I i ρ S → Sat (g d ρ S) (fun r => Sat (fb r.1 r.2) (fun c => match c.1 with
      | .nx => I (i + 1) c.2.1 c.2.2
      | .ct => I (i + 1) c.2.1 c.2.2
      | .bk => Q (.nx, c.2.1, c.2.2)
      | .rt d => Q (.rt d, c.2.1, c.2.2)) EX) EX) (fin : ∀ ρ S, I ds.length ρ S → Q (.nx, ρ, S)) {ρ : Env} {S : List D} (h0 : I 0 ρ S) : Sat (forL g fb ds ρ S) Q EX := by
  have key : ∀ (n : Nat) (k : Nat), k + n = ds.length → ∀ ρ S, I k ρ S → Sat (forL g fb (ds.drop k) ρ S) Q EX := by
    intro n
    induction n with
    | zero =>
      intro k hk ρ S hI
      rw [List.drop_eq_nil_of_le (by omega)]
      have : k = ds.length := by omega
      exact fin ρ S (this ▸ hI)
    | succ n ih =>
      intro k hk ρ S hI
      have hlt : k < ds.length := by omega
      rw [List.drop_eq_getElem_cons hlt]
      show Sat (g ds[k] ρ S >>= fun ρ1 => fb ρ1.1 ρ1.2 >>= fun c => match c.1 with
        | .nx => forL g fb (ds.drop (k + 1)) c.2.1 c.2.2
        | .ct => forL g fb (ds.drop (k + 1)) c.2.1 c.2.2
        | .bk => R.ok (.nx, c.2.1, c.2.2)
        | .rt d => R.ok (.rt d, c.2.1, c.2.2)) Q EX
      rw [sat_bind]
      refine (step k ds[k] ρ S (List.getElem?_eq_getElem hlt) hI).imp fun r hr => ?_
      rw [sat_bind]
      refine hr.imp fun c hc => ?_
      obtain ⟨c1, ρ1, S1⟩ := c
      cases c1 with
      | nx => exact ih (k + 1) (by omega) ρ1 S1 hc
      | ct => exact ih (k + 1) (by omega) ρ1 S1 hc
      | bk => exact hc
      | rt d => exact hc
  have := key ds.length 0 (by omega) ρ S h0
  rwa [List.drop_zero] at this
def lpK (g : FG) (fb : FS) (r : List D) (c : Ctl × Env × List D) : R (Ctl × Env × List D) := match c.1 with
  | .nx => forL g fb r c.2.1 c.2.2
  | .ct => forL g fb r c.2.1 c.2.2
  | .bk => R.ok (.nx, c.2.1, c.2.2)
  | .rt d => R.ok (.rt d, c.2.1, c.2.2)
@[simp ↓] theorem wp_lpK_nx {g : FG} {fb : FS} {r : List D} {ρ : Env} {S : List D} {Q : Ctl × Env × List D → Prop} {EX : EXT} : Sat (lpK g fb r (.nx, ρ, S)) Q EX ↔ Sat (forL g fb r ρ S) Q EX := Iff.rfl
@[simp ↓] theorem wp_lpK_ct {g : FG} {fb : FS} {r : List D} {ρ : Env} {S : List D} {Q : Ctl × Env × List D → Prop} {EX : EXT} : Sat (lpK g fb r (.ct, ρ, S)) Q EX ↔ Sat (forL g fb r ρ S) Q EX := Iff.rfl
@[simp ↓] theorem wp_lpK_bk {g : FG} {fb : FS} {r : List D} {ρ : Env} {S : List D} {Q : Ctl × Env × List D → Prop} {EX : EXT} : Sat (lpK g fb r (.bk, ρ, S)) Q EX ↔ Q (.nx, ρ, S) := Iff.rfl
@[simp ↓] theorem wp_lpK_rt {g : FG} {fb : FS} {r : List D} {d : D} {ρ : Env} {S : List D} {Q : Ctl × Env × List D → Prop} {EX : EXT} : Sat (lpK g fb r (.rt d, ρ, S)) Q EX ↔ Q (.rt d, ρ, S) := Iff.rfl
/-- a loop, turn by turn (not for simp by itself) -/
theorem wp_for_cons {g : FG} {fb : FS} {d : D} {r : List D} {ρ : Env} {S : List D} {Q : Ctl × Env × List D → Prop} {EX : EXT} : Sat (forL g fb (d :: r) ρ S) Q EX ↔ Sat (g d ρ S) (fun ρ1 => Sat (fb ρ1.1 ρ1.2) (fun c => Sat (lpK g fb r c) Q EX) EX) EX := by
  show Sat (g d ρ S >>= fun ρ1 => fb ρ1.1 ρ1.2 >>= lpK g fb r) Q EX ↔ _
  rw [wp_bind]
  exact iff_of_eq (congrArg (fun q => Sat _ q EX) (funext fun a => propext wp_bind))
theorem wp_for_nil {g : FG} {fb : FS} {ρ : Env} {S : List D} {Q : Ctl × Env × List D → Prop} {EX : EXT} : Sat (forL g fb [] ρ S) Q EX ↔ Q (.nx, ρ, S) := Iff.rfl
theorem bls_true {α : Type} (l : List α) : D.bls (l.map fun _ => D.bl true) = some (l.map fun _ => true) := by
  induction l with
  | nil => rfl
  | cons a r ih => simp [D.bls, ih]
theorem all_true {α : Type} (l : List α) : allD [.lst (l.map fun _ => D.bl true)] = some (.bl true) := by
  rw [allD_lst, bls_true]
  simp
/-- a comprehension without tests: each item of the result belongs to its item -/
theorem wp_lc {vs : List Nat} {g : FG} {te : FE} {ρ : Env} {Q : List D × List D → Prop} {EX : EXT} (I : List D → Prop) (rel : D → D → Prop) (ds : List D) (hl : ds.length ≤ LINE)
    (step : ∀ d ∈ ds, ∀ S, I S → Sat (g d (wipeE ρ vs) S) (fun r => Sat (te r.1 r.2) (fun y => I y.2 ∧ rel d y.1) EX) EX)
    (fin : ∀ rs S, I S → All2 rel ds rs → Q (rs, S)) {S : List D} (h0 : I S) : Sat (lcL vs g yesT te ρ ds S []) Q EX := by
  have key : ∀ (as bs : List D) (S : List D) (rs : List D), ds = as ++ bs → I S → All2 rel as rs → Sat (lcL vs g yesT te ρ bs S rs) Q EX := by
    intro as bs
    induction bs generalizing as with
    | nil =>
      intro S rs e hI hr
      rw [List.append_nil] at e
      exact fin rs S hI (e ▸ hr)
    | cons b bs ih =>
      intro S rs e hI hr
      show Sat (g b (wipeE ρ vs) S >>= fun ρ1 => yesT ρ1.1 ρ1.2 >>= fun k => if k.1 then te ρ1.1 k.2 >>= fun y => (if rs.length < LINE then lcL vs g yesT te ρ bs y.2 (rs ++ [y.1]) else R.bad) else lcL vs g yesT te ρ bs k.2 rs) Q EX
      rw [sat_bind]
      refine (step b (by rw [e]; simp) S hI).imp fun r hr1 => ?_
      show Sat (te r.1 r.2 >>= fun y => (if rs.length < LINE then lcL vs g yesT te ρ bs y.2 (rs ++ [y.1]) else R.bad)) Q EX
      rw [sat_bind]
      refine hr1.imp fun y hy => ?_
      have h1 : rs.length = as.length := hr.length_eq.symm
      have h2 : as.length < ds.length := by rw [e]; simp
      rw [if_pos (by omega)]
      have happ : ∀ {l1 l2 : List D}, All2 rel l1 l2 → All2 rel (l1 ++ [b]) (l2 ++ [y.1]) := by
        intro l1 l2 h
        induction h with
        | nil => exact .cons hy.2 .nil
        | cons h _ ih => exact .cons h ih
      exact ih (as ++ [b]) y.2 (rs ++ [y.1]) (by rw [e]; simp) hy.1 (happ hr)
  exact key [] ds S [] rfl h0 .nil
end PL
set_option Elab.async false
set_option linter.all false
set_option maxRecDepth 100000
set_option maxHeartbeats 4000000
/-! The helpers that all laws share: what their functions give. -/
namespace LW
open PySem PySem.Spec PyProof.Rows L2 ClX PL
abbrev nm (i : Nat) : FE := fun ρ S => lk ρ i >>= fun d => R.ok (d, S)
def f_cell : FS := (seqS (ifS (tstB (bin2 ltD (nm 1) (callE lenD (consA (nm 0) nilA)))) (retS (bin2 idxD (nm 0) (nm 1))) nxS)
  (seqS (asgS (bin2 modD (bin2 mulD (fun _ S => R.ok (.int 70009, S)) (bin2 addD (bin2 addD (bin2 mulD (nm 1) (nm 1)) (bin2 mulD (fun _ S => R.ok (.int 7, S)) (nm 1))) (fun _ S => R.ok (.int 19, S)))) (fun _ S => R.ok (.int 2147483179, S))) (nmG 2))
  (seqS (forS (seqI itemsL (slcE (nm 0) noneO (someO (fun _ S => R.ok (.int 3, S))))) (nmG 3) (asgS (bin2 modD (bin2 addD (bin2 mulD (nm 2) (fun _ S => R.ok (.int 42019, S))) (nm 3)) (fun _ S => R.ok (.int 2147483179, S))) (nmG 2)))
  (retS (nm 2)))))
abbrev F_cell := runF 4 2 f_cell
def f_pool : FA := (seqN (asgS (ifE (orT (tstB (bin2 ltD (nm 0) (fun _ S => R.ok (.int 0, S)))) (tstB (bin2 geD (nm 0) (bin2 powD (fun _ S => R.ok (.int 10, S)) (fun _ S => R.ok (.int 18, S)))))) (callE absD (consA (nm 0) nilA)) (fun _ S => R.ok (.int 0, S))) (nmG 1))
  (lstF (consA (bin2 modD (nm 0) (fun _ S => R.ok (.int 2147483179, S))) (consA (nm 1) (consA (fun _ S => R.ok (.int 0, S)) nilA)))))
abbrev F_pool := runN 2 1 f_pool
def f_draw : FS := (seqS (asgS (bin2 addD (poolE 2) (fun _ S => R.ok (.int 1, S))) (poolG 2))
  (seqS (asgS (poolE 0) (nmG 2))
  (seqS (asgS (bin2 modD (bin2 addD (bin2 addD (bin2 mulD (nm 2) (bin2 addD (bin2 modD (nm 2) (fun _ S => R.ok (.int 40993, S))) (fun _ S => R.ok (.int 30013, S)))) (bin2 mulD (fun _ S => R.ok (.int 70001, S)) (poolE 2))) (fun _ S => R.ok (.int 9, S))) (fun _ S => R.ok (.int 2147483179, S))) (poolG 0))
  (seqS (ifS (tstB (bin2 gtD (poolE 1) (fun _ S => R.ok (.int 0, S)))) (seqS (asgS (callE divmodD (consA (poolE 1) (consA (nm 1) nilA))) (tupG 2 (consG (poolG 1) (consG (nmG 3) nilG))))
  (retS (nm 3))) nxS)
  (retS (bin2 modD (bin2 fdivD (poolE 0) (fun _ S => R.ok (.int 64, S))) (nm 1)))))))
abbrev F_draw := runP 4 2 f_draw
abbrev P31 : Int := 2147483179
def PoolOk (S : List D) : Prop := ∃ a b c : Int, S = [.int a, .int b, .int c] ∧ 0 ≤ a ∧ a < P31 ∧ 0 ≤ b ∧ 0 ≤ c
theorem atI3 (x y z : D) : L2.atI [x, y, z] 0 = some x ∧ L2.atI [x, y, z] 1 = some y ∧ L2.atI [x, y, z] 2 = some z := ⟨rfl, rfl, rfl⟩
theorem ixN3 : ixN 3 0 = some 0 ∧ ixN 3 1 = some 1 ∧ ixN 3 2 = some 2 := ⟨rfl, rfl, rfl⟩
theorem draw_spec {S : List D} {n : Int} (hS : PoolOk S) (h0 : 0 < n) (h1 : n < 1073741824) : Sat (F_draw S [.int n]) (fun r => ∃ v : Int, r.1 = .int v ∧ 0 ≤ v ∧ v < n ∧ PoolOk r.2) EX0 := by
  obtain ⟨a, b, c, rfl, ha, ha2, hb, hc⟩ := hS
  refine (wp_runP rfl).mpr ?_
  unfold f_draw
  simp [startP, startE, atI3, ixN3]
  refine ⟨.inr ⟨by omega, by omega⟩, ?_⟩
  have hp : PoolOk [D.int ((a * (a % 40993 + 30013) + 70001 * (c + 1) + 9) % 2147483179), D.int (b / n), D.int (c + 1)] := ⟨_, _, _, rfl, Int.emod_nonneg _ (by decide), Int.emod_lt_of_pos _ (by decide), Int.ediv_nonneg hb (by omega), by omega⟩
  have hq : PoolOk [D.int ((a * (a % 40993 + 30013) + 70001 * (c + 1) + 9) % 2147483179), D.int b, D.int (c + 1)] := ⟨_, _, _, rfl, Int.emod_nonneg _ (by decide), Int.emod_lt_of_pos _ (by decide), hb, by omega⟩
  split
  · exact ⟨⟨h0, h1⟩, Int.emod_nonneg _ (by omega), Int.emod_lt_of_pos _ h0, hp⟩
  · exact ⟨h0, Int.emod_nonneg _ (by omega), Int.emod_lt_of_pos _ h0, hq⟩
/-! sums of the first ones -/
def pre (a : List Int) (k : Nat) : Int := (a.take k).sum
theorem pre_zero (a : List Int) : pre a 0 = 0 := by simp [pre]
theorem pre_succ {a : List Int} {i : Nat} {x : Int} (h : a[i]? = some x) : pre a (i + 1) = pre a i + x := by
  unfold pre
  obtain ⟨h1, h2⟩ := List.getElem?_eq_some_iff.mp h
  rw [List.take_succ_eq_append_getElem h1, h2]
  simp
theorem sum_nn : ∀ {l : List Int}, (∀ x ∈ l, 0 ≤ x) → 0 ≤ l.sum
  | [], _ => by simp
  | x :: r, h => by
    have h1 := h x (by simp)
    have h2 := sum_nn (l := r) fun y hy => h y (by simp [hy])
    simp
    omega
structure Flow (a b : List Int) (m : Int) : Prop where
  len : a.length = b.length
  ca : ∀ x ∈ a, 0 ≤ x
  cb : ∀ x ∈ b, 0 ≤ x
  le : ∀ k, k ≤ a.length → pre b k ≤ pre a k
  top : a.sum ≤ m
theorem Flow.nil {m : Int} (h : 0 ≤ m) : Flow [] [] m := ⟨rfl, by simp, by simp, by simp [pre], by simpa using h⟩
theorem rng_at {n i : Nat} {d : D} {lo : Int} (h : ((List.range n).map fun i => D.int (lo + (i : Nat)))[i]? = some d) : i < n ∧ d = .int (lo + i) := by
  rw [List.getElem?_map] at h
  cases q : (List.range n)[i]? with
  | none => rw [q] at h; cases h
  | some k =>
    rw [q] at h
    obtain ⟨h1, h2⟩ := List.getElem?_eq_some_iff.mp q
    simp at h1 h2 h
    subst h2
    exact ⟨h1, h.symm⟩
abbrev intL (a : List Int) : List D := a.map D.int
end LW
set_option Elab.async false
set_option linter.all false
set_option maxRecDepth 100000
set_option maxHeartbeats 4000000
/-! An own class's defs that the language calls: properties, [], str, repr; texts joined. -/
namespace PL
open PySem PySem.Spec PyProof.Rows L2 ClX
section
variable {X : Cx} {z : Z} {O OI OM OO OL : List Nat} {EX : EXT} {a b c e o : Expr} {es : List Expr} {f g h : FE} {fa ga fk : FA} {fs gs : FS} {pos p apos : Pos}
variable {B : List Addr} {P : List (Nat × Addr)} {σ σ' : L2.St} {H H' : Hp} {ρ ρ' : Env} {S S' : List D} {x m : Str}
variable {k : Nat} {fA C : Addr} {fd : FuncData} {ps ks : List Str}
/-! ### e[i], an instance -/
def itmD (cn : Str) (F : List D → R D) (f g : FE) : FE := fun ρ S => f ρ S >>= fun x => g ρ x.2 >>= fun y => match x.1 with
  | .ins c _ _ => if c = cn then noX (F [x.1, y.1]) >>= fun d => R.ok (d, y.2) else R.bad
  | _ => R.bad
/-! ### str(e), repr(e), an instance -/
def strC (cn : Str) (F : List D → R D) (f : FE) : FE := fun ρ S => f ρ S >>= fun x => match x.1 with
  | .ins c _ _ => if c = cn then noX (F [x.1]) >>= fun d => match d with
    | .str y => R.ok (.str y, x.2)
    | _ => R.bad else R.bad
  | _ => R.bad
/-! ### f-strings -/
abbrev FJ := Str → Env → List D → R (Str × List D)
def nilJ : FJ := fun acc _ S => R.ok (acc, S)
def consJ (f : FE) (h : FJ) : FJ := fun acc ρ S => f ρ S >>= fun x => match x.1 with
  | .str y => if (acc ++ y).length ≤ LINE then h (acc ++ y) ρ x.2 else R.bad
  | _ => R.bad
def fmtD : D → Option D
  | .str y => if y.length ≤ LINE then some (.str y) else none
  | .int i => if i.natAbs.log2 < 1920 then some (.str (toString i)) else none
  | _ => none
def jnE (h : FJ) : FE := fun ρ S => h Str.empty ρ S >>= fun r => R.ok (.str r.1, r.2)
/-! ### sep.join(xs) -/
end
end PL
set_option Elab.async false
set_option linter.all false
set_option maxRecDepth 100000
set_option maxHeartbeats 4000000
/-! A value of a usual type declines to be compared with an own class's instance. -/
namespace PL
open PySem PySem.Spec PyProof.Rows L2 ClX GQ SeqAt MeetsSeq AutoSeq1
end PL
set_option Elab.async false
set_option linter.all false
set_option maxRecDepth 100000
set_option maxHeartbeats 4000000
/-! == and != where an own class's instance stands on one side. -/
namespace PL
open PySem PySem.Spec PyProof.Rows L2 ClX
open PySem.W (InstAt Looks)
end PL
set_option Elab.async false
set_option linter.all false
set_option maxRecDepth 100000
set_option maxHeartbeats 4000000
/-! == and != of an own class's instances and data. -/
namespace PL
open PySem PySem.Spec PyProof.Rows L2 ClX
section
variable {X : Cx} {z : Z} {O : List Nat} {EX : EXT} {a b : Expr} {f g : FE} {pos : Pos} {k : Nat} {fA C : Addr} {fd : FuncData} {ps : List Str}
/-- == where an instance of cn stands on one side: its def's answer -/
def eqC (neg : Bool) (cn : Str) (F : List D → R D) (f g : FE) : FE := fun ρ S => f ρ S >>= fun x => g ρ x.2 >>= fun y => (match x.1, y.1 with
  | .ins c ns vs, .ins c' ns' vs' => if c = cn ∧ c' = cn then noX (F [.ins c ns vs, .ins c' ns' vs']) else R.bad
  | .ins _ _ _, .cls _ => R.bad
  | .cls _, .ins _ _ _ => R.bad
  | .ins _ _ _, .exn _ _ _ => R.bad
  | .exn _ _ _, .ins _ _ _ => R.bad
  | .ins c ns vs, d => if c = cn then noX (F [.ins c ns vs, d]) else R.bad
  | d, .ins c ns vs => if c = cn then noX (F [.ins c ns vs, d]) else R.bad
  | _, _ => R.bad) >>= fun d => match d with
  | .bl k => R.ok (.bl (k != neg), y.2)
  | _ => R.bad
end
end PL
set_option Elab.async false
set_option linter.all false
set_option maxRecDepth 100000
set_option maxHeartbeats 4000000
/-! x, y = [], e: some of the values are new lists, owned from there on. -/
namespace PL
open PySem PySem.Spec PyProof.Rows L2 ClX
abbrev FM := Env → List D → R (List (Bool × D) × List D)
def nilM : FM := fun _ S => R.ok ([], S)
def valM (f : FE) (h : FM) : FM := fun ρ S => f ρ S >>= fun x => h ρ x.2 >>= fun y => R.ok ((false, x.1) :: y.1, y.2)
def ownM (f : FA) (h : FM) : FM := fun ρ S => f ρ S >>= fun x => h ρ x.2 >>= fun y => R.ok ((true, .lst x.1) :: y.1, y.2)
section
variable {X : Cx} {z : Z} {O OL : List Nat} {EX : EXT} {a b c e : Expr} {es : List Expr} {f g : FE} {fa : FA} {fm : FM} {pos : Pos}
variable {B : List Addr} {P : List (Nat × Addr)} {σ : L2.St} {H : Hp} {ρ : Env} {S : List D}
/-! ### stored to places -/
def stD : List Nat → List (Bool × D) → Env → R Env
  | [], [], ρ => R.ok ρ
  | i :: is, d :: ds, ρ => setE ρ i d.2 >>= fun ρ1 => stD is ds ρ1
  | _, _, _ => R.bad
def mixS (is : List Nat) (fl : List Bool) (f : FM) : FS := fun ρ S => f ρ S >>= fun x => if x.1.map (·.1) = fl then stD is x.1 ρ >>= fun ρ1 => R.ok (.nx, ρ1, x.2) else R.bad
end
end PL
set_option Elab.async false
set_option linter.all false
set_option maxRecDepth 100000
set_option maxHeartbeats 4000000
/-! sum of lists and tuples of ints. -/
namespace PL
open PySem PySem.Spec PyProof.Rows L2 ClX
section
variable {X : Cx} {z : Z} {O : List Nat} {EX : EXT} {e : Expr} {fa : FA} {p pos : Pos}
def intsA : D → Option (List Int) | .lst ds => D.ints ds | .tup ds => D.ints ds | .scr ns => some ns | _ => none
def sumA : List D → Option D | [x] => (intsA x).map fun ns => .int ns.sum | _ => none
@[simp] theorem sumA_tup (a : List Int) : sumA [.tup (a.map D.int)] = some (.int a.sum) := by
  show (D.ints (a.map D.int)).map _ = _
  rw [D.ints_map]
  rfl
@[simp] theorem sumA_lst (a : List Int) : sumA [.lst (a.map D.int)] = some (.int a.sum) := by
  show (D.ints (a.map D.int)).map _ = _
  rw [D.ints_map]
  rfl
end
end PL
set_option Elab.async false
set_option linter.all false
set_option maxRecDepth 100000
set_option maxHeartbeats 4000000
/-! Texts of printable signs, the texts of data. -/
namespace PL
open PySem PySem.Spec PyProof.Rows L2 ClX
def Nice (n : Nat) (x : Str) : Prop := (∀ c ∈ x.cps.toList, 32 ≤ c ∧ c < 127) ∧ x.length ≤ n
def niceB (n : Nat) (x : Str) : Bool := x.cps.toList.all (fun c => decide (32 ≤ c) && decide (c < 127)) && decide (x.length ≤ n)
theorem nice_of {n : Nat} {x : Str} (h : niceB n x = true) : Nice n x := by
  unfold niceB at h
  simp only [Bool.and_eq_true, List.all_eq_true, decide_eq_true_eq] at h
  exact h
theorem Nice.mono {n m : Nat} {x : Str} (h : Nice n x) (l : n ≤ m) : Nice m x := ⟨h.1, Nat.le_trans h.2 l⟩
theorem len_append (x y : Str) : (x ++ y).length = x.length + y.length := by
  show (x.cps ++ y.cps).size = _
  simp [Str.length]
theorem Nice.append {n m : Nat} {x y : Str} (h : Nice n x) (k : Nice m y) : Nice (n + m) (x ++ y) := by
  refine ⟨fun c hc => ?_, ?_⟩
  · have : c ∈ (x.cps ++ y.cps).toList := hc
    rw [Array.toList_append, List.mem_append] at this
    rcases this with q | q
    · exact h.1 c q
    · exact k.1 c q
  · rw [len_append]
    have := h.2
    have := k.2
    omega
theorem nice_empty {n : Nat} : Nice n Str.empty := ⟨fun c hc => by simp [Str.empty] at hc, Nat.zero_le _⟩
theorem Nice.ok {n : Nat} {x : Str} (h : Nice n x) : PyData.strOk x = true := by
  unfold PyData.strOk
  rw [Array.all_eq_true']
  intro c hc
  have := h.1 c (by simpa using hc)
  simp
  omega
/-- small numbers -/
theorem nat_str (n : Nat) : (Str.ofString (toString (n : Int))) = ⟨((Nat.toDigits 10 n).map Char.toNat).toArray⟩ := by
  rw [Str.ofString_eq_toList]
  have : (toString (n : Int)) = String.ofList (Nat.toDigits 10 n) := rfl
  rw [this, String.toList_ofList]
theorem dig_ok : ∀ n : _root_.Fin 1000, ((Nat.toDigits 10 n.val).all (fun c => decide (32 ≤ c.toNat) && decide (c.toNat < 127)) && decide ((Nat.toDigits 10 n.val).length ≤ 4)) = true := by decide +kernel
theorem nice_int {i : Int} (h0 : 0 ≤ i) (h1 : i < 1000) : Nice 4 (toString i : String) := by
  obtain ⟨n, rfl⟩ := Int.eq_ofNat_of_zero_le h0
  have := dig_ok ⟨n, by omega⟩
  simp only [Bool.and_eq_true, List.all_eq_true, decide_eq_true_eq] at this
  rw [nat_str]
  refine ⟨fun c hc => ?_, ?_⟩
  · obtain ⟨d, hd, rfl⟩ := List.mem_map.mp (show c ∈ (Nat.toDigits 10 n).map Char.toNat by simpa using hc)
    exact this.1 d hd
  · show (Array.size _) ≤ 4
    simpa using this.2
theorem log_small {i : Int} (h0 : 0 ≤ i) (h1 : i < 1000) : i.natAbs.log2 < 1920 := by
  by_cases z : i.natAbs = 0
  · rw [z]; decide
  · exact Nat.lt_trans ((Nat.log2_lt z).mpr (show i.natAbs < 2 ^ 14 by omega)) (by decide)
theorem repr_fold {q : Nat} (hq : 32 ≤ q ∧ q < 127) : ∀ (l : List Nat) (acc : Array Nat), (∀ c ∈ l, 32 ≤ c ∧ c < 127) → (∀ c ∈ acc.toList, 32 ≤ c ∧ c < 127) →
    (∀ c ∈ (l.foldl (fun out c => out ++ (Builtin.Str.reprChar q c).toArray) acc).toList, 32 ≤ c ∧ c < 127) ∧ (l.foldl (fun out c => out ++ (Builtin.Str.reprChar q c).toArray) acc).size ≤ acc.size + 2 * l.length
  | [], acc, _, h => ⟨h, by simp⟩
  | c :: l, acc, hl, h => by
    have pr : ∀ c : _root_.Fin 127, 32 ≤ c.val → Unicode.isPrintable c.val = true := by decide +kernel
    have hc := hl c List.mem_cons_self
    have e : (Builtin.Str.reprChar q c).length ≤ 2 ∧ ∀ d ∈ Builtin.Str.reprChar q c, 32 ≤ d ∧ d < 127 := by
      unfold Builtin.Str.reprChar
      split
      · exact ⟨Nat.le_refl _, fun d hd => by simp at hd; omega⟩
      · rw [if_neg (by simp; omega), if_neg (by simp; omega), if_neg (by simp; omega), if_pos (pr ⟨c, hc.2⟩ hc.1)]
        exact ⟨by simp, fun d hd => by simp at hd; omega⟩
    obtain ⟨h1, h2⟩ := repr_fold hq l (acc ++ (Builtin.Str.reprChar q c).toArray) (fun d hd => hl d (List.mem_cons_of_mem _ hd)) (fun d hd => by
      rw [Array.toList_append, List.mem_append] at hd
      rcases hd with q | q
      · exact h d q
      · exact e.2 d (by simpa using q))
    refine ⟨h1, Nat.le_trans h2 ?_⟩
    rw [Array.size_append, List.length_cons]
    have := e.1
    simp
    omega
theorem nice_repr {n : Nat} {x : Str} (h : Nice n x) : Nice (2 * n + 2) (reprText x) := by
  have hq : 32 ≤ reprQuote x ∧ reprQuote x < 127 := by unfold reprQuote; split <;> omega
  have e : x.cps.foldl (fun out c => out ++ (Builtin.Str.reprChar (reprQuote x) c).toArray) #[reprQuote x] = x.cps.toList.foldl (fun out c => out ++ (Builtin.Str.reprChar (reprQuote x) c).toArray) #[reprQuote x] := by rw [Array.foldl_toList]
  obtain ⟨h1, h2⟩ := repr_fold hq x.cps.toList #[reprQuote x] h.1 (fun c hc => by simp at hc; omega)
  rw [← e] at h1 h2
  unfold reprText
  refine ⟨fun c hc => ?_, ?_⟩
  · rw [Array.toList_push, List.mem_append] at hc
    rcases hc with q | q
    · exact h1 c q
    · simp at q; omega
  · show (Array.push _ _).size ≤ _
    rw [Array.size_push]
    have := h.2
    have hl : x.cps.toList.length = x.length := by simp [Str.length]
    rw [hl] at h2
    have h3 : (#[reprQuote x] : Array Nat).size = 1 := rfl
    omega
/-! the text of data -/
inductive NiceL : Nat → List Str → Prop
  | nil : NiceL 0 []
  | cons {n m : Nat} {t : Str} {ts : List Str} : Nice n t → NiceL m ts → NiceL (n + m + 2) (t :: ts)
theorem nice_tf {m : Nat} {ts : List Str} (h : NiceL m ts) : ∀ (k a : Nat) (acc : Str), Nice a acc → Nice (a + m) (textFrom k acc ts) := by
  induction h with
  | nil => exact fun k a acc h => h
  | @cons n m t ts h1 _ ih =>
    intro k a acc ha
    have e : Nice 2 ((if k > 0 then ", " else "" : String) : Str) := by split <;> exact nice_of (by decide)
    exact (ih (k + 1) _ _ ((ha.append e).append h1)).mono (by omega)
theorem nice_list {m : Nat} {ts : List Str} (h : NiceL m ts) : Nice (m + 2) (listText ts) :=
  ((nice_tf h 0 1 "[" (nice_of (by decide))).append (show Nice 1 ("]" : String) from nice_of (by decide))).mono (by omega)
theorem nice_join {m : Nat} {ts : List Str} (h : NiceL m ts) : Nice m (Str.join ", " ts) := by
  induction h with
  | nil => exact nice_empty
  | @cons n m t ts h1 h2 ih =>
    cases ts with
    | nil => exact h1.mono (by omega)
    | cons u us => exact (((h1.append (show Nice 2 (", " : String) from nice_of (by decide))).append ih)).mono (by omega)
theorem nice_tuple {m : Nat} {ts : List Str} (h : NiceL m ts) : Nice (m + 3) (tupleText ts) := by
  have e : Nice 2 ((if ts.length == 1 then ",)" else ")" : String) : Str) := by split <;> exact nice_of (by decide)
  exact (((show Nice 1 ("(" : String) from nice_of (by decide)).append (nice_join h)).append e).mono (by omega)
mutual
/-- data whose text is nice: n its signs at most, k its depth at most -/
inductive Nd : Nat → Nat → D → Prop
  | non {n k : Nat} : 4 ≤ n → Nd n k .non
  | bl {n k : Nat} (b : Bool) : 5 ≤ n → Nd n k (.bl b)
  | int {n k : Nat} {i : Int} : 0 ≤ i → i < 1000 → 4 ≤ n → Nd n k (.int i)
  | str {n m k : Nat} {x : Str} : Nice m x → 2 * m + 2 ≤ n → Nd n k (.str x)
  | tup {n m k j : Nat} {ds : List D} : NdA m j ds → m + 3 ≤ n → j < k → Nd n k (.tup ds)
  | lst {n m k j : Nat} {ds : List D} : NdA m j ds → m + 2 ≤ n → j < k → Nd n k (.lst ds)
inductive NdA : Nat → Nat → List D → Prop
  | nil {k : Nat} : NdA 0 k []
  | cons {n m k : Nat} {d : D} {ds : List D} : Nd n k d → NdA m k ds → NdA (n + m + 2) k (d :: ds)
end
structure NP (n k : Nat) (p : PyData) : Prop where
  nice : Nice n p.shown
  show_ : p.showable = true
  flat : p.hasDict = false
  deep : p.depth ≤ k
  lay : p.canLay0 = true
structure NPA (n k : Nat) (ps : List PyData) : Prop where
  nice : NiceL n (PyData.shownAll ps)
  show_ : PyData.showableAll ps = true
  flat : PyData.hasDictAll ps = false
  deep : PyData.depthAll ps ≤ k
  lay : PyData.canLayAll0 ps = true
mutual
theorem Nd.py : ∀ {n k : Nat} {d : D}, Nd n k d → ∃ p, toPy d = some p ∧ NP n k p
  | _, _, _, .non h => ⟨_, rfl, ⟨(show Nice 4 ("None" : String) from nice_of (by decide)).mono h, rfl, rfl, Nat.zero_le _, rfl⟩⟩
  | _, _, _, .bl b h => ⟨_, rfl, ⟨by cases b; exact (show Nice 5 ("False" : String) from nice_of (by decide)).mono h; exact (show Nice 5 ("True" : String) from nice_of (by decide)).mono h, rfl, rfl, Nat.zero_le _, rfl⟩⟩
  | _, _, _, .int h0 h1 h => ⟨_, rfl, ⟨(nice_int h0 h1).mono h, by simp only [PyData.showable, decide_eq_true_eq]; exact log_small h0 h1, rfl, Nat.zero_le _, rfl⟩⟩
  | _, _, _, .str hx h => ⟨_, rfl, ⟨by simp only [PyData.shown]; exact (nice_repr hx).mono h, rfl, rfl, Nat.zero_le _, by simp only [PyData.canLay0]; exact hx.ok⟩⟩
  | _, _, _, .tup ha h hk => by
    obtain ⟨ps, e, q⟩ := NdA.py ha
    exact ⟨.tuple ps, by simp only [toPy, e, Option.map_some], ⟨by simp only [PyData.shown]; exact (nice_tuple q.nice).mono h, by simp only [PyData.showable]; exact q.show_, by simp only [PyData.hasDict]; exact q.flat, by simp only [PyData.depth]; have := q.deep; omega, by simp only [PyData.canLay0]; exact q.lay⟩⟩
  | _, _, _, .lst ha h hk => by
    obtain ⟨ps, e, q⟩ := NdA.py ha
    exact ⟨.list ps, by simp only [toPy, e, Option.map_some], ⟨by simp only [PyData.shown]; exact (nice_list q.nice).mono h, by simp only [PyData.showable]; exact q.show_, by simp only [PyData.hasDict]; exact q.flat, by simp only [PyData.depth]; have := q.deep; omega, by simp only [PyData.canLay0]; exact q.lay⟩⟩
theorem NdA.py : ∀ {n k : Nat} {ds : List D}, NdA n k ds → ∃ ps, toPyA ds = some ps ∧ NPA n k ps
  | _, _, _, .nil => ⟨[], rfl, ⟨.nil, rfl, rfl, Nat.zero_le _, rfl⟩⟩
  | _, _, _, .cons h r => by
    obtain ⟨p, e, q⟩ := Nd.py h
    obtain ⟨ps, e2, q2⟩ := NdA.py r
    refine ⟨p :: ps, by simp only [toPyA, e, e2, Option.bind_some, Option.map_some], ⟨.cons q.nice q2.nice, ?_, ?_, ?_, ?_⟩⟩
    · simp only [PyData.showableAll, q.show_, q2.show_, Bool.and_self]
    · simp only [PyData.hasDictAll, q.flat, q2.flat, Bool.or_self]
    · simp only [PyData.depthAll]; exact Nat.max_le.mpr ⟨q.deep, q2.deep⟩
    · simp only [PyData.canLayAll0, q.lay, q2.lay, Bool.and_self]
end
theorem eqD_self {n k : Nat} {d : D} (h : Nd n k d) (hk : k ≤ 64) : eqD d d = some (.bl true) ∧ neD d d = some (.bl false) := by
  obtain ⟨p, e, q⟩ := h.py
  have es : SeqAt.shaped p = true := by
    unfold SeqAt.shaped
    rw [q.lay]
    have := q.deep
    simp
    omega
  have : eqP d d = some true := by
    unfold eqP
    rw [e]
    simp only [Option.bind_some, es, Bool.and_self, if_true]
    rw [SeqAt.eqv_refl p q.lay]
  unfold eqD neD
  rw [this]
  exact ⟨rfl, rfl⟩
end PL
set_option Elab.async false
set_option linter.all false
set_option maxRecDepth 100000
set_option maxHeartbeats 4000000
/-! The program's own defs about counts and stays; cs: the own classes that a law's text has. -/
namespace LW
open PySem PySem.Spec PyProof.Rows L2 ClX PL
section
variable (cs : List Str)
def nm_ini : List Str := ["arrivals", "departures"]
def f_ii : FS := (retS (andV (un1 (isiD (tyK "int") (inst0 cs)) (nm 0)) (andV (notV (un1 (isiD (tyK "bool") (inst0 cs)) (nm 0))) (chn leD leD (nm 1) (nm 0) (nm 2)))))
abbrev F_ii := runF 3 3 (f_ii cs)
def f_cl : FS := (seqS (ifS (orT (notT (tst (un1 (isiD (tyK "tuple") (inst0 cs)) (nm 0)))) (notT (tst (un1 (isiD (tyK "tuple") (inst0 cs)) (nm 1))))) badS nxS)
  (ifS (orT (tstB (bin2 neD (callE lenD (consA (nm 0) nilA)) (callE lenD (consA (nm 1) nilA)))) (notT (tstB (chn leD leD (fun _ S => R.ok (.int 1, S)) (callE lenD (consA (nm 0) nilA)) (fun _ S => R.ok (.int 60, S)))))) badS nxS))
abbrev F_cl := runF 2 2 (f_cl cs)
def f_inu : FS := (retS (callD (F_ii cs) [] (consA (nm 0) (consA (fun _ S => R.ok (.int 0, S)) (consA (fun _ S => R.ok (.int 999, S)) nilA)))))
abbrev F_inu := runF 1 1 (f_inu cs)
def f_cn : FS := (seqS (asgS (fun _ S => R.ok (.int 0, S)) (nmG 2))
  (seqS (asgS (fun _ S => R.ok (.int 0, S)) (nmG 3))
  (forS (enI (rngI zip2D (consA (nm 0) (consA (nm 1) nilA)))) (tupG 2 (consG (nmG 4) (consG (tupG 2 (consG (nmG 5) (consG (nmG 6) nilG))) nilG))) (seqS (ifS (orT (notT (tst (callD (F_inu cs) [] (consA (nm 5) nilA)))) (notT (tst (callD (F_inu cs) [] (consA (nm 6) nilA))))) badS nxS)
  (seqS (asgS (bin2 addD (nm 2) (nm 5)) (nmG 2))
  (seqS (asgS (bin2 subD (bin2 addD (nm 3) (nm 5)) (nm 6)) (nmG 3))
  (ifS (orT (tstB (bin2 gtD (nm 2) (fun _ S => R.ok (.int 999, S)))) (tstB (bin2 ltD (nm 3) (fun _ S => R.ok (.int 0, S))))) badS nxS)))))))
abbrev F_cn := runF 7 2 (f_cn cs)
def f_ini : FS := (seqS (exprS (callD (F_cl cs) [] (consA (nm 1) (consA (nm 2) nilA))))
  (seqS (exprS (callD (F_cn cs) [] (consA (nm 1) (consA (nm 2) nilA))))
  (seqS (slfS nm_ini "arrivals" (nm 1))
  (slfS nm_ini "departures" (nm 2)))))
abbrev F_ini := runI nm_ini 3 3 (f_ini cs)
end
section
variable {cs : List Str}
theorem ii_int (v lo hi : Int) : F_ii cs [.int v, .int lo, .int hi] = R.ok (.bl (decide (lo ≤ v) && decide (v ≤ hi))) := by
  refine eq_sat ((wp_runF rfl).mpr ?_)
  unfold f_ii
  simp [startE, tyK, known, tyB]
  split <;> simp_all <;> omega
theorem inu_int (v : Int) (h0 : 0 ≤ v) (h1 : v ≤ 999) : F_inu cs [.int v] = R.ok (.bl true) := by
  refine eq_sat ((wp_runF rfl).mpr ?_)
  unfold f_inu
  simp [startE]
  refine sat_eq (ii_int v 0 999) ?_
  simp [h0, h1]
theorem cl_ok (a b : List D) (h : a.length = b.length) (h0 : 1 ≤ a.length) (h1 : a.length ≤ 60) : F_cl cs [.tup a, .tup b] = R.ok .non := by
  refine eq_sat ((wp_runF rfl).mpr ?_)
  unfold f_cl
  simp [startE, tyK, known, tyB, ← h]
  omega
theorem enD_at {ds : List D} {i : Nat} {d : D} (h : (enD ds)[i]? = some d) : ∃ x, ds[i]? = some x ∧ d = .tup [.int (i : Nat), x] := by
  unfold enD at h
  rw [List.getElem?_mapIdx] at h
  cases q : ds[i]? with
  | none => rw [q] at h; cases h
  | some x =>
    rw [q] at h
    exact ⟨x, rfl, by simpa using h.symm⟩
theorem rows2_at {xs ys : List D} {n i : Nat} {d : D} (h : (rows [xs, ys] n)[i]? = some d) : i < n ∧ d = .tup [xs.getD i .non, ys.getD i .non] := by
  unfold rows at h
  rw [List.getElem?_map] at h
  cases q : (List.range n)[i]? with
  | none => rw [q] at h; cases h
  | some k =>
    rw [q] at h
    obtain ⟨h1, h2⟩ := List.getElem?_eq_some_iff.mp q
    simp at h1 h2 h
    subst h2
    exact ⟨h1, by simp [← h]⟩
theorem pre_le {a : List Int} (h : ∀ x ∈ a, 0 ≤ x) (k : Nat) : pre a k ≤ a.sum := by
  have e : a.sum = (a.take k).sum + (a.drop k).sum := by rw [← List.sum_append, List.take_append_drop]
  have := sum_nn (l := a.drop k) fun x hx => h x (List.mem_of_mem_drop hx)
  unfold pre
  omega
theorem pre_nn {a : List Int} (h : ∀ x ∈ a, 0 ≤ x) (k : Nat) : 0 ≤ pre a k := sum_nn fun x hx => h x (List.mem_of_mem_take hx)
theorem cn_ok {a b : List Int} {m : Int} (f : Flow a b m) (hm : m ≤ 999) : F_cn cs [.tup (intL a), .tup (intL b)] = R.ok .non := by
  refine eq_sat ((wp_runF rfl).mpr ?_)
  have hl := f.len
  unfold f_cn
  simp [startE, zip2D, hl]
  refine wp_for _ (fun i ρ S => ∃ (o1 o2 o3 : Option D), ρ = [some (.tup (intL a)), some (.tup (intL b)), some (.int (pre a i)), some (.int (pre a i - pre b i)), o1, o2, o3] ∧ S = []) ?_ ?_ ⟨none, none, none, by simp [pre_zero], rfl⟩
  · rintro i d ρ S hd ⟨o1, o2, o3, rfl, rfl⟩
    obtain ⟨x, hx, rfl⟩ := enD_at hd
    obtain ⟨hi, rfl⟩ := rows2_at hx
    have ha : a[i]? = some a[i] := List.getElem?_eq_getElem (by omega)
    have hb : b[i]? = some b[i] := List.getElem?_eq_getElem hi
    have ea : (intL a).getD i .non = .int a[i] := by simp [ha]
    have eb : (intL b).getD i .non = .int b[i] := by simp [hb]
    rw [ea, eb]
    have h1 := pre_succ ha
    have h2 := pre_succ hb
    have h3 := f.ca a[i] (List.getElem_mem _)
    have h4 := f.cb b[i] (List.getElem_mem _)
    have h5 := pre_le f.ca (i + 1)
    have h6 := f.le (i + 1) (by omega)
    have h7 := pre_nn f.ca i
    have h8 := pre_nn f.cb i
    have h9 := f.top
    simp
    refine sat_eq (inu_int _ h3 (by omega)) ?_
    simp
    refine sat_eq (inu_int _ h4 (by omega)) ?_
    simp
    omega
  · rintro ρ S ⟨o1, o2, o3, rfl, rfl⟩
    rfl
theorem ini_ok {a b : List Int} {m : Int} (f : Flow a b m) (hm : m ≤ 999) (h0 : 1 ≤ a.length) (h1 : a.length ≤ 60) : F_ini cs [.tup (intL a), .tup (intL b)] = R.ok [.tup (intL a), .tup (intL b)] := by
  refine eq_sat ((wp_runI rfl).mpr ?_)
  unfold f_ini
  simp [startP, startE]
  refine sat_eq (cl_ok _ _ (by simp [f.len]) (by simpa using h0) (by simpa using h1)) ?_
  refine sat_eq (cn_ok f hm) ?_
  simp [nm_ini]
  decide +kernel
abbrev cnt (a b : List D) : D := .ins "Counts" ["arrivals", "departures"] [.tup a, .tup b]
end
end LW
set_option Elab.async false
set_option linter.all false
set_option maxRecDepth 100000
set_option maxHeartbeats 4000000
/-! What is wanted of a result: the forms of PLD, PLF, PLH. -/
namespace PL
open PySem PySem.Spec PyProof.Rows L2 ClX
@[simp ↓] theorem wp_itmD {cn : Str} {F : List D → R D} {f g : FE} {ρ : Env} {S : List D} {Q : D × List D → Prop} {EX : EXT} : Sat (itmD cn F f g ρ S) Q EX ↔ Sat (f ρ S >>= fun x => g ρ x.2 >>= fun y => match x.1 with
  | .ins c _ _ => if c = cn then noX (F [x.1, y.1]) >>= fun d => R.ok (d, y.2) else R.bad
  | _ => R.bad) Q EX := Iff.rfl
@[simp ↓] theorem wp_strC {cn : Str} {F : List D → R D} {f : FE} {ρ : Env} {S : List D} {Q : D × List D → Prop} {EX : EXT} : Sat (strC cn F f ρ S) Q EX ↔ Sat (f ρ S >>= fun x => match x.1 with
  | .ins c _ _ => if c = cn then noX (F [x.1]) >>= fun d => match d with
    | .str y => R.ok (.str y, x.2)
    | _ => R.bad else R.bad
  | _ => R.bad) Q EX := Iff.rfl
@[simp ↓] theorem wp_jnE {h : FJ} {ρ : Env} {S : List D} {Q : D × List D → Prop} {EX : EXT} : Sat (jnE h ρ S) Q EX ↔ Sat (h Str.empty ρ S >>= fun r => R.ok (.str r.1, r.2)) Q EX := Iff.rfl
@[simp ↓] theorem wp_nilJ {acc : Str} {ρ : Env} {S : List D} {Q : Str × List D → Prop} {EX : EXT} : Sat (nilJ acc ρ S) Q EX ↔ Q (acc, S) := Iff.rfl
@[simp ↓] theorem wp_consJ {f : FE} {h : FJ} {acc : Str} {ρ : Env} {S : List D} {Q : Str × List D → Prop} {EX : EXT} : Sat (consJ f h acc ρ S) Q EX ↔ Sat (f ρ S >>= fun x => match x.1 with
  | .str y => if (acc ++ y).length ≤ LINE then h (acc ++ y) ρ x.2 else R.bad
  | _ => R.bad) Q EX := Iff.rfl
@[simp ↓] theorem wp_eqC {neg : Bool} {cn : Str} {F : List D → R D} {f g : FE} {ρ : Env} {S : List D} {Q : D × List D → Prop} {EX : EXT} : Sat (eqC neg cn F f g ρ S) Q EX ↔ Sat (f ρ S >>= fun x => g ρ x.2 >>= fun y => (match x.1, y.1 with
  | .ins c ns vs, .ins c' ns' vs' => if c = cn ∧ c' = cn then noX (F [.ins c ns vs, .ins c' ns' vs']) else R.bad
  | .ins _ _ _, .cls _ => R.bad
  | .cls _, .ins _ _ _ => R.bad
  | .ins _ _ _, .exn _ _ _ => R.bad
  | .exn _ _ _, .ins _ _ _ => R.bad
  | .ins c ns vs, d => if c = cn then noX (F [.ins c ns vs, d]) else R.bad
  | d, .ins c ns vs => if c = cn then noX (F [.ins c ns vs, d]) else R.bad
  | _, _ => R.bad) >>= fun d => match d with
  | .bl k => R.ok (.bl (k != neg), y.2)
  | _ => R.bad) Q EX := Iff.rfl
@[simp ↓] theorem wp_nilM {ρ : Env} {S : List D} {Q : List (Bool × D) × List D → Prop} {EX : EXT} : Sat (nilM ρ S) Q EX ↔ Q ([], S) := Iff.rfl
@[simp ↓] theorem wp_valM {f : FE} {h : FM} {ρ : Env} {S : List D} {Q : List (Bool × D) × List D → Prop} {EX : EXT} : Sat (valM f h ρ S) Q EX ↔ Sat (f ρ S >>= fun x => h ρ x.2 >>= fun y => R.ok ((false, x.1) :: y.1, y.2)) Q EX := Iff.rfl
@[simp ↓] theorem wp_ownM {f : FA} {h : FM} {ρ : Env} {S : List D} {Q : List (Bool × D) × List D → Prop} {EX : EXT} : Sat (ownM f h ρ S) Q EX ↔ Sat (f ρ S >>= fun x => h ρ x.2 >>= fun y => R.ok ((true, .lst x.1) :: y.1, y.2)) Q EX := Iff.rfl
@[simp ↓] theorem wp_mixS {is : List Nat} {fl : List Bool} {f : FM} {ρ : Env} {S : List D} {Q : Ctl × Env × List D → Prop} {EX : EXT} : Sat (mixS is fl f ρ S) Q EX ↔ Sat (f ρ S >>= fun x => if x.1.map (·.1) = fl then stD is x.1 ρ >>= fun ρ1 => R.ok (.nx, ρ1, x.2) else R.bad) Q EX := Iff.rfl
@[simp ↓] theorem wp_stD_nil {ρ : Env} {Q : Env → Prop} {EX : EXT} : Sat (stD [] [] ρ) Q EX ↔ Q ρ := Iff.rfl
@[simp ↓] theorem wp_stD_cons {i : Nat} {is : List Nat} {d : Bool × D} {ds : List (Bool × D)} {ρ : Env} {Q : Env → Prop} {EX : EXT} : Sat (stD (i :: is) (d :: ds) ρ) Q EX ↔ Sat (setE ρ i d.2 >>= fun ρ1 => stD is ds ρ1) Q EX := Iff.rfl
@[simp] theorem kindD_str (x : Str) : kindD "str" (.str x) = true := rfl
@[simp] theorem fmtD_int (i : Int) : fmtD (.int i) = if i.natAbs.log2 < 1920 then some (.str (toString i)) else none := rfl
@[simp] theorem fmtD_str (x : Str) : fmtD (.str x) = if x.length ≤ LINE then some (.str x) else none := rfl
@[simp] theorem strD_int (i : Int) : strD [.int i] = if i.natAbs.log2 < 1920 then some (.str (toString i)) else none := rfl
@[simp] theorem addD_str (a b : Str) : addD (.str a) (.str b) = if a.length + b.length ≤ LINE then some (.str (a ++ b)) else none := by
  show (none : Option D).or ((addS (.str a) (.str b)).or ((none : Option D).or (none : Option D))) = _
  simp only [addS, Option.none_or, Option.or_none]
end PL
set_option Elab.async false
set_option linter.all false
set_option maxRecDepth 100000
set_option maxHeartbeats 4000000
/-! The law's own call where lambdas are made: tables of code objects stand in the heap. -/
namespace PL
open PySem PySem.Spec PyProof.Rows L2
end PL
set_option Elab.async false
set_option linter.all false
set_option maxRecDepth 100000
set_option maxHeartbeats 4000000
/-! min(l, key=f) in the hand layer; a lambda of one parameter that is called where it was made. -/
namespace PL
open PySem PySem.Spec PyProof.Rows L2
end PL
set_option Elab.async false
set_option linter.all false
set_option maxRecDepth 100000
set_option maxHeartbeats 4000000
/-! A lambda of one parameter, called where it was made. -/
namespace PL
open PySem PySem.Spec PyProof.Rows L2
end PL
set_option Elab.async false
set_option linter.all false
set_option maxRecDepth 100000
set_option maxHeartbeats 4000000
/-! A lambda made: the one table that its maker has grows, nothing else. -/
namespace PL
open PySem PySem.Spec PyProof.Rows L2
end PL
set_option Elab.async false
set_option linter.all false
set_option maxRecDepth 100000
set_option maxHeartbeats 4000000
/-! min(e, key=lambda a: ..) over plain data. -/
namespace PL
open PySem PySem.Spec PyProof.Rows L2
def keysL (fb : FE) (ρ : Env) (S : List D) : List D → R (List Int)
  | [] => R.ok []
  | d :: r => noX (fb (some d :: ρ) S) >>= fun y => match y.1 with
    | .int k => keysL fb ρ S r >>= fun ks => R.ok (k :: ks)
    | _ => R.bad
def argK (ks : List Int) : Nat := argBest (fun i j => decide (ks.getD i 0 < ks.getD j 0)) (ks.length - 1)
def minLamE (f fb : FE) : FE := fun ρ S => f ρ S >>= fun x => match x.1 with
  | .lst ds => keysL fb ρ x.2 ds >>= fun ks => R.of (if ds = [] then none else ds[argK ks]?) >>= fun d => R.ok (d, x.2)
  | _ => R.bad
section
variable {X : Cx} {z : Z} {EX : EXT} {B : List Addr} {σ : L2.St} {H H' : Hp} {ρ : Env} {S : List D}
theorem Rel.push {v : V} {d : D} (r : Rel z B [] σ H ρ S) (hz : z.pl = none) (hk : z.kp = []) (hv : Rp z.K z.ca (Frz H (z.L B [])) v d) : Rel z B [] (some v :: σ) H (some d :: ρ) S where
  val := fun i d' n e => by
    cases i with
    | zero =>
      cases e
      exact ⟨v, rfl, hv⟩
    | succ i => exact r.val i d' (fun p hp => nomatch hp) e
  own := fun p hp => nomatch hp
  pool := fun i a e => by rw [hz] at e; cases e
  nd := r.nd
  there := r.there
  ex := r.ex
  new := fun p hp => nomatch hp
  len := congrArg (· + 1) r.len
  tabs := r.tabs
  xt := ⟨r.xt.1, fun i hi => by rw [hk] at hi; cases hi⟩
end
@[simp ↓] theorem wp_minLam {f fb : FE} {ρ : Env} {S : List D} {Q : D × List D → Prop} {EX : EXT} : Sat (minLamE f fb ρ S) Q EX ↔ Sat (f ρ S >>= fun x => match x.1 with
  | .lst ds => keysL fb ρ x.2 ds >>= fun ks => R.of (if ds = [] then none else ds[argK ks]?) >>= fun d => R.ok (d, x.2)
  | _ => R.bad) Q EX := Iff.rfl
end PL
set_option Elab.async false
set_option linter.all false
set_option maxRecDepth 100000
set_option maxHeartbeats 4000000
/-! min of a list of ints, its place. -/
namespace PL
open PySem PySem.Spec PyProof.Rows L2
section
variable {X : Cx} {z : Z} {O : List Nat} {EX : EXT} {e o : Expr} {f : FE} {fa : FA} {p pos apos : Pos}
def leastI : List Int → Int
  | [] => 0
  | [x] => x
  | x :: y :: r => if leastI (y :: r) < x then leastI (y :: r) else x
end
end PL
set_option Elab.async false
set_option linter.all false
set_option maxRecDepth 100000
set_option maxHeartbeats 4000000
/-! Defs that make lambdas; the law's end with tables; an owned list handed back. -/
namespace PL
open PySem PySem.Spec PyProof.Rows L2
/-- return x, x an owned list: a new list -/
def ownN (i : Nat) : FA := fun ρ S => lk ρ i >>= fun d => match d with
  | .lst ds => R.ok (ds, S)
  | _ => R.bad
/-! the goal that k_head leaves, where the def nm makes lambdas -/
@[simp ↓] theorem wp_ownN {i : Nat} {ρ : Env} {S : List D} {Q : List D × List D → Prop} {EX : EXT} : Sat (ownN i ρ S) Q EX ↔ Sat (lk ρ i >>= fun d => match d with
  | .lst ds => R.ok (ds, S)
  | _ => R.bad) Q EX := Iff.rfl
end PL
set_option Elab.async false
set_option linter.all false
set_option maxRecDepth 100000
set_option maxHeartbeats 4000000
/-! xs[::-1] of a tuple. -/
namespace PL
open PySem PySem.Spec PyProof.Rows L2 HT
section
variable {X : Cx} {z : Z} {O : List Nat} {EX : EXT} {e : Expr} {f : FE} {pos : Pos}
def revD : D → Option D | .tup ds => some (.tup ds.reverse) | _ => none
theorem RpA.reverse {K : PySem.W.Frag} {ca : Str → Option Addr} {F : Hp} : ∀ {xs : List V} {ds : List D}, RpA K ca F xs ds → RpA K ca F xs.reverse ds.reverse
  | _, _, .nil => .nil
  | _, _, .cons h r => by
    rw [List.reverse_cons, List.reverse_cons]
    exact (RpA.reverse r).append (.cons h .nil)
end
end PL
set_option Elab.async false
set_option linter.all false
set_option maxRecDepth 100000
set_option maxHeartbeats 4000000
/-! A class as a value: what it holds, its making, its classmethods. -/
namespace PL
open PySem PySem.Spec PyProof.Rows L2 ClX
section
variable {X : Cx} {z : Z} {O : List Nat} {EX : EXT} {e o : Expr} {es : List Expr} {f fx : FE} {fa : FA} {C fA : Addr} {fd : FuncData} {k : Nat} {ps : List Str} {x m : Str} {p pos apos : Pos} {sp : Sp} {E : XK} {tx ta : TE} {t : TA}
def clsConD (cn : Str) (d0 : D) : D → Option D | .cls c => if c = cn then some d0 else none | _ => none
def mkV (cn : Str) (nm : List Str) (F : List D → R (List D)) (n : Nat) (ix : List Nat) (fx : FE) (fa : FA) : FE := fun ρ S => fx ρ S >>= fun c => match c.1 with
  | .cls c' => if c' = cn then mkI cn nm F n 0 ix fa nilA ρ c.2 else R.bad
  | _ => R.bad
def cmD (cn : Str) (F : List D → R D) (fa : FA) : FE := fun ρ S => fa ρ S >>= fun x => noX (F (.cls cn :: x.1)) >>= fun d => R.ok (d, x.2)
/-! ### own + -/
def addC (cn : Str) (F : List D → R D) (f g : FE) : FE := fun ρ S => f ρ S >>= fun x => g ρ x.2 >>= fun y => match x.1, y.1 with
  | .ins c _ _, .ins c' _ _ => if c = cn ∧ c' = cn then noX (F [x.1, y.1]) >>= fun d => R.ok (d, y.2) else R.bad
  | _, _ => R.bad
/-! ### what is wanted of them -/
@[simp ↓] theorem wp_addC {cn : Str} {F : List D → R D} {f g : FE} {ρ : Env} {S : List D} {Q : D × List D → Prop} {EX : EXT} : Sat (addC cn F f g ρ S) Q EX ↔ Sat (f ρ S >>= fun x => g ρ x.2 >>= fun y => match x.1, y.1 with
  | .ins c _ _, .ins c' _ _ => if c = cn ∧ c' = cn then noX (F [x.1, y.1]) >>= fun d => R.ok (d, y.2) else R.bad
  | _, _ => R.bad) Q EX := Iff.rfl
@[simp ↓] theorem wp_cmD {cn : Str} {F : List D → R D} {fa : FA} {ρ : Env} {S : List D} {Q : D × List D → Prop} {EX : EXT} : Sat (cmD cn F fa ρ S) Q EX ↔ Sat (fa ρ S >>= fun x => noX (F (.cls cn :: x.1)) >>= fun d => R.ok (d, x.2)) Q EX := Iff.rfl
@[simp ↓] theorem wp_mkV {cn : Str} {nm : List Str} {F : List D → R (List D)} {n : Nat} {ix : List Nat} {fx : FE} {fa : FA} {ρ : Env} {S : List D} {Q : D × List D → Prop} {EX : EXT} : Sat (mkV cn nm F n ix fx fa ρ S) Q EX ↔ Sat (fx ρ S >>= fun c => match c.1 with
  | .cls c' => if c' = cn then mkI cn nm F n 0 ix fa nilA ρ c.2 else R.bad
  | _ => R.bad) Q EX := Iff.rfl
@[simp] theorem clsConD_cls {c cn : Str} {d0 : D} : clsConD cn d0 (.cls c) = if c = cn then some d0 else none := rfl
@[simp] theorem revD_tup {ds : List D} : revD (.tup ds) = some (.tup ds.reverse) := rfl
end
end PL
set_option Elab.async false
set_option linter.all false
set_option maxRecDepth 100000
set_option maxHeartbeats 4000000
/-! min(t), a tuple of ints. -/
namespace PL
open PySem PySem.Spec PyProof.Rows L2 ClX
section
variable {X : Cx} {z : Z} {O : List Nat} {EX : EXT} {e : Expr} {fa : FA} {p pos : Pos}
def tupI : D → Option (List Int) | .tup ds => D.ints ds | _ => none
def minTD : List D → Option D | [x] => (tupI x).bind fun ns => if ns = [] then none else some (.int (leastI ns)) | _ => none
@[simp] theorem minTD_tup (a : List Int) : minTD [.tup (a.map D.int)] = if a = [] then none else some (.int (leastI a)) := by
  show ((D.ints (a.map D.int)).bind _) = _
  rw [D.ints_map]
  rfl
end
end PL
set_option Elab.async false
set_option linter.all false
set_option maxRecDepth 100000
set_option maxHeartbeats 4000000
/-! Own exceptions over ValueError, LookupError, ArithmeticError: made, their attributes stored. -/
namespace PL
open PySem PySem.Spec PyProof.Rows L2 Builtin.ObjectAttr
/-- what the written part says of such a class -/
structure OxC (K : PySem.W.Frag) (C : Addr) (bmB : List Value) (newId : String) : Prop where
  q : PySem.W.excInitIn K C bmB newId = true
  ov : PySem.W.excOver K C bmB = true
  hd : PySem.W.hasDictIn K C = true
  sa : PySem.W.findIn K (.ref C) "__setattr__" = some (some (.builtin "object.__setattr__"))
  exC : PySem.W.subIn K (.ref C) (.type "BaseException") = some true
  tyC : PySem.W.typeIn K (.ref C) = some (.type "type")
  kC : PySem.W.keepIn K (.ref C) = true
section
variable {X : Cx} {pins : List (Addr × Obj)} {σ : L2.St} {H : Hp} {s : Shared} {a C dx : Addr} {f : Str} {y : V} {u : Value} {fs : List (Str × V)} {Q : Unit → Shared → Prop} {E : Value → Shared → Prop} {A : Around} {bmB : List Value} {B newId initId : String}
/-- the exception at a has got its dict at dx -/
theorem Inv.exn_dict {hp h' : Heap} {g : Array GenState} {d : Drawn} {t t' : Nat} {os : OsState} {mA : Str → Option Value} {t1 : Addr} (I : Inv X pins σ H ⟨hp, g, d, t, os⟩) (e : H a = some (exo a C none)) (dn : hp.objs.size ≤ dx) (dne : dx ≠ a)
    (k : ∀ b o, b ≠ a → hp.get? b = some o → h'.get? b = some o) (hx : h'.get? a = some ({ cls := .ref C, dict := some dx, data := .fields #[.ref t1, .none, .none, .none, .bool false, .none] } : Obj)) (hn : h'.Ns1 dx mA) (rel : ∀ f, RelO (fs.lookup f) (mA f)) :
    Inv X pins σ (upd (upd H dx (exd dx fs)) a (exo a C (some dx))) ⟨h', g, d, t', os⟩ := by
  have nd := I.hok.fresh dn
  have lt : ∀ {b : Addr} {o : Obj}, hp.get? b = some o → b ≠ dx := fun {b o} w => Nat.ne_of_lt (Nat.lt_of_lt_of_le (Heap.lt_size w) dn)
  have nn : ∀ {b : Addr}, H b = none → b ≠ a := fun {b} n w => by
    subst w
    rw [n] at e
    cases e
  have go : ∀ {b : Addr} {o : HO}, b ≠ a → b ≠ dx → (upd (upd H dx (exd dx fs)) a (exo a C (some dx))) b = H b := fun {b o} h1 h2 => (upd_ne h1).trans (upd_ne h2)
  have U : Un X.fs [] H (upd (upd H dx (exd dx fs)) a (exo a C (some dx))) hp h' := by
    constructor
    · intro b o w n _ _
      exact k b o (nn n) w
    · intro b o w n _ _
      exact ⟨o.slots, k b o (nn n) w⟩
    · intro b o w n _
      rw [go (o := .own a) (nn n) (lt w)]
      exact n
    · intro b o w _
      by_cases hb : b = a
      · subst hb
        exact ⟨_, hx⟩
      · exact ⟨o, k b o hb w⟩
    · intro b xs w
      rw [go (o := .own a) (at_ne e w exo_tup) (ne_of_none w nd)]
      exact w
    · intro b o v w
      rw [go (o := .own a) (at_ne e w exo_frz) (ne_of_none w nd)]
      exact w
    · intro b ps w
      refine ⟨#[], ?_⟩
      rw [go (o := .own a) (at_ne e w exo_tbl) (ne_of_none w nd), w]
      simp
  refine I.un (t' := t') U fun b o w => ?_
  by_cases hb : b = a
  · subst hb
    rw [upd_same] at w
    cases w
    exact exo_ok hx
  · rw [upd_ne hb] at w
    by_cases hd : b = dx
    · subst hd
      rw [upd_same] at w
      cases w
      exact exd_ok hn rel
    · rw [upd_ne hd] at w
      have own_a : ∀ {c : Addr}, H c = some (.own b) → c ≠ a := fun {c} hc => at_ne e hc exo_own
      refine (I.hok b o w).stay (fun c v hc z => k c v (hc.elim (fun z9 => z9 ▸ hb) own_a) z) (fun c hc => ?_) fun c xs hc => ?_
      · rw [go (o := .own a) (own_a hc) (ne_of_none hc nd)]
        exact hc
      · rw [go (o := .own a) (at_ne e hc exo_tup) (ne_of_none hc nd)]
        exact hc
theorem taker_none {K : PySem.W.Frag} (hno : PySem.W.findIn K (.ref C) f = some none) : PySem.W.takerIn K C f = some none := by
  unfold PySem.W.takerIn
  rw [hno]
  rfl
/-- self.f = y, the first one -/
theorem xst_new (SF : StoreFacts B bmB "object.__setattr__" "object") (T : OxC X.K C bmB newId) (I : Inv X pins σ H s) (e : H a = some (exo a C none)) (hno : PySem.W.findIn X.K (.ref C) f = some none) (ry : RelV y u)
    (h : ∀ dx s', H dx = none → dx ≠ a → Inv X pins σ (upd (upd H dx (exd dx [(f, y)])) a (exo a C (some dx))) s' → Q () s') : wpAny (model X.prog X.w) A (setAttr (.ref a) f u) Q E s := by
  obtain ⟨t1, ho⟩ := exo_at I.hok e
  obtain ⟨hp, g, d, t, os⟩ := s
  have kin : X.K.In hp := I.kIn
  obtain ⟨cd, hc, hd'⟩ := PySem.W.any_some T.hd
  have iat : PySem.W.InstAt hp a ({ cls := .ref C, dict := none, data := .fields #[.ref t1, .none, .none, .none, .bool false, .none] } : Obj) C none := ⟨ho, rfl, rfl, trivial⟩
  have has : a ≠ hp.objs.size := Nat.ne_of_lt (Heap.lt_size ho)
  refine PySem.W.set_plain kin iat T.sa (PySem.W.osa_openX (s := ⟨hp, g, d, t + 1, os⟩) SF kin iat T.ov (taker_none hno) fun b => ?_)
  refine wpAny_bind (wpAny_pure (wpAny_bind (PySem.W.instanceDict_exc (t := t1) (c2 := .none) ho (PySem.W.looks_clsIn kin hc) hd' ?_)))
  show wpAny _ _ (storeInDict hp.objs.size (.str f t) f u) _ _ _
  have ho2 := Heap.get?_push_of_some (h := hp) (PySem.W.dictOf [] 0) ho
  refine PySem.HandSPX.store_in_new ⟨_, #[], _, (Heap.get?_update_ne _ _ _ _ has.symm).trans (Heap.get?_push_at rfl rfl), rfl, fun q hq => absurd hq (by simp), fun _ => rfl⟩ fun h' tk' hn hs => ?_
  have hx : h'.get? a = some ({ cls := .ref C, dict := some hp.objs.size, data := .fields #[.ref t1, .none, .none, .none, .bool false, .none] } : Obj) := (hs.2 a has).trans (Heap.get?_update_self _ ho2 rfl)
  refine h hp.objs.size _ (I.hok.fresh (Nat.le_refl _)) has.symm (Inv.exn_dict I e (Nat.le_refl _) has.symm (fun b o hb ho' => ?_) hx hn (relO_put (fs := []) ry fun g => True.intro))
  · exact (hs.2 b (Nat.ne_of_lt (Heap.lt_size ho'))).trans ((Heap.get?_update_ne _ _ _ _ hb).trans (Heap.get?_push_of_some _ ho'))
/-- .. a further one -/
theorem xst_old (SF : StoreFacts B bmB "object.__setattr__" "object") (T : OxC X.K C bmB newId) (I : Inv X pins σ H s) (e : H a = some (exo a C (some dx))) (ed : H dx = some (exd dx fs)) (hl : fs.length ≤ 900) (hno : PySem.W.findIn X.K (.ref C) f = some none) (ry : RelV y u)
    (h : ∀ s', Inv X pins σ (upd H dx (exd dx ((f, y) :: fs))) s' → Q () s') : wpAny (model X.prog X.w) A (setAttr (.ref a) f u) Q E s := by
  obtain ⟨t1, ho⟩ := exo_at I.hok e
  obtain ⟨mA, hns, rel⟩ := exd_at I.hok ed
  have hw := within_of rel
  obtain ⟨hp, g, d, t, os⟩ := s
  obtain ⟨oD, _, _, hoD, _, _⟩ := hns.count hw
  have kin : X.K.In hp := I.kIn
  obtain ⟨cd, hc, hd'⟩ := PySem.W.any_some T.hd
  have iat : PySem.W.InstAt hp a ({ cls := .ref C, dict := some dx, data := .fields #[.ref t1, .none, .none, .none, .bool false, .none] } : Obj) C (some oD) := ⟨ho, rfl, rfl, hoD⟩
  refine PySem.W.set_plain kin iat T.sa (PySem.W.osa_openX (s := ⟨hp, g, d, t + 1, os⟩) SF kin iat T.ov (taker_none hno) fun b => ?_)
  refine wpAny_bind (wpAny_pure (wpAny_bind (wpAny_bind (wpAny_loadPart ho (wpAny_bind ((PySem.W.looks_clsIn kin hc).here ?_))))))
  rw [hd']
  refine wpAny_pure (a := some dx) ?_
  show wpAny _ _ (storeInDict dx (.str f t) f u) _ _ _
  refine PySem.OEX.store_in_old hns hw (by rw [List.length_map]; omega) fun h' tk' hn hs => ?_
  refine h _ (I.write (t' := tk') (x := dx) (e := dx) (o := exd dx ((f, y) :: fs)) (by rw [ed]; exact True.intro) (.inl rfl) (fun b o hb z => (hs.2 b hb).trans z) ?_ (exd_ok hn (relO_put ry rel)))
  obtain ⟨o, _, _, w, _⟩ := hn
  exact ⟨o, w⟩
end
end PL
set_option Elab.async false
set_option linter.all false
set_option maxRecDepth 100000
set_option maxHeartbeats 4000000
namespace PL
open PySem PySem.Spec PyProof.Rows L2
/-- an exception class of one's own, as it is made: over the base B -/
structure OxB (K : PySem.W.Frag) (C : Addr) : Prop where
  ex : ∃ (B newId initId : String) (bmB : List Value), ExcBaseFacts B newId initId bmB ∧ StoreFacts B bmB "object.__setattr__" "object" ∧ OxC K C bmB newId
theorem OxB.kC {K : PySem.W.Frag} {C : Addr} (h : OxB K C) : PySem.W.keepIn K (.ref C) = true := by
  obtain ⟨_, _, _, _, _, _, t⟩ := h.ex
  exact t.kC
theorem oxb_V {K : PySem.W.Frag} {C : Addr} (t : OxC K C [.type "ValueError", .type "Exception", .type "BaseException", .type "object"] "ValueError.__new__") : OxB K C := ⟨_, _, _, _, PySem.F.excBase_ValueError, PySem.F.store_ValueError, t⟩
theorem oxb_L {K : PySem.W.Frag} {C : Addr} (t : OxC K C [.type "LookupError", .type "Exception", .type "BaseException", .type "object"] "LookupError.__new__") : OxB K C := ⟨_, _, _, _, PySem.F.excBase_LookupError, PySem.F.store_LookupError, t⟩
theorem oxb_A {K : PySem.W.Frag} {C : Addr} (t : OxC K C [.type "ArithmeticError", .type "Exception", .type "BaseException", .type "object"] "ArithmeticError.__new__") : OxB K C := ⟨_, _, _, _, PySem.F.excBase_ArithmeticError, PySem.F.store_ArithmeticError, t⟩
/-- self.f = e of an exception that is being made -/
def tSlx (C : Addr) (f : Str) (to te : TE) : TS := fun D σ H => te σ H fun y H1 => to σ H1 fun x H2 => ∃ a : Addr, x = .ref a ∧
  ((H2 a = some (exo a C none) ∧ ∀ dx, H2 dx = none → dx ≠ a → D.nx σ (upd (upd H2 dx (exd dx [(f, y)])) a (exo a C (some dx)))) ∨
    ∃ (dx : Addr) (fs : List (Str × V)), H2 a = some (exo a C (some dx)) ∧ H2 dx = some (exd dx fs) ∧ fs.length ≤ 900 ∧ D.nx σ (upd H2 dx (exd dx ((f, y) :: fs))))
theorem ps_slx {X : Cx} {C : Addr} {o e : Expr} {to te : TE} {f : Str} {p1 pos : Pos} (T : OxB X.K C) (hno : PySem.W.findIn X.K (.ref C) f = some none) (ho : PE X o to) (he : PE X e te) (hs : swapsWith e (some (.Attribute o f p1)) pos.line X.env = pure false := by rfl) :
    PS X (.Assign [.Attribute o f p1] e pos) (tSlx C f to te) := by
  obtain ⟨B, newId, initId, bmB, FB, SF, T⟩ := T.ex
  constructor
  intro pins s σ H D I h
  refine plainObj_wpAny_Assign_Attribute (thn (he.run pins s σ H _ I h) fun v s1 hv => ?_) hs
  obtain ⟨y, H1, I1, r1, q1⟩ := hv
  refine thn (ho.run pins s1 σ H1 _ I1 q1) fun u s2 hu => ?_
  obtain ⟨x, H2, I2, r2, a, rfl, q⟩ := hu
  obtain rfl : u = Value.ref a := r2
  rcases q with ⟨ea, q⟩ | ⟨dx, fs, ea, ed, hl, q⟩
  · exact xst_new SF T I2 ea hno r1 fun dx s' n ne J => ⟨σ, _, J, q dx n ne⟩
  · exact xst_old SF T I2 ea ed hl hno r1 fun s' J => ⟨σ, _, J, q⟩
/-- an exception's __init__: the attributes fs, in the order in which they are stored -/
def spXI (C : Addr) (fs : List Str) : Sp := fun vs H Q _ => ∃ (a : Addr) (ws : List V), vs = .ref a :: ws ∧ ws.length = fs.length ∧ H a = some (exo a C none) ∧
  ∀ (dx : Addr) (H' : Hp), H dx = none → dx ≠ a → H' a = some (exo a C (some dx)) → H' dx = some (exd dx (fs.zip ws).reverse) → (∀ b, b ≠ a → b ≠ dx → H' b = H b) → Q .non H'
section
variable {Pg : Program} {w : World} {K : PySem.W.Frag} {mg : Str → Option Value} {base : Heap} {C fA : Addr} {fd : FuncData} {x qual sx f g : Str} {st : Stmt} {p0 p1 p2 p3 p4 p5 pos pos' : Pos}
theorem fn_x1 (T : OxB K C) (F : Fun K x qual st fA fd) (Sc : FnScope [sx, f] [sx, f] (defScope st)) (hb : defBody st = [.Assign [.Attribute (.Name sx p0) f p1] (.Name f p2) pos]) (hno : PySem.W.findIn K (.ref C) f = some none)
    (v0 : Vis (defScope st) sx) (v1 : Vis (defScope st) f) (d0 : (sx == ("__debug__" : Str)) = false) (d1 : (f == ("__debug__" : Str)) = false) (c0 : (sx == ("__classdict__" : Str)) = false) (c1 : (f == ("__classdict__" : Str)) = false) :
    FnG Pg w K mg base 1 fA fd [sx, f] (spXI C [f]) := by
  refine fn_body F Sc (fun vs H Q E h => ?_) (fun cdv A outer s H vs Q E hr hgu h => ?_)
  · obtain ⟨a, ws, rfl, hl, _⟩ := h
    simp [hl]
  · obtain ⟨a, ws, rfl, hl, ha, h⟩ := h
    match ws, hl with
    | [v], _ =>
      rw [hb]
      refine ⟨_, pss_one (ps_slx (T := T) hno (pe_var (i := 0) rfl v0 d0 c0) (pe_var (i := 1) rfl v1 d1 c1)), v, rfl, .ref a, rfl, a, rfl, .inl ⟨ha, fun dx n ne => ?_⟩⟩
      refine h dx _ n ne upd_same (by rw [upd_ne ne, upd_same]; rfl) fun b h1 h2 => ?_
      rw [upd_ne h1, upd_ne h2]
theorem fn_x2 (T : OxB K C) (F : Fun K x qual st fA fd) (Sc : FnScope [sx, f, g] [sx, f, g] (defScope st)) (hb : defBody st = [.Assign [.Attribute (.Name sx p0) f p1] (.Name f p2) pos, .Assign [.Attribute (.Name sx p3) g p4] (.Name g p5) pos']) (hno : PySem.W.findIn K (.ref C) f = some none) (hno2 : PySem.W.findIn K (.ref C) g = some none)
    (v0 : Vis (defScope st) sx) (v1 : Vis (defScope st) f) (v2 : Vis (defScope st) g) (d0 : (sx == ("__debug__" : Str)) = false) (d1 : (f == ("__debug__" : Str)) = false) (d2 : (g == ("__debug__" : Str)) = false) (c0 : (sx == ("__classdict__" : Str)) = false) (c1 : (f == ("__classdict__" : Str)) = false) (c2 : (g == ("__classdict__" : Str)) = false) :
    FnG Pg w K mg base 1 fA fd [sx, f, g] (spXI C [f, g]) := by
  refine fn_body F Sc (fun vs H Q E h => ?_) (fun cdv A outer s H vs Q E hr hgu h => ?_)
  · obtain ⟨a, ws, rfl, hl, _⟩ := h
    simp [hl]
  · obtain ⟨a, ws, rfl, hl, ha, h⟩ := h
    match ws, hl with
    | [v, v'], _ =>
      rw [hb]
      refine ⟨_, pss_cons (ps_slx (T := T) hno (pe_var (i := 0) rfl v0 d0 c0) (pe_var (i := 1) rfl v1 d1 c1)) (pss_one (ps_slx (T := T) hno2 (pe_var (i := 0) rfl v0 d0 c0) (pe_var (i := 2) rfl v2 d2 c2))), v, rfl, .ref a, rfl, a, rfl, .inl ⟨ha, fun dx n ne => ?_⟩⟩
      refine ⟨v', rfl, .ref a, rfl, a, rfl, .inr ⟨dx, _, upd_same, (upd_ne ne).trans upd_same, by simp, ?_⟩⟩
      refine h dx _ n ne (by rw [upd_ne (Ne.symm ne), upd_same]) (by rw [upd_same]; rfl) fun b h1 h2 => ?_
      rw [upd_ne h2, upd_ne h1, upd_ne h2]
end
end PL
set_option Elab.async false
set_option linter.all false
set_option maxRecDepth 100000
set_option maxHeartbeats 4000000
/-! Defs that may raise: what they promise, calls, raise. -/
namespace PL
open PySem PySem.Spec PyProof.Rows L2
/-- an exception in the air: its class, its dict -/
inductive Xp (K : PySem.W.Frag) (ca : Str → Option Addr) (F : Hp) : Value → Option Addr → Str → List Str → List D → Prop
  | d0 {C : Addr} {c : Str} : ca c = some C → Xp K ca F (.ref C) none c [] []
  | dD {C dx : Addr} {c : Str} {fs : List (Str × V)} {ds : List D} : ca c = some C → F dx = some (.xd fs) → RpA K ca F (fs.map (·.2)) ds → Xp K ca F (.ref C) (some dx) c (fs.map (·.1)) ds
theorem Xp.mono {K : PySem.W.Frag} {ca : Str → Option Addr} {F F' : Hp} (e : Ex F F') {cls : Value} {d : Option Addr} {c : Str} {ns : List Str} {vs : List D} (h : Xp K ca F cls d c ns vs) : Xp K ca F' cls d c ns vs := by
  cases h with
  | d0 h => exact .d0 h
  | dD h g r => exact .dD h (e _ _ g) (r.mono e)
theorem sat_ex {α : Type} {r : R α} {Q Q' : α → Prop} {EX EX' : EXT} (h : Sat r Q EX) (hq : ∀ a, Q a → Q' a) (he : ∀ c ns vs, EX c ns vs → EX' c ns vs) : Sat r Q' EX' := by
  cases r with
  | ok a => exact hq a h
  | exc c ns vs => exact he c ns vs h
  | bad => exact h
/-! ### promises -/
structure FnX (Pg : Program) (w : World) (K : PySem.W.Frag) (mg : Str → Option Value) (base : Heap) (k : Nat) (fA : Addr) (fd : FuncData) (ps : List Str) (sp : Sp) : Prop where
  num : ∀ vs H Q E, sp vs H Q E → vs.length = ps.length
  go : ∀ (A : Around) (up : List PySem.Env) (s : Shared) (H : Hp) (args : Args) (us : List Value) (vs : List V) (Q : VK) (E : XK), Room k A → A.guards = some [] → Env0 Pg w K mg base A up s H →
    BindsTo s fd args (ps.zip us) → Vals vs us → sp vs H Q E → codeAny (model Pg w) A (.call (.ref fA) args) (CR (L2.CX Pg w) up Pg w H s Q E) s
def spX (K : PySem.W.Frag) (ca : Str → Option Addr) (T : Tb) (F : List D → R D) : Sp := fun vs H Q E => ∃ ds B, B.Nodup ∧ (∀ b ∈ B, H b ≠ none) ∧ TIn T B H ∧ RpA K ca (Frz H B) vs ds ∧
  Sat (F ds) (fun d => ∀ v H', GrT T H H' → LamX.Tabs T H' → Rp K ca (Frz H' B) v d → Q v H') (fun c ns ws => ∀ cls d H', GrT T H H' → LamX.Tabs T H' → Xp K ca (Frz H' B) cls d c ns ws → E cls d H')
section
variable {Pg : Program} {w : World} {K : PySem.W.Frag} {mg : Str → Option Value} {base : Heap} {j k : Nat} {fA : Addr} {fd : FuncData} {ps : List Str} {sp sp' : Sp} {ca : Str → Option Addr} {T : Tb}
/-- where it raises nothing -/
theorem FnX.calm (F : FnX Pg w K mg base k fA fd ps sp) (h : ∀ vs H Q E, sp' vs H Q E → sp vs H Q fun _ _ _ => False) : FnG Pg w K mg base k fA fd ps sp' :=
  ⟨fun vs H Q E q => F.num vs H Q _ (h vs H Q E q), fun A up s H args us vs Q E hr hgu e0 hb r q => codeAny_mono (F.go A up s H args us vs Q (fun _ _ _ => False) hr hgu e0 hb r (h vs H Q E q)) fun res s' hq => by
    match res, hq with
    | .ok (.ret u), hq => exact hq
    | .ok .next, hq => exact hq.elim
    | .ok .brk, hq => exact hq.elim
    | .ok .cont, hq => exact hq.elim
    | .error er, hq =>
      obtain ⟨_, _, _, _, _, _, _, _, _, _, _, _, z⟩ := hq
      exact z.elim⟩
theorem FnX.toG {F : List D → R D} (G : FnX Pg w K mg base k fA fd ps (spX K ca T F)) : FnG Pg w K mg base k fA fd ps (spF K ca T F) := G.calm fun vs H Q E q => by
  obtain ⟨ds, B, h1, h2, h3, h4, h5⟩ := q
  exact ⟨ds, B, h1, h2, h3, h4, sat_ex h5 (fun _ h => h) fun _ _ _ h => h.elim⟩
end
/-! ### raise X(..) -/
section
variable {X : Cx} {z : Z} {O OI OM OO OL : List Nat} {EX : EXT} {a b c e o : Expr} {es : List Expr} {f g h : FE} {fa ga fk : FA} {fs gs : FS} {pos p apos : Pos} {st : Stmt} {sts : List Stmt}
variable {B : List Addr} {P : List (Nat × Addr)} {σ σ' : L2.St} {H H' : Hp} {ρ ρ' : Env} {S S' : List D} {x m : Str}
variable {k : Nat} {fA C fI : Addr} {fd : FuncData} {ps ks nms : List Str} {ds : List Value} {dvs : List V} {dds : List D} {kws : List Keyword}
def raiseS (c : Str) (nms : List Str) (fa : FA) : FS := fun ρ S => fa ρ S >>= fun x => if x.1.length = nms.length ∧ x.1.length ≤ 1000 then R.exc c nms.reverse x.1.reverse else R.bad
/-! ### calls -/
def callX (F : List D → R D) (dds : List D) (fa : FA) : FE := fun ρ S => fa ρ S >>= fun x => F (x.1 ++ dds) >>= fun d => R.ok (d, x.2)
end
end PL
set_option Elab.async false
set_option linter.all false
set_option maxRecDepth 100000
set_option maxHeartbeats 4000000
/-! New instances whose __init__ may raise; keywords. -/
namespace PL
open PySem PySem.Spec PyProof.Rows L2
section
variable {X : Cx} {z : Z} {O OI OM OO OL : List Nat} {EX : EXT} {a b c e o : Expr} {es : List Expr} {f g h : FE} {fa ga fk : FA} {fs gs : FS} {pos p apos : Pos} {st : Stmt} {sts : List Stmt}
variable {B : List Addr} {P : List (Nat × Addr)} {σ σ' : L2.St} {H H' : Hp} {ρ ρ' : Env} {S S' : List D} {x m : Str} {pins : List (Addr × Obj)} {s : Shared} {Q : VK} {W : WX} {sp : Sp} {t tk : TA}
variable {k : Nat} {fA C fI : Addr} {fd : FuncData} {ps ks nms : List Str} {ds : List Value} {dvs : List V} {dds : List D} {kws : List Keyword}
def mkIX (c : Str) (nm : List Str) (F : List D → R (List D)) (n m : Nat) (ix : List Nat) (fa fk : FA) : FE := fun ρ S => fa ρ S >>= fun x => fk ρ x.2 >>= fun y => if x.1.length = n ∧ y.1.length = m then F (pick ix (x.1 ++ y.1)) >>= fun es => R.ok (.ins c nm es, y.2) else R.bad
end
end PL
set_option Elab.async false
set_option linter.all false
set_option maxRecDepth 100000
set_option maxHeartbeats 4000000
/-! try: .. except .. as e: .. -/
namespace PL
open PySem PySem.Spec PyProof.Rows L2
section
variable {X : Cx} {pins : List (Addr × Obj)} {σ : L2.St} {H : Hp} {sI s s' : Shared} {B : Heap} {a C : Addr} {d : Option Addr}
/-- the exception has landed, and is tracked from here on -/
theorem landX {oe : Obj} {fv : Array Value} (I : Inv X pins σ H sI) (nb : ∀ b o, sI.heap.get? b = some o → b ∉ frs X.stack → B.get? b = some o) (st : B.StaysIn s'.heap) (up : sI.heap.UpToSlots s'.heap) (os : s'.os = sI.os) (ag : AllBare s'.gens)
    (na : H a = none) (nI : sI.heap.get? a = none) (hx : s'.heap.get? a = some oe) (hc : oe.cls = .ref C) (hd : oe.dict = d) (hf : oe.data = .fields fv) : Inv X pins σ (upd H a (exT a C d)) s' := by
  have J := I.landed nb st up os ag
  have fr : ∀ b ∈ frs X.stack, ∀ o, sI.heap.get? b = some o → ∃ sl, s'.heap.get? b = some { o with slots := sl } := by
    intro b hb o w
    obtain ⟨_, o', w', nf⟩ := I.stack.mem hb
    rw [w] at w'
    cases w'
    exact up b o w nf
  have U : Un (frs X.stack) [] H (upd H a (exT a C d)) sI.heap s'.heap := by
    constructor
    · intro b o w _ hb _
      exact st b o (nb b o w hb)
    · intro b o w _ hb _
      exact fr b hb o w
    · intro b o w n _
      rw [upd_ne fun z => by rw [z, nI] at w; cases w]
      exact n
    · intro b o w _
      by_cases hb : b ∈ frs X.stack
      · obtain ⟨sl, q⟩ := fr b hb o w
        exact ⟨_, q⟩
      · exact ⟨o, st b o (nb b o w hb)⟩
    · intro b xs w
      rw [upd_ne (ne_of_none w na)]
      exact w
    · intro b o v w
      rw [upd_ne (ne_of_none w na)]
      exact w
    · intro b ps w
      refine ⟨#[], ?_⟩
      rw [upd_ne (ne_of_none w na), w]
      simp
  refine I.call' (ch := []) os U (fun b o w => ?_) ag fun _ z => nomatch z
  by_cases hb : b = a
  · subst hb
    rw [upd_same] at w
    cases w
    refine ⟨⟨oe, fv, hx, hc, hd, hf⟩, ⟨oe, hx⟩, fun h1 h2 z k => ?_⟩
    obtain ⟨o, f, e1, e2, e3, e4⟩ := z
    exact ⟨o, f, k _ e1, e2, e3, e4⟩
  · rw [upd_ne hb] at w
    refine (J.hok b o w).stay (fun _ _ _ q => q) (fun c q => ?_) fun c xs q => ?_
    · rw [upd_ne (ne_of_none q na)]
      exact q
    · rw [upd_ne (ne_of_none q na)]
      exact q
end
end PL
set_option Elab.async false
set_option linter.all false
set_option maxRecDepth 100000
set_option maxHeartbeats 4000000
namespace PL
open PySem PySem.Spec PyProof.Rows L2
end PL
set_option Elab.async false
set_option linter.all false
set_option maxRecDepth 100000
set_option maxHeartbeats 4000000
/-! An exception as a value: its class, its attributes; flat values: in, count, index. -/
namespace PL
open PySem PySem.Spec PyProof.Rows L2
/-- what isinstance and the attributes ask of an exception's class -/
structure ExnC (K : PySem.W.Frag) (C : Addr) : Prop where
  hd : PySem.W.hasDictIn K C = true
  ga : PySem.W.findIn K (.ref C) "__getattribute__" = some (some (.builtin "BaseException.__getattribute__"))
  gg : PySem.W.findIn K (.ref C) "__getattr__" = some none
  ex : PySem.W.subIn K (.ref C) (.type "BaseException") = some true
  ha : PySem.W.findIn K (.ref C) "__class__" = some (some (.builtin "object.__class__"))
  hn : PySem.W.specialIn K (.builtin "object.__class__") "__get__" = some (some (.builtin "getset_descriptor.__get__"))
  tk : PySem.W.takesIn K (.builtin "object.__class__") = some true
  mr : PySem.W.mroIn K C (.type "object") = some true
section
variable {X : Cx} {z : Z} {O OI OM OO OL : List Nat} {EX : EXT} {a b c e o : Expr} {es : List Expr} {f g h : FE} {fa ga fk : FA} {fs gs : FS} {pos p p2 apos cpos : Pos} {st : Stmt} {sts : List Stmt}
variable {B : List Addr} {P : List (Nat × Addr)} {σ σ' : L2.St} {H H' : Hp} {ρ ρ' : Env} {S S' : List D} {x m : Str} {pins : List (Addr × Obj)} {s : Shared}
theorem exT_at {P : Program} {w : World} {h : Heap} {ad C : Addr} {d : Option Addr} (hok : HOk P w H h) (e : H ad = some (exT ad C d)) : ∃ (o : Obj) (fv : Array Value), h.get? ad = some o ∧ o.cls = .ref C ∧ o.dict = d ∧ o.data = .fields fv := by
  have q : ObjOk P w H h ad (.ext fun h => ∃ (o : Obj) (fv : Array Value), h.get? ad = some o ∧ o.cls = .ref C ∧ o.dict = d ∧ o.data = .fields fv) := hok ad _ e
  exact q.1
/-- how it stands -/
def StdX (H : Hp) (ad C : Addr) : Prop := H ad = some (exT ad C none) ∨ ∃ dx fs, H ad = some (exT ad C (some dx)) ∧ H dx = some (.xd fs)
theorem std_at (I : Inv X pins σ H s) {ad C : Addr} (h : StdX H ad C) : ∃ ox od, PySem.W.InstAt s.heap ad ox C od := by
  rcases h with h | ⟨dx, fs, h, hd⟩
  · obtain ⟨o, fv, e1, e2, e3, e4⟩ := exT_at I.hok h
    exact ⟨o, none, e1, e2, by unfold PySem.W.notCls; rw [e4] <;> rfl, by rw [e3]; trivial⟩
  · obtain ⟨o, fv, e1, e2, e3, e4⟩ := exT_at I.hok h
    have hx : ObjOk X.prog X.w H s.heap dx (.xd fs) := I.hok dx _ hd
    obtain ⟨mA, hns, hr⟩ := hx
    obtain ⟨od, ho, hl⟩ := lookIn_ns hns
    exact ⟨o, some od, e1, e2, by unfold PySem.W.notCls; rw [e4] <;> rfl, by rw [e3]; exact ho⟩
def rIsX (K : PySem.W.Frag) : List V → Hp → VK → Prop := fun xs H Q => ∃ (ad C : Addr) (c : V) (cv : Value) (b : Bool), xs = [.ref ad, c] ∧ (∀ u, RelV c u → u = cv) ∧ StdX H ad C ∧ ExnC K C ∧ PySem.W.kitOne K (.ref C) cv = some b ∧ Q (.bl b) H
theorem call_isX : CallR X (.builtin "isinstance") (rIsX X.K) := by
  intro pins s σ H xs us Q I r h
  obtain ⟨ad, C, c, cv, b, rfl, hcv, st, T, e, q⟩ := h
  cases r with
  | cons rx rr =>
    cases rr with
    | cons rt rr =>
      cases rr
      cases rx
      have ec := hcv _ rt
      subst ec
      obtain ⟨ox, od, J⟩ := std_at I st
      have hcl : (PySem.W.clsIn X.K C).isSome = true := by
        obtain ⟨cd, hc, _⟩ := PySem.W.any_some T.hd
        rw [hc] <;> rfl
      exact PySem.W.kia_one (PySem.W.kitx_exc hcl T.ga T.gg T.ex T.ha T.hn T.tk T.mr) I.kIn J e (fun z => nomatch z) fun tk => ⟨.bl b, H, I.kept (t' := tk) fun _ _ z => z, rfl, q⟩
/-- isinstance(e, C), e an exception: sub answers by its class -/
def isXD (sub : Str → Option Bool) : D → Option D
  | .exn c _ _ => (sub c).map .bl
  | _ => none
theorem rp_exn {K : PySem.W.Frag} {ca : Str → Option Addr} {F : Hp} {v : V} {c : Str} {ns : List Str} {vs : List D} (h : Rp K ca F v (.exn c ns vs)) : ∃ ad C, v = .ref ad ∧ ca c = some C ∧ StdX F ad C := by
  cases h with
  | exn0 h c => exact ⟨_, _, rfl, c, .inl h⟩
  | exnD h g c r => exact ⟨_, _, rfl, c, .inr ⟨_, _, h, g⟩⟩
theorem StdX.mono {F F' : Hp} {ad C : Addr} (h : StdX F ad C) (e : Ex F F') : StdX F' ad C := by
  rcases h with h | ⟨dx, fs, h, g⟩
  · exact .inl (e _ _ h)
  · exact .inr ⟨dx, fs, e _ _ h, e _ _ g⟩
theorem pd_isX {sub : Str → Option Bool} {cv : V} {u : Value} {ce : Expr} (hK : X.K = z.K) (hm : X.mg "isinstance" = none) (hcv : PE X ce (tC cv)) (hu : ∀ w, RelV cv w → w = u)
    (hsub : ∀ c k, sub c = some k → ∃ C, z.ca c = some C ∧ ExnC z.K C ∧ PySem.W.kitOne z.K (.ref C) u = some k) (ha : PB X z O EX e f) (hg : Gl X "isinstance" := by rfl)
    (he : starEach [e, ce] X.env = (false, eval e X.env) :: starEach [ce] X.env := by rfl) (he2 : starEach [ce] X.env = (false, eval ce X.env) :: starEach [] X.env := by rfl) (hpl : (backTo pos (starEach [ce] X.env)).any (·.1) = false := by rfl) :
    PD X z O EX (.Call (.Name "isinstance" p) [e, ce] [] pos) (un1 (isXD sub) f) := by
  obtain ⟨t, pt, q⟩ := ha.ex
  refine ⟨_, pe_callB (r := rIsX X.K) call_isX hg hm (by decide +kernel) (pa_cons pt (pa_cons hcv pa_nil he2) he) (by decide) (by decide) he hpl, fun B P σ H ρ S Q hP rr hs => ?_⟩
  refine q B P σ H ρ S _ hP rr ((sat_bind.mp hs).imp fun x hx v H1 g1 r1 hv => ?_)
  obtain ⟨d, hd, hq⟩ := sat_of (sat_bind.mp hx)
  show rIsX X.K [v, cv] H1 Q
  rw [hK]
  obtain ⟨x1, S1⟩ := x
  cases x1 with
  | exn c ns vs =>
    simp only [isXD, Option.map_eq_some_iff] at hd
    obtain ⟨k, e2, rfl⟩ := hd
    obtain ⟨C, hca, ec, hk⟩ := hsub c k e2
    obtain ⟨ad, C', rfl, hc', st⟩ := rp_exn hv.rp
    rw [hca] at hc'
    cases hc'
    exact ⟨ad, C, cv, u, k, rfl, hu, st, ec, hk, hq _ H1 g1 r1 (.bl k)⟩
  | _ => cases hd
/-- .. an own class -/
theorem pd_isXC (me : Str) {C : Addr} {sub : Str → Option Bool} (hK : X.K = z.K) (hm : X.mg "isinstance" = none) (hmC : X.mg me = some (.ref C)) (hsub : ∀ c k, sub c = some k → ∃ D, z.ca c = some D ∧ ExnC z.K D ∧ PySem.W.kitOne z.K (.ref D) (.ref C) = some k) (ha : PB X z O EX e f)
    (hd : (me == ("__debug__" : Str)) = false := by decide) (hg : Gl X "isinstance" := by rfl) (hgT : Gl X me := by rfl)
    (he : starEach [e, .Name me p2] X.env = (false, eval e X.env) :: starEach [.Name me p2] X.env := by rfl) (he2 : starEach [.Name me p2] X.env = (false, eval (.Name me p2) X.env) :: starEach [] X.env := by rfl) (hpl : (backTo pos (starEach [.Name me p2] X.env)).any (·.1) = false := by rfl) :
    PD X z O EX (.Call (.Name "isinstance" p) [e, .Name me p2] [] pos) (un1 (isXD sub) f) :=
  pd_isX hK hm (pe_glob hgT hmC (v := .ref C) rfl hd) (fun w h => h) hsub ha hg he he2 hpl
/-- .. a built-in one -/
theorem pd_isXB {T : String} {sub : Str → Option Bool} {x : Str} (hK : X.K = z.K) (hm : X.mg "isinstance" = none) (hmT : X.mg x = none) (hbt : bootBuiltins x = some (.type T)) (hsub : ∀ c k, sub c = some k → ∃ D, z.ca c = some D ∧ ExnC z.K D ∧ PySem.W.kitOne z.K (.ref D) (.type T) = some k) (ha : PB X z O EX e f)
    (hn : x ≠ "__name__" := by decide) (hd : (x == ("__debug__" : Str)) = false := by decide) (hg : Gl X "isinstance" := by rfl) (hgT : Gl X x := by rfl)
    (he : starEach [e, .Name x p2] X.env = (false, eval e X.env) :: starEach [.Name x p2] X.env := by rfl) (he2 : starEach [.Name x p2] X.env = (false, eval (.Name x p2) X.env) :: starEach [] X.env := by rfl) (hpl : (backTo pos (starEach [.Name x p2] X.env)).any (·.1) = false := by rfl) :
    PD X z O EX (.Call (.Name "isinstance" p) [e, .Name x p2] [] pos) (un1 (isXD sub) f) :=
  pd_isX hK hm (pe_bltn hgT hmT hbt (v := .ty T) rfl hn hd) (fun w h => h) hsub ha hg he he2 hpl
/-- e.n of an exception -/
def xfD (cs : List Str) (n : Str) : D → Option D
  | .exn c ns vs => if c ∈ cs then lookF ns vs n else none
  | _ => none
theorem pd_xf {cs : List Str} {n : Str} (hK : X.K = z.K) (hcs : ∀ c ∈ cs, ∃ C, z.ca c = some C ∧ ExnC z.K C ∧ PySem.W.findIn z.K (.ref C) n = some none) (ha : PD X z O EX e f) (hb : attributeBase e n X.env (eval e X.env) = eval e X.env := by rfl) : PD X z O EX (.Attribute e n pos) (un1 (xfD cs n) f) := by
  obtain ⟨t, pt, q⟩ := ha.ex
  have pe : PE X (.Attribute e n pos) (fun σ H Q => t σ H fun x H1 => ∃ (ad C dx : Addr) (fs : List (Str × V)) (v : V), x = .ref ad ∧ H1 ad = some (exT ad C (some dx)) ∧ H1 dx = some (.xd fs) ∧ ExnC X.K C ∧ PySem.W.findIn X.K (.ref C) n = some none ∧ fs.lookup n = some v ∧ Q v H1) := by
    refine ⟨fun pins s σ H Q I h => ?_⟩
    refine attr_of hb (thn (pt.run pins s σ H _ I h) fun u s1 hh => ?_)
    obtain ⟨x, H1, I1, rx, ad, C, dx, fs, v, rfl, e1, e2, T, hno, l, qq⟩ := hh
    obtain rfl : u = Value.ref ad := rx
    obtain ⟨o, fv, w1, w2, w3, w4⟩ := exT_at I1.hok e1
    have hx : ObjOk X.prog X.w H1 s1.heap dx (.xd fs) := I1.hok dx _ e2
    obtain ⟨mA, hns, hr⟩ := hx
    obtain ⟨od, ho, hl⟩ := lookIn_ns hns
    obtain ⟨u, hu, ru⟩ := RelO.some_of (v := v) (o := mA n) (by rw [← l]; exact hr n)
    have J : PySem.W.InstAt s1.heap ad o C (some od) := ⟨w1, w2, by unfold PySem.W.notCls; rw [w4] <;> rfl, by rw [w3]; exact ho⟩
    have hin := I1.tok (s1.toks + 1)
    exact HandSPX.exc_get I1.kIn J T.ga T.gg T.ex (PySem.W.findObj_own T.hd hno rfl (by rw [hl, hu])) (handed_of ru) ⟨v, H1, hin, ru, qq⟩
  refine ⟨_, pe, fun B P σ H ρ S Q hP rr hs => ?_⟩
  refine q B P σ H ρ S _ hP rr ((sat_bind.mp hs).imp fun w hw v H1 g1 r1 hv => ?_)
  obtain ⟨d, hd, hq⟩ := sat_of (sat_bind.mp hw)
  obtain ⟨w1, w2⟩ := w
  cases w1 with
  | exn c ns vs =>
    simp only [xfD] at hd
    split at hd
    · rename_i hc
      obtain ⟨C, hca, T, hno⟩ := hcs c hc
      cases hv with
      | exn0 h h2 => simp [lookF] at hd
      | exnD h g h2 r =>
        rw [hca] at h2
        cases h2
        obtain ⟨v, e1, qv⟩ := look_rp r hd
        exact ⟨_, C, _, _, v, rfl, frz_ex _ _ _ _ h, frz_ex _ _ _ _ g, hK ▸ T, hK ▸ hno, e1, hq v H1 g1 r1 qv⟩
    · cases hd
  | _ => cases hd
/-! ### flat values -/
def flV : D → Option V
  | .non => some .non
  | .bl b => some (.bl b)
  | .int i => some (.int i)
  | .str x => some (.str x)
  | _ => none
def flVs : List D → Option (List V)
  | [] => some []
  | d :: r => (flV d).bind fun v => (flVs r).map (v :: ·)
theorem fl_rp {K : PySem.W.Frag} {ca : Str → Option Addr} {F : Hp} {v y : V} {d : D} (h : Rp K ca F v d) (e : flV d = some y) : v = y ∧ flatV y = true := by
  cases h <;> simp only [flV, reduceCtorEq, Option.some.injEq] at e <;> subst e <;> exact ⟨rfl, rfl⟩
theorem fl_rpa {K : PySem.W.Frag} {ca : Str → Option Addr} {F : Hp} : ∀ {vs ys : List V} {ds : List D}, RpA K ca F vs ds → flVs ds = some ys → vs = ys ∧ ys.all flatV = true
  | _, _, _, .nil, e => by cases e; exact ⟨rfl, rfl⟩
  | _, _, _, .cons h r, e => by
    simp only [flVs, Option.bind_eq_some_iff, Option.map_eq_some_iff] at e
    obtain ⟨v, e1, q, e2, rfl⟩ := e
    obtain ⟨rfl, f1⟩ := fl_rp h e1
    obtain ⟨rfl, f2⟩ := fl_rpa r e2
    exact ⟨rfl, by rw [List.all_cons, f1, f2]; rfl⟩
def inF (neg : Bool) (x y : D) : Option D := (flV x).bind fun v => match y with
  | .lst ds => (flVs ds).map fun ys => .bl (if neg then !inV v ys else inV v ys)
  | .tup ds => (flVs ds).map fun ys => .bl (if neg then !inV v ys else inV v ys)
  | _ => none
theorem op2_inF {K : PySem.W.Frag} {ca : Str → Option Addr} {neg : Bool} : Op2 K ca (rIn K neg) (inF neg) := by
  intro H L N x y dx dy d Q fr hx hy e hq
  unfold inF at e
  simp only [Option.bind_eq_some_iff] at e
  obtain ⟨v, e1, e⟩ := e
  obtain ⟨rfl, f1⟩ := fl_rp hx.rp e1
  split at e
  · simp only [Option.map_eq_some_iff] at e
    obtain ⟨ys, e2, rfl⟩ := e
    obtain ⟨ad, xs, rfl, h1, r1⟩ := hy.lst
    obtain ⟨rfl, f2⟩ := fl_rpa r1 e2
    exact ⟨ad, xs, rfl, .inl (SqL.of h1), f1, f2, hq _ H (Ex.refl H) (.bl _)⟩
  · simp only [Option.map_eq_some_iff] at e
    obtain ⟨ys, e2, rfl⟩ := e
    obtain ⟨ad, xs, rfl, h1, r1⟩ := hy.tup
    obtain ⟨rfl, f2⟩ := fl_rpa r1 e2
    exact ⟨ad, xs, rfl, .inr (ex_t (frz_ex H L) h1), f1, f2, hq _ H (Ex.refl H) (.bl _)⟩
  · cases e
def rCntF (K : PySem.W.Frag) : V → List V → Hp → VK → Prop := fun x xs H Q => ∃ (q : Addr) (ys : List V) (y : V), x = .ref q ∧ xs = [y] ∧ SqL K H q ys ∧ flatV y = true ∧ ys.all flatV = true ∧ Q (.int (ys.countP (fun w => eqV w y) : Nat)) H
theorem count_eqU {x : V} : ∀ {xs : List V} {us : List Value}, Vals xs us → xs.all flatV = true → us.countP (eqU x) = xs.countP fun y => eqV y x
  | _, _, .nil, _ => rfl
  | y :: xs, u :: us, .cons r t, f => by
    rw [List.all_cons, Bool.and_eq_true] at f
    rw [List.countP_cons, List.countP_cons, eqU_of r f.1, count_eqU t f.2]
theorem mt_lcountF : MtR X "list.count" (rCntF X.K) := by
  intro pins s σ H x xs v us Q I rx rxs h
  obtain ⟨q, ys, y, rfl, rfl, hs, fy, fys, hq⟩ := h
  cases rx
  obtain ⟨u, rfl, ru⟩ := rxs.one
  obtain ⟨its, rv, ⟨⟨cls, dd, data, sl⟩, n, ho, hc, hdn, hd⟩, hlen⟩ := I.list hs
  simp only at hc hd
  subst hc hd
  refine call_meets PySem.F.slot_list_count ⟨_, ho, rfl⟩ PySem.F.entry_list_count (PySem.F.args_list_count_2 _ _)
    (SeqAt.list_countAt q its.toArray n dd sl u (eqU y)) ⟨ho, fun u' hu' => mem_eqAt ru fy rv fys u' (by simpa using hu'), ?_⟩
  have ec : its.toArray.toList.countP (eqU y) = ys.countP fun w => eqV w y := by
    rw [← count_eqU rv fys]
  refine ⟨.int (ys.countP (fun w => eqV w y) : Nat), H, I.tok _, ⟨s.toks, ?_⟩, hq⟩
  show Value.int ((its.toArray.toList.countP (eqU y) : Nat) : Int) s.toks = Value.int ((ys.countP (fun w => eqV w y) : Nat) : Int) s.toks
  rw [ec]
def cntFD : D → List D → Option D
  | .lst ds, [x] => (flVs ds).bind fun ys => (flV x).map fun y => .int (ys.countP (fun w => eqV w y) : Nat)
  | _, _ => none
theorem mthD_cntF {K : PySem.W.Frag} {ca : Str → Option Addr} : MthD K ca "list" (rCntF K) cntFD := by
  intro H L N x dx vs ds d Q fr hx hv e hq
  unfold cntFD at e
  split at e
  · simp only [Option.bind_eq_some_iff, Option.map_eq_some_iff] at e
    obtain ⟨ys, e1, y, e2, rfl⟩ := e
    cases hv with
    | cons h r =>
      cases r
      obtain ⟨rfl, fy⟩ := fl_rp h.rp e2
      obtain ⟨ad, xs, rfl, h1, r1⟩ := hx.lst
      obtain ⟨rfl, fys⟩ := fl_rpa r1 e1
      exact ⟨ad, xs, _, rfl, rfl, SqL.of h1, fy, fys, hq _ H (Ex.refl H) (.int _)⟩
  · cases e
theorem pd_count (hK : X.K = z.K) (ho : PB X z O EX o f) (ha : PBA X z O EX [e] fa) (hbase : attributeBase o "count" X.env (eval o X.env) = eval o X.env := by rfl)
    (hfew : ((backTo pos (starEach (e :: []) X.env)).all (fun x => !x.1) && (backToKw pos (keywordEach [] X.env)).all (fun x => x.1.isSome)
      && decide ((e :: []).length + ([] : List Keyword).length + (if ([] : List Keyword).isEmpty then 0 else 1) < 30)) = true := by rfl)
    (hline : (apos.endLine == pos.line) = true := by rfl) (hs : starEach (e :: []) X.env = (false, eval e X.env) :: starEach [] X.env := by rfl) (hplain : (backTo pos (starEach [] X.env)).any (·.1) = false := by rfl) :
    PD X z O EX (.Call (.Attribute o "count" apos) [e] [] pos) (mthE "list" cntFD f fa) :=
  pd_mth hK PySem.F.plainAttrs_list PySem.F.slot_list_count PySem.F.type_list_count (r := rCntF z.K) (hK ▸ mt_lcountF) mthD_cntF ho ha hbase hfew hline hs hplain
def idxFD : D → List D → Option D
  | .lst ds, [x] => (flVs ds).bind fun ys => (flV x).bind fun y => (ys.findIdx? fun w => eqV w y).map fun j => .int (j : Nat)
  | _, _ => none
theorem mthD_idxF {K : PySem.W.Frag} {ca : Str → Option Addr} : MthD K ca "list" (rIndex K) idxFD := by
  intro H L N x dx vs ds d Q fr hx hv e hq
  unfold idxFD at e
  split at e
  · simp only [Option.bind_eq_some_iff, Option.map_eq_some_iff] at e
    obtain ⟨ys, e1, y, e2, j, e3, rfl⟩ := e
    cases hv with
    | cons h r =>
      cases r
      obtain ⟨rfl, fy⟩ := fl_rp h.rp e2
      obtain ⟨ad, xs, rfl, h1, r1⟩ := hx.lst
      obtain ⟨rfl, fys⟩ := fl_rpa r1 e1
      rw [List.findIdx?_eq_some_iff_getElem] at e3
      obtain ⟨hj, hj2, hj3⟩ := e3
      refine ⟨ad, xs, _, j, xs[j], rfl, rfl, SqL.of h1, fy, fys, List.getElem?_eq_getElem hj, hj2, fun m z' hm hz => ?_, hq _ H (Ex.refl H) (.int _)⟩
      obtain ⟨hm2, rfl⟩ := List.getElem?_eq_some_iff.mp hz
      have := hj3 m hm
      simpa using this
  · cases e
theorem pd_indexF (hK : X.K = z.K) (ho : PB X z O EX o f) (ha : PBA X z O EX [e] fa) (hbase : attributeBase o "index" X.env (eval o X.env) = eval o X.env := by rfl)
    (hfew : ((backTo pos (starEach (e :: []) X.env)).all (fun x => !x.1) && (backToKw pos (keywordEach [] X.env)).all (fun x => x.1.isSome)
      && decide ((e :: []).length + ([] : List Keyword).length + (if ([] : List Keyword).isEmpty then 0 else 1) < 30)) = true := by rfl)
    (hline : (apos.endLine == pos.line) = true := by rfl) (hs : starEach (e :: []) X.env = (false, eval e X.env) :: starEach [] X.env := by rfl) (hplain : (backTo pos (starEach [] X.env)).any (·.1) = false := by rfl) :
    PD X z O EX (.Call (.Attribute o "index" apos) [e] [] pos) (mthE "list" idxFD f fa) :=
  pd_mth hK PySem.F.plainAttrs_list PySem.F.slot_list_index PySem.F.type_list_index (r := rIndex z.K) (hK ▸ mt_index) mthD_idxF ho ha hbase hfew hline hs hplain
end
end PL
set_option Elab.async false
set_option linter.all false
set_option maxRecDepth 100000
set_option maxHeartbeats 4000000
/-! Defs that may be called while an exception is handled. -/
namespace PL
open PySem PySem.Spec PyProof.Rows L2
/-- room for k calls, no guard around; an exception may be handled -/
structure RmH (k : Nat) (A : Around) : Prop where
  r : L2H.RoomH k A
  g : A.guards = some []
theorem RmH.mono {j k : Nat} {A : Around} (h : RmH k A) (l : j ≤ k) : RmH j A := ⟨h.r.mono l, h.g⟩
theorem Rm.h {k : Nat} {A : Around} (h : Rm k A) : RmH k A := ⟨⟨h.r.dp, h.r.un⟩, h.g⟩
theorem RmH.units {k : Nat} {A : Around} (h : RmH k A) : A.units + 64 < cLine := by have := h.r.un; omega
structure FnA (Pg : Program) (w : World) (K : PySem.W.Frag) (mg : Str → Option Value) (base : Heap) (k : Nat) (fA : Addr) (fd : FuncData) (ps : List Str) (sp : Sp) : Prop where
  num : ∀ vs H Q E, sp vs H Q E → vs.length = ps.length
  go : ∀ (A : Around) (up : List PySem.Env) (s : Shared) (H : Hp) (args : Args) (us : List Value) (vs : List V) (Q : VK) (E : XK), L2H.RoomH k A → A.guards = some [] → Env0 Pg w K mg base A up s H →
    BindsTo s fd args (ps.zip us) → Vals vs us → sp vs H Q E → codeAny (model Pg w) A (.call (.ref fA) args) (CR CX0 up Pg w H s Q E) s
section
variable {Pg : Program} {w : World} {K : PySem.W.Frag} {mg : Str → Option Value} {base : Heap} {j k : Nat} {fA : Addr} {fd : FuncData} {ps : List Str} {sp sp' : Sp} {ca : Str → Option Addr} {T : Tb}
theorem FnA.up (F : FnA Pg w K mg base j fA fd ps sp) (h : j ≤ k) : FnA Pg w K mg base k fA fd ps sp :=
  ⟨F.num, fun A up s H args us vs Q E hr hgu => F.go A up s H args us vs Q E (hr.mono h) hgu⟩
theorem FnA.toG (F : FnA Pg w K mg base k fA fd ps sp) : FnG Pg w K mg base k fA fd ps sp :=
  ⟨F.num, fun A up s H args us vs Q E hr hgu => F.go A up s H args us vs Q E ⟨hr.dp, hr.un⟩ hgu⟩
end
section
variable {X : Cx} {z : Z} {O OI OM OO OL : List Nat} {EX : EXT} {a b c e o : Expr} {es : List Expr} {f g h : FE} {fa ga fk : FA} {fs gs : FS} {pos p apos : Pos} {st : Stmt} {sts : List Stmt}
variable {B : List Addr} {P : List (Nat × Addr)} {σ σ' : L2.St} {H H' : Hp} {ρ ρ' : Env} {S S' : List D} {x m : Str} {pins : List (Addr × Obj)} {s : Shared} {Q : VK} {E : XK} {sp : Sp} {t : TA}
variable {k : Nat} {fA C : Addr} {fd : FuncData} {ps : List Str} {ds : List Value} {dvs : List V} {dds : List D} {kws : List Keyword}
theorem pt_in (hK : X.K = z.K) (ha : PB X z O EX a f) (hb : PB X z O EX b g) (hm : behindInMarks .In b = false := by rfl) : PTd X z O EX (.Compare a [.In] [b] pos) (tstB (bin2 (inF false) f g)) := pt_cmp1 (hK ▸ op_in_seq) op2_inF ha hb hm
end
end PL
set_option Elab.async false
set_option linter.all false
set_option maxRecDepth 100000
set_option maxHeartbeats 4000000
/-! x[i] = e of an owned list; repr of data with {} in it; what an except clause and isinstance ask of own classes. -/
namespace PL
open PySem PySem.Spec PyProof.Rows L2
section
variable {X : Cx} {z : Z} {O OI OM OO OL : List Nat} {EX : EXT} {a b c e o : Expr} {es : List Expr} {f g h : FE} {fa ga fk : FA} {fs gs : FS} {pos p p2 apos cpos : Pos} {st : Stmt} {sts : List Stmt}
variable {B : List Addr} {P : List (Nat × Addr)} {σ σ' : L2.St} {H H' : Hp} {ρ ρ' : Env} {S S' : List D} {x m : Str} {pins : List (Addr × Obj)} {s : Shared}
/-! ### repr -/
/-- an item: data, or {} -/
def toPyQ : D → Option PyData
  | .dic [] [] => some (.dict [])
  | d => toPy d
def toPyQA : List D → Option (List PyData)
  | [] => some []
  | d :: r => (toPyQ d).bind fun p => (toPyQA r).map fun q => p :: q
theorem flat_ints : ∀ ns : List Int, PyData.hasDictAll (ns.map PyData.int) = false
  | [] => rfl
  | n :: r => by simp only [List.map_cons, PyData.hasDictAll, PyData.hasDict, flat_ints r, Bool.or_self]
mutual
theorem Rp.flat {K : PySem.W.Frag} {ca : Str → Option Addr} {F : Hp} : ∀ {v : V} {d : D} {p : PyData}, Rp K ca F v d → toPy d = some p → p.hasDict = false
  | _, _, _, .non, e => by cases e; rfl
  | _, _, _, .bl b, e => by cases e; rfl
  | _, _, _, .int i, e => by cases e; rfl
  | _, _, _, .str x, e => by cases e; rfl
  | _, _, _, .tup h r, e => by
    simp only [toPy, Option.map_eq_some_iff] at e
    obtain ⟨q, e1, rfl⟩ := e
    simp only [PyData.hasDict]
    exact RpA.flat r e1
  | _, _, _, .lst h r, e => by
    simp only [toPy, Option.map_eq_some_iff] at e
    obtain ⟨q, e1, rfl⟩ := e
    simp only [PyData.hasDict]
    exact RpA.flat r e1
  | _, _, _, .scr h, e => by
    cases e
    simp only [PyData.hasDict]
    exact flat_ints _
  | _, _, _, .dic h r, e => by cases e
  | _, _, _, .ins h c r, e => by cases e
  | _, _, _, .cls c, e => by cases e
  | _, _, _, .exn0 _ _, e => by cases e
  | _, _, _, .exnD _ _ _ _, e => by cases e
theorem RpA.flat {K : PySem.W.Frag} {ca : Str → Option Addr} {F : Hp} : ∀ {vs : List V} {ds : List D} {ps : List PyData}, RpA K ca F vs ds → toPyA ds = some ps → PyData.hasDictAll ps = false
  | _, _, _, .nil, e => by cases e; rfl
  | _, _, _, .cons h r, e => by
    simp only [toPyA, Option.bind_eq_some_iff, Option.map_eq_some_iff] at e
    obtain ⟨p, e1, q, e2, rfl⟩ := e
    simp only [PyData.hasDictAll, Rp.flat h e1, RpA.flat r e2, Bool.or_self]
end
/-- an item, as it is read -/
theorem Rp.readsQ (I : Inv X pins σ H s) {ca : Str → Option Addr} {v : V} {d : D} {p : PyData} {u : Value} (rp : Rp X.K ca H v d) (e : toPyQ d = some p) (r : RelV v u) : ∃ as, Reads s.heap u p as ∧ (p.hasDict = true → sysModules ∉ as) := by
  cases rp with
  | dic h q =>
    rename_i ad kvs ds
    cases kvs with
    | cons k ks =>
      cases q
      cases e
    | nil =>
      cases q
      cases e
      cases r
      obtain ⟨_, ne, vs, kv, hd⟩ := (show ObjOk X.prog X.w H s.heap ad (.dK []) from I.hok ad _ h)
      cases kv
      obtain ⟨o, es, ep, e1, e2, e3, _, pr, _⟩ := hd
      have e4 : es.toList = [] := by
        cases pq : es.toList with
        | nil => rfl
        | cons u r =>
          rw [pq] at pr
          cases pr
      refine ⟨_, .dict e1 e2.1 e3 (as := []) (bs := []) (by rw [e4]; exact .nil) (by rw [e4]; exact .nil), fun _ hm => ?_⟩
      have := List.mem_singleton.mp hm
      rw [← this] at ne
      simp at ne
  | ins h c q => cases e
  | cls c => cases e
  | exn0 h c => cases e
  | exnD h g c q => cases e
  | non => exact (Dp.reads I p _ u (Rp.dp (ca := ca) .non e) r).imp fun as h => ⟨h, fun z => by rw [Rp.flat (F := H) (K := X.K) (ca := ca) .non e] at z; cases z⟩
  | bl b => exact (Dp.reads I p _ u (Rp.dp (ca := ca) (.bl b) e) r).imp fun as h => ⟨h, fun z => by rw [Rp.flat (F := H) (K := X.K) (ca := ca) (.bl b) e] at z; cases z⟩
  | int i => exact (Dp.reads I p _ u (Rp.dp (ca := ca) (.int i) e) r).imp fun as h => ⟨h, fun z => by rw [Rp.flat (F := H) (K := X.K) (ca := ca) (.int i) e] at z; cases z⟩
  | str x => exact (Dp.reads I p _ u (Rp.dp (ca := ca) (.str x) e) r).imp fun as h => ⟨h, fun z => by rw [Rp.flat (F := H) (K := X.K) (ca := ca) (.str x) e] at z; cases z⟩
  | tup h q => exact (Dp.reads I p _ u (Rp.dp (.tup h q) e) r).imp fun as w => ⟨w, fun z => by rw [Rp.flat (.tup h q) e] at z; cases z⟩
  | lst h q => exact (Dp.reads I p _ u (Rp.dp (.lst h q) e) r).imp fun as w => ⟨w, fun z => by rw [Rp.flat (.lst h q) e] at z; cases z⟩
  | scr h => exact (Dp.reads I p _ u (Rp.dp (ca := ca) (.scr h) e) r).imp fun as w => ⟨w, fun z => by rw [Rp.flat (ca := ca) (.scr h) e] at z; cases z⟩
/-- items, as they are read and shown -/
theorem RpA.showsQ (I : Inv X pins σ H s) {ca : Str → Option Addr} : ∀ {vs : List V} {ds : List D} {ps : List PyData} {us : List Value}, RpA X.K ca H vs ds → toPyQA ds = some ps → Vals vs us → PyData.showableAll ps = true → (∀ t ∈ PyData.shownAll ps, t.length ≤ sizeLine) →
    ∃ as bs, ReadsAll s.heap us ps as ∧ ReadAtMost s.heap (PyData.depthAll ps) bs ∧ ReprAllK X.prog X.w bs s.heap (PyData.depthAll ps) us (PyData.shownAll ps)
  | _, _, _, _, .nil, e, r, _, _ => by
    cases e
    cases r
    exact ⟨[], [], .nil, (fun _ h => nomatch h), by simp only [PyData.shownAll]; exact .nil⟩
  | _, _, _, _, .cons h q, e, r, hs, hz => by
    simp only [toPyQA, Option.bind_eq_some_iff, Option.map_eq_some_iff] at e
    obtain ⟨p, e1, ps, e2, rfl⟩ := e
    cases r with
    | cons r1 r2 =>
      have hs' : p.showable = true ∧ PyData.showableAll ps = true := by simpa [PyData.showableAll] using hs
      obtain ⟨as, h1, n1⟩ := Rp.readsQ I h e1 r1
      obtain ⟨b1, hb1, k1⟩ := ReprK.of_reads (prog := X.prog) (w := X.w) h1 hs'.1 n1 (hz _ (by simp only [PyData.shownAll]; exact List.mem_cons_self ..))
      obtain ⟨as2, b2, h2, hb2, k2⟩ := RpA.showsQ I q e2 r2 hs'.2 fun t ht => hz t (by simp only [PyData.shownAll]; exact List.mem_cons_of_mem _ ht)
      refine ⟨_, b1 ++ b2, .cons h1 h2, ?_, ?_⟩
      · simp only [PyData.depthAll]
        exact (hb1.mono (Nat.le_max_left _ _)).append (hb2.mono (Nat.le_max_right _ _))
      · simp only [PyData.depthAll, PyData.shownAll]
        exact .cons ((k1.more fun b hb => List.mem_append_left _ hb).level_le (Nat.le_max_left _ _)) (k2.more_le (fun b hb => List.mem_append_right _ hb) (Nat.le_max_right _ _))
/-- the text of data -/
def shownR (p : PyData) : Option Str := if p.showable && decide (p.depth ≤ 60) && decide (p.shown.length ≤ LINE) then some p.shown else none
def reprX (d : D) : Option D := match d with
  | .non => some (.str "None")
  | .bl b => some (.str (if b then "True" else "False"))
  | .int i => if i.natAbs.log2 < 1920 then some (.str (toString i)) else none
  | .str y => if (reprText y).length ≤ LINE then some (.str (reprText y)) else none
  | .tup xs => (toPy (.tup xs)).bind fun p => (shownR p).map .str
  | .lst xs => (toPyQA xs).bind fun ps => (shownR (.list ps)).map .str
  | .dic [] [] => some (.str "{}")
  | _ => none
def reprXL : List D → Option D | [x] => reprX x | _ => none
def rReprX (K : PySem.W.Frag) : List V → Hp → VK → Prop := fun xs H Q => ∃ (v : V) (d : D) (y : D) (u : V) (ca : Str → Option Addr), xs = [v] ∧ Rp K ca H v d ∧ reprX d = some y ∧ (∀ F, Rp K ca F u y) ∧ Q u H
theorem repr_list (I : Inv X pins σ H s) (hu : X.A.units + 64 < cLine) (hg : X.A.guards = some []) {ca : Str → Option Addr} {ad : Addr} {xs : List V} {ds : List D} {ps : List PyData} (h : H ad = some (.lst xs)) (q : RpA X.K ca H xs ds) (e : toPyQA ds = some ps) (hs : PyData.showableAll ps = true) (hd : PyData.depthAll ps + 1 ≤ 60) (hz : (listText (PyData.shownAll ps)).length ≤ sizeLine)
    {Q : VK} (hq : Q (.str (listText (PyData.shownAll ps))) H) : wpAny (model X.prog X.w) X.A (call (.builtin "repr") [.ref ad]) (EP X pins σ Q) X.xe s := by
  obtain ⟨its, rv, ⟨o, n, ho, hc, _, hdt⟩, _⟩ := I.list (SqL.of h)
  obtain ⟨as, bs, h2, hb, k⟩ := RpA.showsQ I q e rv hs fun t ht => Nat.le_trans (listText_mem_le ht) hz
  have hna : ad ∉ bs := not_mem_of_deeper (.list ho hc hdt h2) (by simp only [PyData.depth]; omega) hb
  have hT : s.TypeIs (.ref ad) "list" := ⟨o, ho, hc⟩
  have hu1 : X.A.in1.units = X.A.units + 1 := rfl
  refine call_repr_slot (by omega) hT PySem.F.slot_list_repr.toG ?_
  have fin : ∀ (h' : Heap) (u : Tok) (tk : Nat) (t : Str), t = listText (PyData.shownAll ps) → (∀ b o, s.heap.get? b = some o → h'.get? b = some o) → ∃ x t', Value.str t u = .str x t' ∧ EP X pins σ Q (.str t u) { s with heap := h', toks := tk } := by
    intro h' u tk t et hk
    subst et
    exact ⟨_, _, rfl, .str _, H, I.kept hk, ⟨_, rfl⟩, hq⟩
  cases its with
  | nil =>
    cases h2
    have et : ("[]" : Str) = listText (PyData.shownAll []) := listText_nil.symm
    exact call_list_repr_empty ⟨o, ho, hc⟩ ho hdt (fin s.heap _ _ _ et fun _ _ e => e)
  | cons x l =>
    exact call_list_reprK (as := bs) ho hc hdt hna (by simpa using k.length_eq) (fun i y e => k.item i y (by simpa using e)) hg (fun b _ => Clear.nil b) (by omega) (fun _ _ e => e) (fun h' u tk hk => fin h' u tk _ rfl hk) hz
theorem call_repr_x (hu : X.A.units + 64 < cLine) (hg : X.A.guards = some []) : CallR X (.builtin "repr") (rReprX X.K) := by
  intro pins s σ H xs us Q I r h
  obtain ⟨v, d, y, u, ca, rfl, rp, hy, ru, q⟩ := h
  obtain ⟨w, rfl, rw_⟩ := vals1 r
  cases rp with
  | non =>
    cases hy
    cases ru (fun _ => none)
    cases rw_
    exact PySem.P.repr_of_none ⟨.str _, H, I.tok _, ⟨_, rfl⟩, q⟩
  | bl b =>
    cases hy
    cases ru (fun _ => none)
    cases rw_
    exact PySem.P.repr_of_bool ⟨.str _, H, I.tok _, ⟨s.toks, by cases b <;> rfl⟩, q⟩
  | int i =>
    simp only [reprX] at hy
    split at hy
    · rename_i l
      cases hy
      cases ru (fun _ => none)
      obtain ⟨t, rfl⟩ := rw_
      exact PySem.P.repr_of_int l ⟨.str _, H, I.tok _, ⟨_, rfl⟩, q⟩
    · cases hy
  | str x =>
    simp only [reprX] at hy
    split at hy
    · rename_i l
      cases hy
      cases ru (fun _ => none)
      obtain ⟨t, rfl⟩ := rw_
      exact PySem.P.repr_of_str ⟨.str _, H, I.tok _, ⟨_, rfl⟩, q⟩ (line_le l)
    · cases hy
  | tup h r' =>
    simp only [reprX, Option.bind_eq_some_iff, Option.map_eq_some_iff] at hy
    obtain ⟨p, e1, t, e2, rfl⟩ := hy
    cases ru (fun _ => none)
    have rp' := Rp.tup (ca := ca) h r'
    obtain ⟨as, rd⟩ := Dp.reads I p _ w (rp'.dp e1) rw_
    have fl := rp'.flat e1
    unfold shownR at e2
    split at e2
    · rename_i l
      cases e2
      simp only [Bool.and_eq_true, decide_eq_true_eq] at l
      obtain ⟨⟨w2, w4⟩, w5⟩ := l
      cases rw_
      exact repr_of_reads' rd w2 (PyData.noDict_hsm fl) hg (by omega) (fun _ _ e => e) (fun h' u tk hk => ⟨.str _, H, I.kept hk, ⟨_, rfl⟩, q⟩) (line_le w5)
    · cases e2
  | lst h r' =>
    simp only [reprX, Option.bind_eq_some_iff, Option.map_eq_some_iff] at hy
    obtain ⟨ps, e1, t, e2, rfl⟩ := hy
    cases ru (fun _ => none)
    unfold shownR at e2
    split at e2
    · rename_i l
      simp only [PyData.shown, Option.some.injEq] at e2
      subst e2
      simp only [Bool.and_eq_true, decide_eq_true_eq] at l
      obtain ⟨⟨w2, w4⟩, w5⟩ := l
      simp only [PyData.showable] at w2
      simp only [PyData.depth] at w4
      simp only [PyData.shown] at w5
      cases rw_
      exact repr_list I hu hg h r' e1 w2 (by omega) (line_le w5) q
    · cases e2
  | dic h r' =>
    rename_i ad kvs ds
    cases kvs with
    | cons k ks => cases hy
    | nil =>
      cases r'
      cases hy
      cases ru (fun _ => none)
      obtain ⟨as, rd, hsm⟩ := Rp.readsQ I (p := .dict []) (Rp.dic (ca := ca) h .nil) rfl rw_
      cases rw_
      exact repr_of_reads' rd rfl hsm hg (by have : (PyData.dict []).depth ≤ 2 := (by decide); omega) (fun _ _ e => e) (fun h' u tk hk => ⟨.str _, H, I.kept hk, ⟨_, rfl⟩, q⟩) (by decide)
  | scr h => cases hy
  | ins h c r' => cases hy
  | cls c => cases hy
  | exn0 h c => cases hy
  | exnD h g c r' => cases hy
theorem reprX_str {d y : D} (h : reprX d = some y) : ∃ t, y = .str t := by
  cases d <;> simp only [reprX, Option.bind_eq_some_iff, Option.map_eq_some_iff, reduceCtorEq, Option.some.injEq] at h
  · exact ⟨_, h.symm⟩
  · exact ⟨_, h.symm⟩
  · split at h
    · cases h; exact ⟨_, rfl⟩
    · cases h
  · split at h
    · cases h; exact ⟨_, rfl⟩
    · cases h
  · obtain ⟨p, _, t, _, rfl⟩ := h; exact ⟨_, rfl⟩
  · obtain ⟨p, _, t, _, rfl⟩ := h; exact ⟨_, rfl⟩
  · rename_i ks vs
    cases ks with
    | cons k ks => cases h
    | nil =>
      cases vs with
      | nil => cases h; exact ⟨_, rfl⟩
      | cons v vs => cases h
theorem callD_reprX {K : PySem.W.Frag} {ca : Str → Option Addr} : CallD K ca (rReprX K) reprXL := by
  intro H L N vs ds d Q fr hv e hq
  unfold reprXL at e
  split at e
  · cases hv with
    | cons h r =>
      cases r
      obtain ⟨t, rfl⟩ := reprX_str e
      exact ⟨_, _, _, .str t, ca, rfl, h.rp, e, fun _ => .str t, hq _ H (Ex.refl H) (.str _)⟩
  · cases e
theorem pd_reprX (hK : X.K = z.K) (hu : X.A.units + 64 < cLine) (hgu : X.A.guards = some []) (hm : X.mg "repr" = none) (ha : PBA X z O EX [e] fa) (hg : Gl X "repr" := by rfl) (he : starEach [e] X.env = (false, eval e X.env) :: starEach [] X.env := by rfl) (hpl : (backTo pos (starEach [] X.env)).any (·.1) = false := by rfl) :
    PD X z O EX (.Call (.Name "repr" p) [e] [] pos) (callE reprXL fa) := pd_callB (r := rReprX z.K) (hK ▸ call_repr_x hu hgu) callD_reprX hm ha hg (by decide +kernel) (by decide) (by decide) he hpl
end
/-! ### what an except clause and isinstance ask -/
theorem kit_cls {K : PySem.W.Frag} {D C : Addr} {k : Bool} (hd : PySem.W.hasDictIn K C = true) (ty : PySem.W.typeIn K (.ref C) = some (.type "type")) (m : PySem.W.mroIn K D (.ref C) = some k) : PySem.W.kitCls K (.ref D) (.ref C) = some k := by
  obtain ⟨cd, w, _⟩ := PySem.W.any_some hd
  show (if ((PySem.W.clsIn K C).isSome && PySem.W.typeIn K (.ref C) == some (.type "type")) = true then PySem.W.subIn K (.ref D) (.ref C) else none) = some k
  rw [if_pos (by rw [w, ty]; exact beq_self_eq_true _)]
  exact m
theorem kit_ref {K : PySem.W.Frag} {D C : Addr} {k : Bool} (hd : PySem.W.hasDictIn K C = true) (ty : PySem.W.typeIn K (.ref C) = some (.type "type")) (self : PySem.W.mroIn K D (.ref D) = some true) (m : PySem.W.mroIn K D (.ref C) = some k) : PySem.W.kitOne K (.ref D) (.ref C) = some k := by
  show (if (Value.ref D == Value.ref C) = true then some true else PySem.W.kitCls K (.ref D) (.ref C)) = some k
  split
  · rename_i e
    have e := beq_iff_eq.mp e
    cases e
    rw [self] at m
    exact m
  · exact kit_cls hd ty m
theorem kit_bty {K : PySem.W.Frag} {D : Addr} {T : String} {k : Bool} (mt : PySem.W.kitMeta T = true) (m : PySem.W.mroIn K D (.type T) = some k) : PySem.W.kitOne K (.ref D) (.type T) = some k := by
  show (if (Value.ref D == Value.type T) = true then some true else PySem.W.kitCls K (.ref D) (.type T)) = some k
  rw [if_neg (by intro q; cases q)]
  show (if PySem.W.kitMeta T = true then PySem.W.subIn K (.ref D) (.type T) else none) = some k
  rw [if_pos mt]
  exact m
end PL
set_option Elab.async false
set_option linter.all false
set_option maxRecDepth 100000
set_option maxHeartbeats 4000000
/-! A lambda without parameters, handed to a def that calls it within a try. -/
namespace PL
open PySem PySem.Spec PyProof.Rows L2
end PL
set_option Elab.async false
set_option linter.all false
set_option maxRecDepth 100000
set_option maxHeartbeats 4000000
namespace PL
open PySem PySem.Spec PyProof.Rows L2
/-- try: x = a() / except .. as e: ..; r is what a() gives -/
def tryT (i j : Nat) (ct : Str → Option Bool) (r : R D) (fs : FS) : FS := fun ρ S => match r with
  | .ok d => setE ρ j d >>= fun ρ1 => R.ok (.nx, ρ1, S)
  | .exc c ns ws => if ct c = some true then setE ρ i (.exn c ns ws) >>= fun ρ1 => noX (fs ρ1 S) >>= fun r => R.ok (r.1, r.2.1.set i none, r.2.2) else R.bad
  | .bad => R.bad
end PL
set_option Elab.async false
set_option linter.all false
set_option maxRecDepth 100000
set_option maxHeartbeats 4000000
/-! Defs that get such a lambda: what they promise; calls of them. -/
namespace PL
open PySem PySem.Spec PyProof.Rows L2
/-- what such a def makes of the lambda's answer -/
def lamE (KO : List Nat) (F : R D → R D) (fE : FE) : FE := fun ρ S => noX (F (fE (wipeE ρ KO) [] >>= fun x => R.ok x.1)) >>= fun d => R.ok (d, S)
end PL
set_option Elab.async false
set_option linter.all false
set_option maxRecDepth 100000
set_option maxHeartbeats 4000000
/-! Methods that may raise; a class's methods by keyword, through an instance; t * 1; the text of whatever. -/
namespace PL
open PySem PySem.Spec PyProof.Rows L2 ClX
section
variable {X : Cx} {z : Z} {O : List Nat} {EX : EXT} {a b e o : Expr} {es : List Expr} {f g fx : FE} {fa fk : FA} {C fA : Addr} {fd : FuncData} {k : Nat} {ps ks : List Str} {x m : Str} {p pos apos : Pos} {sp : Sp} {E : XK} {tx ta : TE} {t tk : TA} {kws : List Keyword}
variable {B : List Addr} {P : List (Nat × Addr)} {σ : L2.St} {H : Hp} {ρ : Env} {S : List D} {pins : List (Addr × Obj)} {s : Shared}
/-! ### e[i], an instance, its __getitem__ may raise -/
def itmX (cn : Str) (F : List D → R D) (f g : FE) : FE := fun ρ S => f ρ S >>= fun x => g ρ x.2 >>= fun y => match x.1 with
  | .ins c _ _ => if c = cn then F [x.1, y.1] >>= fun d => R.ok (d, y.2) else R.bad
  | _ => R.bad
@[simp ↓] theorem wp_itmX {cn : Str} {F : List D → R D} {f g : FE} {ρ : Env} {S : List D} {Q : D × List D → Prop} {EX : EXT} : Sat (itmX cn F f g ρ S) Q EX ↔ Sat (f ρ S >>= fun x => g ρ x.2 >>= fun y => match x.1 with
  | .ins c _ _ => if c = cn then F [x.1, y.1] >>= fun d => R.ok (d, y.2) else R.bad
  | _ => R.bad) Q EX := Iff.rfl
end
end PL
set_option Elab.async false
set_option linter.all false
set_option maxRecDepth 100000
set_option maxHeartbeats 4000000
namespace PL
open PySem PySem.Spec PyProof.Rows L2 ClX
section
variable {X : Cx} {z : Z} {O : List Nat} {EX : EXT} {a b e o : Expr} {es : List Expr} {f g fx : FE} {fa fk : FA} {C fA : Addr} {fd : FuncData} {k : Nat} {ps ks : List Str} {x m : Str} {p pos apos : Pos} {sp : Sp} {E : XK} {tx ta : TE} {t tk : TA} {kws : List Keyword}
variable {B : List Addr} {P : List (Nat × Addr)} {σ : L2.St} {H : Hp} {ρ : Env} {S : List D} {pins : List (Addr × Obj)} {s : Shared}
/-! ### C.m(..), m a classmethod that may raise -/
def cmX (cn : Str) (F : List D → R D) (fa : FA) : FE := fun ρ S => fa ρ S >>= fun x => F (.cls cn :: x.1) >>= fun d => R.ok (d, x.2)
/-! ### .. by keyword -/
def cmKX (cn : Str) (F : List D → R D) (n : Nat) (ix : List Nat) (fk : FA) : FE := fun ρ S => fk ρ S >>= fun x => if x.1.length = n then F (pick ix (.cls cn :: x.1)) >>= fun d => R.ok (d, x.2) else R.bad
/-! ### o.m(..), o an instance -/
def imD (cn m : Str) (F : List D → R D) (f : FE) (fa : FA) : FE := fun ρ S => f ρ S >>= fun x => match x.1 with
  | .ins c ns _ => if c = cn ∧ ns.contains m = false then fa ρ x.2 >>= fun y => noX (F (.cls cn :: y.1)) >>= fun d => R.ok (d, y.2) else R.bad
  | _ => R.bad
theorem lookup_none_of {m : Str} : ∀ {fs : List (Str × V)}, (fs.map (·.1)).contains m = false → fs.lookup m = none
  | [], _ => rfl
  | (n, v) :: r, h => by
    simp only [List.map_cons, List.contains_cons, Bool.or_eq_false_iff] at h
    rw [List.lookup_cons, h.1]
    exact lookup_none_of h.2
end
end PL
set_option Elab.async false
set_option linter.all false
set_option maxRecDepth 100000
set_option maxHeartbeats 4000000
/-! t * 1; the text of an instance or of data; what is wanted of the new forms. -/
namespace PL
open PySem PySem.Spec PyProof.Rows L2 ClX
section
variable {X : Cx} {z : Z} {O : List Nat} {EX : EXT} {a b e : Expr} {f g : FE} {fa : FA} {C fA : Addr} {fd : FuncData} {k : Nat} {ps : List Str} {p pos : Pos}
/-! ### repr(e), an instance or data -/
def reprAC (cn : Str) (F : List D → R D) (f : FE) : FE := fun ρ S => f ρ S >>= fun x => match x.1 with
  | .ins c _ _ => if c = cn then noX (F [x.1]) >>= fun d => match d with
    | .str y => R.ok (.str y, x.2)
    | _ => R.bad else R.bad
  | d => R.of (reprX d) >>= fun y => R.ok (y, x.2)
/-! ### what is wanted -/
@[simp ↓] theorem wp_reprAC_ins {cn : Str} {F : List D → R D} {f : FE} {ρ : Env} {S : List D} {Q : D × List D → Prop} {EX : EXT} : Sat (reprAC cn F f ρ S) Q EX ↔ Sat (f ρ S >>= fun x => match x.1 with
  | .ins c _ _ => if c = cn then noX (F [x.1]) >>= fun d => match d with
    | .str y => R.ok (.str y, x.2)
    | _ => R.bad else R.bad
  | d => R.of (reprX d) >>= fun y => R.ok (y, x.2)) Q EX := Iff.rfl
@[simp ↓] theorem wp_cmX {cn : Str} {F : List D → R D} {fa : FA} {ρ : Env} {S : List D} {Q : D × List D → Prop} {EX : EXT} : Sat (cmX cn F fa ρ S) Q EX ↔ Sat (fa ρ S >>= fun x => F (.cls cn :: x.1) >>= fun d => R.ok (d, x.2)) Q EX := Iff.rfl
@[simp ↓] theorem wp_cmKX {cn : Str} {F : List D → R D} {n : Nat} {ix : List Nat} {fk : FA} {ρ : Env} {S : List D} {Q : D × List D → Prop} {EX : EXT} : Sat (cmKX cn F n ix fk ρ S) Q EX ↔ Sat (fk ρ S >>= fun x => if x.1.length = n then F (pick ix (.cls cn :: x.1)) >>= fun d => R.ok (d, x.2) else R.bad) Q EX := Iff.rfl
@[simp ↓] theorem wp_imD {cn m : Str} {F : List D → R D} {f : FE} {fa : FA} {ρ : Env} {S : List D} {Q : D × List D → Prop} {EX : EXT} : Sat (imD cn m F f fa ρ S) Q EX ↔ Sat (f ρ S >>= fun x => match x.1 with
  | .ins c ns _ => if c = cn ∧ ns.contains m = false then fa ρ x.2 >>= fun y => noX (F (.cls cn :: y.1)) >>= fun d => R.ok (d, y.2) else R.bad
  | _ => R.bad) Q EX := Iff.rfl
@[simp ↓] theorem wp_lamE {KO : List Nat} {F : R D → R D} {fE : FE} {ρ : Env} {S : List D} {Q : D × List D → Prop} {EX : EXT} : Sat (lamE KO F fE ρ S) Q EX ↔ Sat (noX (F (fE (wipeE ρ KO) [] >>= fun x => R.ok x.1)) >>= fun d => R.ok (d, S)) Q EX := Iff.rfl
end
end PL
set_option Elab.async false
set_option linter.all false
set_option maxRecDepth 100000
set_option maxHeartbeats 4000000
namespace PL
open PySem PySem.Spec PyProof.Rows L2
/-! the goal that k_head leaves, where two defs make lambdas -/
end PL
set_option Elab.async false
set_option linter.all false
set_option maxRecDepth 100000
set_option maxHeartbeats 4000000
/-! Raising, trying; the texts of any data. -/
namespace PL
open PySem PySem.Spec PyProof.Rows L2 ClX
@[simp ↓] theorem wp_exc {α : Type} {c : Str} {ns : List Str} {vs : List D} {Q : α → Prop} {EX : EXT} : Sat (R.exc c ns vs : R α) Q EX ↔ EX c ns vs := Iff.rfl
@[simp ↓] theorem wp_mkIX {c : Str} {nm : List Str} {F : List D → R (List D)} {n m : Nat} {ix : List Nat} {fa fk : FA} {ρ : Env} {S : List D} {Q : D × List D → Prop} {EX : EXT} : Sat (mkIX c nm F n m ix fa fk ρ S) Q EX ↔ Sat (fa ρ S >>= fun x => fk ρ x.2 >>= fun y => if x.1.length = n ∧ y.1.length = m then F (pick ix (x.1 ++ y.1)) >>= fun es => R.ok (.ins c nm es, y.2) else R.bad) Q EX := Iff.rfl
@[simp ↓] theorem wp_callX {F : List D → R D} {dds : List D} {fa : FA} {ρ : Env} {S : List D} {Q : D × List D → Prop} {EX : EXT} : Sat (callX F dds fa ρ S) Q EX ↔ Sat (fa ρ S >>= fun x => F (x.1 ++ dds) >>= fun d => R.ok (d, x.2)) Q EX := Iff.rfl
@[simp ↓] theorem wp_raiseS {c : Str} {nms : List Str} {fa : FA} {ρ : Env} {S : List D} {Q : Ctl × Env × List D → Prop} {EX : EXT} : Sat (raiseS c nms fa ρ S) Q EX ↔ Sat (fa ρ S >>= fun x => if x.1.length = nms.length ∧ x.1.length ≤ 1000 then R.exc c nms.reverse x.1.reverse else R.bad) Q EX := Iff.rfl
/-! the text of any data -/
structure TxP (n k : Nat) (p : PyData) : Prop where
  nice : Nice n p.shown
  show_ : p.showable = true
  deep : p.depth ≤ k
structure TxPA (n k : Nat) (ps : List PyData) : Prop where
  nice : NiceL n (PyData.shownAll ps)
  show_ : PyData.showableAll ps = true
  deep : PyData.depthAll ps ≤ k
def TxR (n k : Nat) (d : D) : Prop := ∃ p, toPy d = some p ∧ TxP n k p
def TxA (n k : Nat) (ds : List D) : Prop := ∃ ps, toPyA ds = some ps ∧ TxPA n k ps
/-- .. an item, it may be {} -/
def TxQ (n k : Nat) (d : D) : Prop := ∃ p, toPyQ d = some p ∧ TxP n k p
def TxQA (n k : Nat) (ds : List D) : Prop := ∃ ps, toPyQA ds = some ps ∧ TxPA n k ps
theorem TxP.mono {n k n' k' : Nat} {p : PyData} (q : TxP n k p) (hn : n ≤ n') (hk : k ≤ k') : TxP n' k' p := ⟨q.nice.mono hn, q.show_, Nat.le_trans q.deep hk⟩
theorem TxR.mono {n k n' k' : Nat} {d : D} (h : TxR n k d) (hn : n ≤ n') (hk : k ≤ k') : TxR n' k' d := by
  obtain ⟨p, e, q⟩ := h
  exact ⟨p, e, q.mono hn hk⟩
theorem TxQ.mono {n k n' k' : Nat} {d : D} (h : TxQ n k d) (hn : n ≤ n') (hk : k ≤ k') : TxQ n' k' d := by
  obtain ⟨p, e, q⟩ := h
  exact ⟨p, e, q.mono hn hk⟩
theorem TxR.q {n k : Nat} {d : D} (h : TxR n k d) : TxQ n k d := by
  obtain ⟨p, e, q⟩ := h
  refine ⟨p, ?_, q⟩
  cases d with
  | dic ks vs => cases e
  | _ => exact e
theorem TxR.non {k : Nat} : TxR 4 k .non := ⟨_, rfl, (show Nice 4 ("None" : String) from nice_of (by decide)), rfl, Nat.zero_le _⟩
theorem TxR.bl {k : Nat} (b : Bool) : TxR 5 k (.bl b) := ⟨_, rfl, by cases b; exact (show Nice 5 ("False" : String) from nice_of (by decide)); exact (show Nice 5 ("True" : String) from nice_of (by decide)), rfl, Nat.zero_le _⟩
theorem TxR.int {n k : Nat} {i : Int} (h : Nice n (toString i : String)) (l : i.natAbs.log2 < 1920) : TxR n k (.int i) := ⟨_, rfl, h, by simp only [PyData.showable, decide_eq_true_eq]; exact l, Nat.zero_le _⟩
theorem TxR.i3 {k : Nat} {i : Int} (h0 : 0 ≤ i) (h1 : i < 1000) : TxR 4 k (.int i) := .int (nice_int h0 h1) (log_small h0 h1)
theorem TxR.str {n k : Nat} {x : Str} (h : Nice n x) : TxR (2 * n + 2) k (.str x) := ⟨_, rfl, by simp only [PyData.shown]; exact nice_repr h, rfl, Nat.zero_le _⟩
theorem TxR.tup {n k : Nat} {ds : List D} (h : TxA n k ds) : TxR (n + 3) (k + 1) (.tup ds) := by
  obtain ⟨ps, e, q⟩ := h
  exact ⟨.tuple ps, by simp only [toPy, e, Option.map_some], by simp only [PyData.shown]; exact nice_tuple q.nice, by simp only [PyData.showable]; exact q.show_, by simp only [PyData.depth]; have := q.deep; omega⟩
theorem TxR.lst {n k : Nat} {ds : List D} (h : TxA n k ds) : TxR (n + 2) (k + 1) (.lst ds) := by
  obtain ⟨ps, e, q⟩ := h
  exact ⟨.list ps, by simp only [toPy, e, Option.map_some], by simp only [PyData.shown]; exact nice_list q.nice, by simp only [PyData.showable]; exact q.show_, by simp only [PyData.depth]; have := q.deep; omega⟩
theorem TxQ.dic0 {k : Nat} : TxQ 2 (k + 1) (.dic [] []) := ⟨_, rfl, by simp only [PyData.shown]; exact (show Nice 2 ("{}" : String) from nice_of (by decide)), rfl, by simp [PyData.depth, PyData.depthKv]⟩
theorem TxA.nil {k : Nat} : TxA 0 k [] := ⟨[], rfl, .nil, rfl, Nat.zero_le _⟩
theorem TxA.cons {n m k : Nat} {d : D} {ds : List D} (h : TxR n k d) (r : TxA m k ds) : TxA (n + m + 2) k (d :: ds) := by
  obtain ⟨p, e, q⟩ := h
  obtain ⟨ps, e2, q2⟩ := r
  exact ⟨p :: ps, by simp only [toPyA, e, e2, Option.bind_some, Option.map_some], .cons q.nice q2.nice, by simp only [PyData.showableAll, q.show_, q2.show_, Bool.and_self], by simp only [PyData.depthAll]; exact Nat.max_le.mpr ⟨q.deep, q2.deep⟩⟩
theorem TxQA.nil {k : Nat} : TxQA 0 k [] := ⟨[], rfl, .nil, rfl, Nat.zero_le _⟩
theorem TxQA.cons {n m k : Nat} {d : D} {ds : List D} (h : TxQ n k d) (r : TxQA m k ds) : TxQA (n + m + 2) k (d :: ds) := by
  obtain ⟨p, e, q⟩ := h
  obtain ⟨ps, e2, q2⟩ := r
  exact ⟨p :: ps, by simp only [toPyQA, e, e2, Option.bind_some, Option.map_some], .cons q.nice q2.nice, by simp only [PyData.showableAll, q.show_, q2.show_, Bool.and_self], by simp only [PyData.depthAll]; exact Nat.max_le.mpr ⟨q.deep, q2.deep⟩⟩
theorem TxA.all {n k : Nat} : ∀ {ds : List D}, (∀ d ∈ ds, TxR n k d) → TxA ((n + 2) * ds.length) k ds
  | [], _ => .nil
  | d :: ds, h => by
    have q := TxA.cons (h d List.mem_cons_self) (TxA.all (ds := ds) fun x hx => h x (List.mem_cons_of_mem _ hx))
    have e : n + (n + 2) * ds.length + 2 = (n + 2) * (d :: ds).length := by rw [List.length_cons, Nat.mul_succ]; omega
    rw [e] at q
    exact q
theorem repr_tx {n k : Nat} {ds : List D} (h : TxQA n k ds) (hn : n + 2 ≤ LINE) (hk : k + 1 ≤ 60) : ∃ t : Str, reprXL [.lst ds] = some (.str t) ∧ Nice (n + 2) t := by
  obtain ⟨ps, e, q⟩ := h
  have q1 := nice_list q.nice
  have es : shownR (.list ps) = some (listText (PyData.shownAll ps)) := by
    unfold shownR
    rw [if_pos]
    · simp only [PyData.shown]
    · have h2 := q1.2
      have h3 := q.deep
      have e1 : (PyData.list ps).depth = PyData.depthAll ps + 1 := by simp only [PyData.depth]
      have e2 : (PyData.list ps).shown = listText (PyData.shownAll ps) := by simp only [PyData.shown]
      have e3 : (PyData.list ps).showable = true := by simp only [PyData.showable, q.show_]
      rw [e1, e2, e3]
      simp only [Bool.true_and, Bool.and_eq_true, decide_eq_true_eq]
      exact ⟨by omega, by omega⟩
  refine ⟨_, ?_, q1⟩
  show ((toPyQA ds).bind fun ps => (shownR (.list ps)).map D.str) = _
  rw [e]
  show (shownR (.list ps)).map D.str = _
  rw [es]
  rfl
@[simp] theorem reprXL_non : reprXL [.non] = some (.str "None") := rfl
@[simp] theorem reprXL_int (i : Int) : reprXL [.int i] = if i.natAbs.log2 < 1920 then some (.str (toString i)) else none := rfl
/-! texts of small numbers, below 0 too; of tuples -/
theorem neg_str (n : Nat) : (Str.ofString (toString (Int.negSucc n))) = ⟨(45 :: (Nat.toDigits 10 (n + 1)).map Char.toNat).toArray⟩ := by
  rw [Str.ofString_eq_toList]
  have : (toString (Int.negSucc n)) = "-" ++ String.ofList (Nat.toDigits 10 (n + 1)) := rfl
  rw [this, String.toList_append]
  first
    | rfl
    | (rw [String.toList_ofList]; rfl)
    | simp
theorem nice_intZ {i : Int} (h0 : -999 ≤ i) (h1 : i < 1000) : Nice 5 (toString i : String) := by
  cases i with
  | ofNat n => exact (nice_int (i := Int.ofNat n) (Int.natCast_nonneg n) h1).mono (by omega)
  | negSucc n =>
    have := dig_ok ⟨n + 1, by omega⟩
    simp only [Bool.and_eq_true, List.all_eq_true, decide_eq_true_eq] at this
    rw [neg_str]
    refine ⟨fun c hc => ?_, ?_⟩
    · rcases List.mem_cons.mp (show c ∈ 45 :: (Nat.toDigits 10 (n + 1)).map Char.toNat by simpa using hc) with rfl | hc
      · omega
      · obtain ⟨d, hd, rfl⟩ := List.mem_map.mp hc
        exact this.1 d hd
    · show (Array.size _) ≤ 5
      simp
      omega
theorem log_smallZ {i : Int} (h0 : -999 ≤ i) (h1 : i < 1000) : i.natAbs.log2 < 1920 := by
  by_cases z : i.natAbs = 0
  · rw [z]; decide
  · exact Nat.lt_trans ((Nat.log2_lt z).mpr (show i.natAbs < 2 ^ 14 by omega)) (by decide)
theorem TxR.iZ {k : Nat} {i : Int} (h0 : -999 ≤ i) (h1 : i < 1000) : TxR 5 k (.int i) := .int (nice_intZ h0 h1) (log_smallZ h0 h1)
/-! a thunk tried -/
@[simp ↓] theorem wp_tryT_ok {i j : Nat} {ct : Str → Option Bool} {d : D} {fs : FS} {ρ : Env} {S : List D} {Q : Ctl × Env × List D → Prop} {EX : EXT} : Sat (tryT i j ct (.ok d) fs ρ S) Q EX ↔ Sat (setE ρ j d >>= fun ρ1 => R.ok (.nx, ρ1, S)) Q EX := Iff.rfl
/-! what a thunk gives, by equations -/
/-! the goal that k_head leaves, where the defs nms make lambdas -/
end PL
set_option Elab.async false
set_option linter.all false
set_option maxRecDepth 100000
set_option maxHeartbeats 4000000
/-! Own exceptions as values: made by position, by name, without anything. -/
namespace PL
open PySem PySem.Spec PyProof.Rows L2 Builtin Builtin.ObjectAttr
section
variable {prog : Program} {w : World} {A : Around} {hp : Heap} {gs : Array GenState} {dr : Drawn} {tk : Nat} {os : OsState}
variable {cn qn : Str} {C ns fI : Addr} {b1 b2 mroB sb : List Value} {hd : Bool} {sl : List Str} {ab : Bool} {co : Option Bool} {dx : Option Addr} {z0 z1 z2 z3 z5 : Option Value} {Bn newId initId : String} {us : List Value} {kw : List (Str × Value)}
/-- the check ahead of __new__, keywords and all -/
theorem kw_new_check {M : Model} {E : Value → Shared → Prop} {Q : Unit → Shared → Prop} (F : ExcBaseFacts Bn newId initId mroB)
    (same : ∀ Y : String, b2.contains (.type Y) = mroB.contains (.type Y))
    (hC : hp.get? C = some (excClassObj cn qn C ns b1 b2 hd sl sb ab co dx z0 z1 z2 z3 z5 newId))
    (go : Q () ⟨hp, gs, dr, tk, os⟩) : wpAny M A (checkBuiltinCall newId ⟨.ref C :: us, kw⟩) Q E ⟨hp, gs, dr, tk, os⟩ := by
  have inB : (Value.ref C :: b2).contains (.type Bn) = true := by
    rw [List.contains_cons, same, F.hasB, Bool.or_true]
  have star := F.noStar
  simp only [checkBuiltinCall, F.newKind, F.newSplit, F.newRow]
  repeat (first
    | refine wpAny_loadPart_at hC ?_
    | (refine wpAny_isSubtype_exc hC ?_
       rw [inB])
    | refine wpAny_staticBase_exc hC ?_
    | refine wpAny_madeBy_exc hC ?_
    | simp only [bne_self_eq_false, Bool.false_eq_true, if_false]
    | wp_step)
  all_goals exact go
/-- __new__ takes keywords and does nothing with them -/
theorem kw_new {R : Result → Shared → Prop} (F : ExcBaseFacts Bn newId initId mroB)
    (same : ∀ Y : String, b2.contains (.type Y) = mroB.contains (.type Y)) (few : us.length ≤ sizeLine)
    (hC : hp.get? C = some (excClassObj cn qn C ns b1 b2 hd sl sb ab co dx z0 z1 z2 z3 z5 newId))
    (go : R (.ok (.ret (.ref (hp.objs.size + 1))))
      ⟨(hp.push (PySem.W.kdv_tup us)).push (PySem.HandSPX.excO C hp.objs.size), gs, dr, tk, os⟩) :
    codeAny (model prog w) A (.builtin newId ⟨.ref C :: us, kw⟩) R ⟨hp, gs, dr, tk, os⟩ := by
  have hE := F.ends
  have mem : ∀ Y : String, (Value.ref C :: b2).contains (.type Y) = mroB.contains (.type Y) := by
    intro Y
    rw [List.contains_cons, same]
    rfl
  have inB := (mem Bn).trans F.hasB
  have noA := (mem "AttributeError").trans F.noAttr
  have noN := (mem "NameError").trans F.noName
  refine codeAny_builtinAt F.entry ?_
  unfold Builtin.«BaseException.__new__»
  refine PySem.wpAt_bind ?_
  change PySem.wpAt _ _ _ (stack >>= _) _ _ _
  refine PySem.wpAt_bind (PySem.wpAt_stack fun _ _ => PySem.wpAt_of_wpAny ?_)
  wp_walk
  refine PySem.wpAt_of_wpAny ?_
  rw [F.owner]
  repeat (first
    | with_reducible refine wpAny_madeHere_exc F.canon hC ?_
    | with_reducible refine wpAny_loadPart_at hC ?_
    | (with_reducible refine wpAny_isSubtype_exc hC ?_
       first
         | rw [inB]
         | rw [noA]
         | rw [noN])
    | wp_step)
  change R _ _
  rw [Heap.size_push]
  exact go
/-- the class is called: __new__, its own __init__ -/
theorem kw_made {R : Result → Shared → Prop} (F : ExcBaseFacts Bn newId initId mroB)
    (same : ∀ Y : String, b2.contains (.type Y) = mroB.contains (.type Y)) (few : us.length ≤ sizeLine)
    (hC : hp.get? C = some (excClassObj cn qn C ns b1 b2 hd sl sb ab co dx z0 z1 z2 z3 z5 newId))
    (ini : PySem.W.Looks (model prog w) hp (typeLookup (.ref C) "__init__") (some (.ref fI)))
    (bnd : ∀ v, PySem.W.Looks (model prog w) hp (bindSpecial (.ref fI) v) (.ref fI, [v]))
    (go : codeAny (model prog w) (A.under (.builtin "type.__call__" ⟨.ref C :: us, kw⟩)) (.call (.ref fI) ⟨.ref (hp.objs.size + 1) :: us, kw⟩)
      (PySem.W.InitBack (hp.objs.size + 1) R)
      ⟨(hp.push (PySem.W.kdv_tup us)).push (PySem.HandSPX.excO C hp.objs.size), gs, dr, tk, os⟩) :
    codeAny (model prog w) A (.call (.ref C) ⟨us, kw⟩) R ⟨hp, gs, dr, tk, os⟩ := by
  have t1 := tc_lookup
  have t2 := tc_bind (.ref C)
  have t3 := tc_sub
  have isT : (⟨hp, gs, dr, tk, os⟩ : Shared).TypeIs (.ref C) "type" := ⟨_, hC, rfl⟩
  refine codeAny_of_tree ?_
  change wpAny _ _ (callAny (.ref C) _) _ _ _
  repeat (any_goals (first
    | assumption
    | with_reducible refine wpAny_loadPart_at hC ?_
    | wp_step))
  refine ⟨rfl, ?_⟩
  refine codeAny_call_builtin_at (Code.quiet_builtin _ (by decide +kernel)) entry_typeCall ?_
  simp only [checkBuiltinCall, tc_kind, tc_split]
  repeat (any_goals (first
    | assumption
    | with_reducible refine wpAny_loadPart_at hC ?_
    | with_reducible refine wpAny_onRaise ?_
    | with_reducible refine wpAny_map ?_
    | wp_step))
  refine codeAny_call_builtin_code (Code.quiet_builtin _ F.quiet) (kw_new_check F same hC ?_)
  refine kw_new (us := us) F same few hC ?_
  change wpAny _ _ _ _ _ _
  have kp : ∀ b o, hp.get? b = some o → ((hp.push (PySem.W.kdv_tup us)).push (PySem.HandSPX.excO C hp.objs.size)).get? b = some o :=
    fun b o e => Heap.get?_push_of_some _ (Heap.get?_push_of_some _ e)
  have hC2 := kp _ _ hC
  have gO : ((hp.push (PySem.W.kdv_tup us)).push (PySem.HandSPX.excO C hp.objs.size)).get? (hp.objs.size + 1) = some (PySem.HandSPX.excO C hp.objs.size) := by
    heap_get
  have own : (Value.ref C :: b2).contains (.ref C) = true := by simp
  have l1 := ini.keeps kp
  have l2 := (bnd (.ref (hp.objs.size + 1))).keeps kp
  unfold isInstance
  repeat (first
    | with_reducible refine wpAny_loadPart_at gO ?_
    | (with_reducible refine wpAny_isSubtype_exc hC2 ?_
       rw [own])
    | wp_step)
  change wpAny _ _ (typeLookup (.ref C) _) _ _ _
  refine l1.at ?_
  refine wpAny_holding (wpAny_bind (l2.at ?_))
  refine wpAny_bind (wpAny_call (codeAny_mono go fun r s' z => ?_))
  match r, z with
  | .ok (.ret v), z =>
    obtain ⟨rfl, z⟩ := z
    first
      | exact wpAny_pure (wpAny_pure z)
      | (refine wpAny_pure ?_
         wp_walk
         exact z)
  | .ok .next, z => exact z.elim
  | .ok .brk, z => exact z.elim
  | .ok .cont, z => exact z.elim
  | .error er, z => exact z
end
section
variable {X : Cx} {z : Z} {O : List Nat} {EX : EXT} {pins : List (Addr × Obj)} {σ : L2.St} {H : Hp} {s : Shared} {C fI : Addr} {k : Nat} {fd : FuncData} {ps nms ks : List Str} {e : Expr} {es : List Expr} {kws : List Keyword} {fa fk : FA} {x : Str} {p pos : Pos}
/-- X(..), a value: n the positional ones with self -/
theorem run_mkxv {Q : VK} {us ws : List Value} {vs : List V} {ix : List Nat} {n : Nat} (T : OxB X.K C) (iC : PySem.W.findIn X.K (.ref C) "__init__" = some (some (.ref fI))) (hf : PySem.W.isFn X.K (.ref fI) = true)
    (G : FnG X.prog X.w X.K X.mg X.base k fI fd ps (spXI C nms)) (hr : Rm (k + 1) X.A) (hb : KBd X.K fd ps ks n (0 :: ix.map (· + 1))) (l1 : us.length + 1 = n) (l2 : ws.length = ks.length) (few : us.length ≤ 1000)
    (I : Inv X pins σ H s) (r : Vals vs (us ++ ws)) (hl : (pick ix vs).length = nms.length)
    (q : ∀ (a d : Addr) (H' : Hp), H a = none → H d = none → a ≠ d → H' a = some (exT a C (some d)) → H' d = some (.xd (nms.zip (pick ix vs)).reverse) → (∀ b, b ≠ d → b ≠ a → H' b = H b) → Q (.ref a) H') :
    wpAny (model X.prog X.w) X.A (call (.ref C) us (ks.zip ws)) (EP X pins σ Q) X.xe s := by
  obtain ⟨B, newId, initId, bmB, FB, SF, T⟩ := T.ex
  obtain ⟨nm, N', qn, bs, bm, hdct, sn, sub, ab, col, dd, k0, k1, k2, k3, k5, hC, hT⟩ := PySem.W.excInit_of I.kIn T.q
  obtain ⟨oI, hoI, hcI⟩ : ∃ oI, s.heap.get? fI = some oI ∧ oI.cls = .type "function" := by
    obtain ⟨o, w1, w2⟩ := Option.map_eq_some_iff.mp (show (X.K.lookup fI).map (·.cls) = some (.type "function") from beq_iff_eq.mp hf)
    exact ⟨o, I.kIn _ _ w1, w2⟩
  have hlook := PySem.W.looks_findIn (M := model X.prog X.w) I.kIn iC
  have hbnd := fun self => PySem.W.exc_bind (M := model X.prog X.w) hoI hcI self
  obtain ⟨hp, g, dr, tk, os⟩ := s
  have le1 : hp.objs.size ≤ hp.objs.size + 1 := Nat.le_succ _
  have hn : H (hp.objs.size + 1) = none := I.hok.fresh le1
  have kk : ∀ b o, hp.get? b = some o → ((hp.push (PySem.W.kdv_tup us)).push (PySem.HandSPX.excO C hp.objs.size)).get? b = some o := fun b o w => Heap.get?_push_of_some _ (Heap.get?_push_of_some _ w)
  have ge : ((hp.push (PySem.W.kdv_tup us)).push (PySem.HandSPX.excO C hp.objs.size)).get? (hp.objs.size + 1) = some (PySem.HandSPX.excO C hp.objs.size) := by heap_get
  have I2 := I.laid (t' := tk) (a := hp.objs.size + 1) (o := exo (hp.objs.size + 1) C none) kk le1 (exo_ok ge)
  have ep : pick (0 :: ix.map (· + 1)) (V.ref (hp.objs.size + 1) :: vs) = V.ref (hp.objs.size + 1) :: pick ix vs := by
    unfold pick
    simp [List.filterMap_map, Function.comp_def]
  have r2 : Vals (V.ref (hp.objs.size + 1) :: vs) ((Value.ref (hp.objs.size + 1) :: us) ++ ws) := .cons rfl r
  have r3 := vals_pick r2 (0 :: ix.map (· + 1))
  rw [ep] at r3
  have hsp : spXI C nms (V.ref (hp.objs.size + 1) :: pick ix vs) (upd H (hp.objs.size + 1) (exo (hp.objs.size + 1) C none)) (fun v H2 => v = .non ∧ ∃ (d : Addr), H2 (hp.objs.size + 1) = some (exo (hp.objs.size + 1) C (some d)) ∧ H2 d = some (exd d (nms.zip (pick ix vs)).reverse) ∧ H d = none ∧ d ≠ hp.objs.size + 1 ∧ (∀ b, b ≠ hp.objs.size + 1 → b ≠ d → H2 b = H b)) (fun _ _ _ => False) := by
    refine ⟨_, pick ix vs, rfl, hl, upd_same, fun dx H' n ne ha hd hk => ⟨rfl, dx, ha, hd, by rw [upd_ne ne] at n; exact n, ne, fun b h1 h2 => ?_⟩⟩
    rw [hk b h1 h2, upd_ne h1]
  have hgu : (X.A.under (.builtin "type.__call__" ⟨.ref C :: us, ks.zip ws⟩)).guards = some [] := by
    show pushGuards (Code.guards (.builtin "type.__call__" ⟨.ref C :: us, ks.zip ws⟩)) X.A.guards = some []
    rw [hr.g]
    first
      | rfl
      | simp [Code.guards, Code.isGuard, pushGuards]
  have hbb := hb.to ⟨(hp.push (PySem.W.kdv_tup us)).push (PySem.HandSPX.excO C hp.objs.size), g, dr, tk, os⟩ (Value.ref (hp.objs.size + 1) :: us) ws I2.kIn l1 l2
  refine wpAny_call (kw_made FB hT (by rw [sizeLine_eq]; omega) hC hlook hbnd ?_)
  refine codeAny_mono (G.go _ X.stack _ _ ⟨Value.ref (hp.objs.size + 1) :: us, ks.zip ws⟩ _ _ _ (fun _ _ _ => False) (hr.r.make C us (ks.zip ws)) hgu (I2.env0.make C us (ks.zip ws)) hbb r3 hsp) fun r s' hq => ?_
  match r, hq with
  | .ok (.ret u), hq =>
    obtain ⟨v, H2, os2, bare2, un2, hok2, rv, ev, d, ea, ed, hd1, nd, hk⟩ := hq
    subst ev
    obtain ⟨h2, g2, d2, t2, os'⟩ := s'
    refine ⟨rv, ?_⟩
    obtain ⟨t0, Gh, J, kG, gn, hoe, na⟩ := mk_end0 (d2 := d2) (t2 := t2) I le1 kk un2 hok2 os2 bare2 ea ed hd1
    have J2 : Inv X pins σ (upd (upd (del H2 (hp.objs.size + 1)) d (.xd (nms.zip (pick ix vs)).reverse)) (hp.objs.size + 1) (exT (hp.objs.size + 1) C (some d))) ⟨h2, g2, d2, t2, os'⟩ :=
      landX (s' := ⟨h2, g2, d2, t2, os'⟩) J (fun b o w _ => w) (fun b o w => kG b o w) (Heap.UpToSlots.of_keeps kG) rfl bare2 na gn hoe rfl rfl rfl
    refine ⟨.ref (hp.objs.size + 1), _, J2, rfl, q _ d _ hn hd1 (Ne.symm nd) upd_same (by rw [upd_ne nd, upd_same]) fun b h1 h2 => ?_⟩
    rw [upd_ne h2, upd_ne h1, del_ne h2, hk b h2 h1]
  | .ok .next, hq => exact False.elim hq
  | .ok .brk, hq => exact False.elim hq
  | .ok .cont, hq => exact False.elim hq
  | .error er, hq => exact False.elim hq
/-- what has been made, as data -/
theorem rp_made {cn : Str} {K : PySem.W.Frag} {ca : Str → Option Addr} {L : List Addr} {H H' : Hp} {a d : Addr} {vs : List V} {ds : List D} (hca : ca cn = some C) (n1 : a ∉ L) (n2 : d ∉ L) (ha : H' a = some (exT a C (some d))) (hd : H' d = some (.xd (nms.zip vs).reverse)) (hk : Ex (Frz H L) (Frz H' L)) (hl : vs.length = nms.length) (hv : RpA K ca (Frz H L) vs ds) :
    Rp K ca (Frz H' L) (.ref a) (.exn cn nms.reverse ds.reverse) := by
  have e1 : (nms.zip vs).reverse.map (·.1) = nms.reverse := by rw [List.map_reverse, List.map_fst_zip (by omega)]
  have e2 : (nms.zip vs).reverse.map (·.2) = vs.reverse := by rw [List.map_reverse, List.map_snd_zip (by omega)]
  have q := Rp.exnD (K := K) (F := Frz H' L) (c := cn) (ds := ds.reverse) (frz_of ha n1) (frz_of hd n2) hca (by rw [e2]; exact (hv.mono hk).reverse)
  rw [e1] at q
  exact q
def mkxE (c : Str) (nms : List Str) (n m : Nat) (ix : List Nat) (fa fk : FA) : FE := fun ρ S => fa ρ S >>= fun x => fk ρ x.2 >>= fun y => if x.1.length = n ∧ y.1.length = m ∧ (pick ix (x.1 ++ y.1)).length = nms.length then R.ok (.exn c nms.reverse (pick ix (x.1 ++ y.1)).reverse, y.2) else R.bad
theorem mkx_end {cn : Str} {B : List Addr} {P : List (Nat × Addr)} {ρ : Env} {S : List D} {Q : VK} {a d : Addr} {H' : Hp} {vs : List V} {ds : List D} (hca : z.ca cn = some C) (r : Rel z B P σ H ρ S) (na : H a = none) (nd : H d = none) (ha : H' a = some (exT a C (some d))) (hd : H' d = some (.xd (nms.zip vs).reverse))
    (hk : ∀ b, b ≠ d → b ≠ a → H' b = H b) (hl : vs.length = nms.length) (hv : RpA z.K z.ca (Frz H (z.L B P)) vs ds)
    (hq : ∀ v H', Grow z H H' → Rel z B P σ H' ρ S → Rp z.K z.ca (Frz H' (z.L B P)) v (.exn cn nms.reverse ds.reverse) → Q v H') : Q (.ref a) H' := by
  have e1 : Ex H H' := fun b u h => by
    rw [hk b (ne_of_none h nd) (ne_of_none h na)]
    exact h
  exact hq _ H' (Grow.of e1) (r.grow e1) (rp_made hca (r.fresh na) (r.fresh nd) ha hd (Grow.of (z := z) e1).frz hl hv)
theorem pd_mkx {cn : Str} {n : Nat} {ix : List Nat} (hca : z.ca cn = some C) (T : OxB X.K C) (iC : PySem.W.findIn X.K (.ref C) "__init__" = some (some (.ref fI))) (hf : PySem.W.isFn X.K (.ref fI) = true) (G : FnG X.prog X.w X.K X.mg X.base k fI fd ps (spXI C nms)) (hr : Rm (k + 1) X.A) (hb : KBd X.K fd ps [] (n + 1) (0 :: ix.map (· + 1)))
    (hm : X.mg x = some (.ref C)) (ha : PAd X z O EX (e :: es) fa) (hn : n ≤ 1000 := by decide) (hg : Gl X x := by rfl) (hdb : (x == ("__debug__" : Str)) = false := by decide) (he : starEach (e :: es) X.env = (false, eval e X.env) :: starEach es X.env := by rfl) (hpl : (backTo pos (starEach es X.env)).any (·.1) = false := by rfl) :
    PD X z O EX (.Call (.Name x p) (e :: es) [] pos) (mkxE cn nms n 0 ix fa nilA) := by
  obtain ⟨t, pt, q⟩ := ha.ex
  have pe : PE X (.Call (.Name x p) (e :: es) [] pos) (fun σ H Q => t σ H fun vs H1 => vs.length = n ∧ (pick ix vs).length = nms.length ∧ ∀ (a d : Addr) (H' : Hp), H1 a = none → H1 d = none → a ≠ d → H' a = some (exT a C (some d)) → H' d = some (.xd (nms.zip (pick ix vs)).reverse) → (∀ b, b ≠ d → b ≠ a → H' b = H1 b) → Q (.ref a) H') := ⟨fun pins s σ H Q I h => by
    refine wpAny_Call_Name_kw (ld_glob I hg hm (PySem.W.callWith_K (h₀ := X.base) I.ok.mod.kin T.kC (thn (pt.run pos pins s σ H _ I h) fun us s1 hv => ?_) he hpl) hdb)
    obtain ⟨vs, H1, I1, r, l1, l2, q⟩ := hv
    have hlu := r.length
    exact ⟨I1.kIn, run_mkxv (us := us) (ks := []) (ws := []) T iC hf G hr hb (by omega) rfl (by omega) I1 (by rw [List.append_nil]; exact r) l2 q⟩⟩
  refine ⟨_, pe, fun B P σ H ρ S Q hP rr hs => ?_⟩
  refine q B P σ H ρ S _ hP rr ((sat_bind.mp hs).imp fun w hw vs H1 g1 r1 hv => ?_)
  have hw : Sat (if w.1.length = n ∧ ([] : List D).length = 0 ∧ (pick ix (w.1 ++ [])).length = nms.length then R.ok (D.exn cn nms.reverse (pick ix (w.1 ++ [])).reverse, w.2) else R.bad) (fun r => ∀ v H', Grow z H H' → Rel z B P σ H' ρ r.2 → Rp z.K z.ca (Frz H' (z.L B P)) v r.1 → Q v H') EX := hw
  rw [List.append_nil] at hw
  split at hw
  · rename_i l
    have hv2 := rpa_pick hv ix
    refine ⟨by rw [hv.length, l.1], by rw [hv2.length, l.2.2], fun a d H' na nd _ ha hd hk => ?_⟩
    exact mkx_end hca r1 na nd ha hd hk (by rw [hv2.length, l.2.2]) hv2 fun v H' g' r' hv' => hw v H' (g1.trans g') r' hv'
  · exact hw.elim
theorem pd_mkxK {cn : Str} {ix : List Nat} (hca : z.ca cn = some C) (T : OxB X.K C) (iC : PySem.W.findIn X.K (.ref C) "__init__" = some (some (.ref fI))) (hf : PySem.W.isFn X.K (.ref fI) = true) (G : FnG X.prog X.w X.K X.mg X.base k fI fd ps (spXI C nms)) (hr : Rm (k + 1) X.A) (hb : KBd X.K fd ps ks 1 (0 :: ix.map (· + 1)))
    (hm : X.mg x = some (.ref C)) (hkw : PKd X z O EX kws fk) (hg : Gl X x := by rfl) (hall : (backToKw pos (keywordEach kws X.env)).all (·.1.isSome) = true := by rfl) (hks : (backToKw pos (keywordEach kws X.env)).filterMap (·.1) = ks := by rfl) (hdb : (x == ("__debug__" : Str)) = false := by decide)
    (hpl : ((backTo pos (starEach [] X.env)).any (·.1) || (backToKw pos (keywordEach kws X.env)).any (·.1.isNone)) = false := by rfl) : PD X z O EX (.Call (.Name x p) [] kws pos) (mkxE cn nms 0 ks.length ix nilA fk) := by
  obtain ⟨tk, pk, qk⟩ := hkw.ex
  have pe : PE X (.Call (.Name x p) [] kws pos) (fun σ H Q => tk σ H fun vs H1 => vs.length = ks.length ∧ (pick ix vs).length = nms.length ∧ ∀ (a d : Addr) (H' : Hp), H1 a = none → H1 d = none → a ≠ d → H' a = some (exT a C (some d)) → H' d = some (.xd (nms.zip (pick ix vs)).reverse) → (∀ b, b ≠ d → b ≠ a → H' b = H1 b) → Q (.ref a) H') := ⟨fun pins s σ H Q I h => by
    refine wpAny_Call_Name_kw (ld_glob I hg hm (PySem.W.callWith_KW0 (h₀ := X.base) I.ok.mod.kin T.kC hall (thn (pk.run pos pins s σ H _ I h) fun ws s2 hw => ?_) hpl) hdb)
    obtain ⟨zs, H2, I2, rz, l1, l2, q2⟩ := hw
    rw [hks]
    exact ⟨I2.kIn, run_mkxv (us := []) T iC hf G hr hb rfl (by rw [← rz.length]; exact l1) (by simp) I2 rz l2 q2⟩⟩
  refine ⟨_, pe, fun B P σ H ρ S Q hP rr hs => ?_⟩
  have hs : Sat (fk ρ S >>= fun y => if ([] : List D).length = 0 ∧ y.1.length = ks.length ∧ (pick ix ([] ++ y.1)).length = nms.length then R.ok (D.exn cn nms.reverse (pick ix ([] ++ y.1)).reverse, y.2) else R.bad) (fun r => ∀ v H', Grow z H H' → Rel z B P σ H' ρ r.2 → Rp z.K z.ca (Frz H' (z.L B P)) v r.1 → Q v H') EX := hs
  refine qk B P σ H ρ S _ hP rr ((sat_bind.mp hs).imp fun w hw vs H1 g1 r1 hv => ?_)
  rw [List.nil_append] at hw
  split at hw
  · rename_i l
    have hv2 := rpa_pick hv ix
    refine ⟨by rw [hv.length, l.2.1], by rw [hv2.length, l.2.2], fun a d H' na nd _ ha hd hk => ?_⟩
    exact mkx_end hca r1 na nd ha hd hk (by rw [hv2.length, l.2.2]) hv2 fun v H' g' r' hv' => hw v H' (g1.trans g') r' hv'
  · exact hw.elim
/-! X(), a class without an __init__ of its own -/
structure Ox0 (K : PySem.W.Frag) (C : Addr) : Prop where
  ex : ∃ (B newId initId : String) (bmB : List Value), ExcBaseFacts B newId initId bmB ∧ PySem.W.excInitIn K C bmB newId = true ∧ PySem.W.keepIn K (.ref C) = true ∧ PySem.W.findIn K (.ref C) "__init__" = some (some (.builtin initId))
theorem ox0_L {K : PySem.W.Frag} {C : Addr} (q : PySem.W.excInitIn K C [.type "LookupError", .type "Exception", .type "BaseException", .type "object"] "LookupError.__new__" = true) (k : PySem.W.keepIn K (.ref C) = true) (i : PySem.W.findIn K (.ref C) "__init__" = some (some (.builtin "LookupError.__init__"))) : Ox0 K C := ⟨_, _, _, _, PySem.F.excBase_LookupError, q, k, i⟩
def mkx0E (c : Str) : FE := fun _ S => R.ok (.exn c [] [], S)
theorem pd_mkx0 {cn : Str} (hca : z.ca cn = some C) (T : Ox0 X.K C) (hm : X.mg x = some (.ref C)) (hg : Gl X x := by rfl) (hdb : (x == ("__debug__" : Str)) = false := by decide) : PD X z O EX (.Call (.Name x p) [] [] pos) (mkx0E cn) := by
  have pe : PE X (.Call (.Name x p) [] [] pos) (fun σ H Q => ∀ (a : Addr), H a = none → Q (.ref a) (upd H a (exT a C none))) := ⟨fun pins s σ H Q I h => by
    obtain ⟨B, newId, initId, bmB, FB, q, kC, ini⟩ := T.ex
    refine wpAny_Call_Name_kw (ld_glob I hg hm (PySem.W.callWith_K0 I.kIn kC ?_) hdb)
    obtain ⟨nm, N', qn, bs, bm, hdct, sn, sub, ab, col, dd, k0, k1, k2, k3, k5, hC, hT⟩ := PySem.W.excInit_of I.kIn q
    have hlook := PySem.W.looks_findIn (M := model X.prog X.w) I.kIn ini
    obtain ⟨hp, g, dr, tk, os⟩ := s
    have le1 : hp.objs.size ≤ hp.objs.size + 1 := Nat.le_succ _
    have hn : H (hp.objs.size + 1) = none := I.hok.fresh le1
    refine PySem.W.call_B (rest := []) FB hT hC hlook (by rw [sizeLine_eq]; decide) fun h' kk he _ => ?_
    refine ⟨.ref (hp.objs.size + 1), _, I.laid (t' := tk) (a := hp.objs.size + 1) (o := exT (hp.objs.size + 1) C none) kk le1 ?_, rfl, h _ hn⟩
    exact ⟨⟨_, _, he, rfl, rfl, rfl⟩, ⟨_, he⟩, fun _ _ w k => by
      obtain ⟨o, fv, e1, e2, e3, e4⟩ := w
      exact ⟨o, fv, k _ e1, e2, e3, e4⟩⟩⟩
  refine ⟨_, pe, fun B P σ H ρ S Q hP rr hs a na => ?_⟩
  have e1 : Ex H (upd H a (exT a C none)) := Ex.new na
  have hs : ∀ v H', Grow z H H' → Rel z B P σ H' ρ S → Rp z.K z.ca (Frz H' (z.L B P)) v (.exn cn [] []) → Q v H' := hs
  exact hs _ _ (Grow.of e1) (rr.grow e1) (.exn0 (frz_of upd_same (rr.fresh na)) hca)
/-! o.NAME, a constant of the class -/
def iconD (cn fn : Str) (d0 : D) : D → Option D | .ins c ns _ => if c = cn ∧ ns.contains fn = false then some d0 else none | _ => none
theorem pd_icon {cn fn : Str} {f : FE} {v : V} {u : Value} {d0 : D} (hK : X.K = z.K) (hca : z.ca cn = some C) (c : Cls X.K C) (k : Con X.K C fn v u) (hv : ∀ F, Rp z.K z.ca F v d0) (ha : PD X z O EX e f) (hb : attributeBase e fn X.env (eval e X.env) = eval e X.env := by rfl) :
    PD X z O EX (.Attribute e fn pos) (un1 (iconD cn fn d0) f) := by
  obtain ⟨t, pt, q⟩ := ha.ex
  refine ⟨_, pe_con pt hb, fun B P σ H ρ S Q hP rr hs => ?_⟩
  refine q B P σ H ρ S _ hP rr ((sat_bind.mp hs).imp fun w hw v0 H1 g1 r1 hv0 => ?_)
  obtain ⟨d, hd, hq⟩ := sat_of (sat_bind.mp hw)
  obtain ⟨w1, S1⟩ := w
  cases w1 with
  | ins c0 ns vs0 =>
    simp only [iconD] at hd
    split at hd
    · rename_i ec
      cases hd
      obtain ⟨rfl, nf⟩ := ec
      cases hv0 with
      | ins h ce r =>
        rw [hca] at ce
        cases ce
        exact ⟨_, _, _, _, v, u, rfl, frz_ex _ _ _ _ h, c, k, lookup_none_of nf, hq v H1 g1 r1 (hv _)⟩
    · cases hd
  | _ => cases hd
@[simp ↓] theorem wp_mkxE {c : Str} {nms : List Str} {n m : Nat} {ix : List Nat} {fa fk : FA} {ρ : Env} {S : List D} {Q : D × List D → Prop} {EX : EXT} : Sat (mkxE c nms n m ix fa fk ρ S) Q EX ↔ Sat (fa ρ S >>= fun x => fk ρ x.2 >>= fun y => if x.1.length = n ∧ y.1.length = m ∧ (pick ix (x.1 ++ y.1)).length = nms.length then R.ok (.exn c nms.reverse (pick ix (x.1 ++ y.1)).reverse, y.2) else R.bad) Q EX := Iff.rfl
@[simp ↓] theorem wp_mkx0E {c : Str} {ρ : Env} {S : List D} {Q : D × List D → Prop} {EX : EXT} : Sat (mkx0E c ρ S) Q EX ↔ Q (.exn c [] [], S) := Iff.rfl
end
inductive AllP {α β : Type} (P : α → β → Prop) : List (α × β) → Prop
  | nil : AllP P []
  | cons {a : α} {b : β} {l : List (α × β)} : P a b → AllP P l → AllP P ((a, b) :: l)
theorem lookup_all {α β : Type} [BEq α] [LawfulBEq α] {P : α → β → Prop} : ∀ {l : List (α × β)}, AllP P l → ∀ {c : α} {k : β}, l.lookup c = some k → P c k
  | _, .nil, _, _, e => by cases e
  | _, .cons (a := a) h r, c, k, e => by
    rw [List.lookup_cons] at e
    split at e
    · rename_i q
      cases e
      rw [eq_of_beq q]
      exact h
    · exact lookup_all r e
end PL
set_option Elab.async false
set_option linter.all false
set_option maxRecDepth 100000
set_option maxHeartbeats 4000000
namespace K07
open PySem PySem.Spec PyProof.Rows L2 ClX PL
def top (i : Nat) : Stmt := PySem.Challenge.pw_staycounts_k07_errors_and_class_values.main.body.getD i (.Pass ⟨0, 0, 0, 0⟩)
abbrev nm (i : Nat) : FE := fun ρ S => lk ρ i >>= fun d => R.ok (d, S)
theorem notpl0 {tb : Tb} {K : PySem.W.Frag} {ca : Str → Option Addr} {H : Hp} {p : Addr} {sh : List V → HO} {bs : List Addr} {s0 : L2.St} {i : Nat} (h : 0 ≠ i) : NotPl ⟨K, ca, H, some (0, p), sh, tb, bs, s0, []⟩ i := ⟨fun j a e => by
  cases e
  exact h, fun q => nomatch q⟩
theorem notplN {tb : Tb} {K : PySem.W.Frag} {ca : Str → Option Addr} {H : Hp} {sh : List V → HO} {bs : List Addr} {s0 : L2.St} {i : Nat} : NotPl ⟨K, ca, H, none, sh, tb, bs, s0, []⟩ i := ⟨fun j a e => (nomatch e), fun q => nomatch q⟩
def cs : List Str := ["Counts"]
abbrev s_eInvalidCounts : Stmt := inClass (top 3) 0
abbrev s_eNotCounts : Stmt := inClass (top 4) 0
abbrev s_eInvalidTick : Stmt := inClass (top 5) 0
abbrev s_eInvalidNumber : Stmt := inClass (top 6) 0
abbrev s_eInvalidText : Stmt := inClass (top 7) 0
abbrev s_eInvalidStay : Stmt := inClass (top 8) 0
abbrev s_eInvalidHistory : Stmt := inClass (top 9) 0
abbrev s_eInvalidName : Stmt := inClass (top 10) 0
abbrev s_eInvalidLength : Stmt := inClass (top 11) 0
abbrev s_eInvalidDoors : Stmt := inClass (top 12) 0
abbrev s_eInvalidDeed : Stmt := inClass (top 13) 0
abbrev s_eInvalidCommand : Stmt := inClass (top 14) 0
abbrev s_eImpossible : Stmt := inClass (top 16) 0
abbrev s_eNotKnown : Stmt := inClass (top 17) 0
abbrev s_eTooMany : Stmt := inClass (top 21) 0
abbrev s_ii : Stmt := top 23
abbrev s_cl : Stmt := top 37
abbrev s_inu : Stmt := top 39
abbrev s_cn : Stmt := top 38
abbrev s_ini : Stmt := inClass (top 35) 2
abbrev s_cell : Stmt := top 42
abbrev s_pool : Stmt := top 43
abbrev s_draw : Stmt := top 44
abbrev s_error : Stmt := top 45
abbrev s_made : Stmt := top 46
abbrev s_fields : Stmt := top 47
abbrev s_right : Stmt := top 48
abbrev s_law : Stmt := top 49
structure XA where
  InvalidCounts : Addr
  NotCounts : Addr
  InvalidTick : Addr
  InvalidNumber : Addr
  InvalidText : Addr
  InvalidStay : Addr
  InvalidHistory : Addr
  InvalidName : Addr
  InvalidLength : Addr
  InvalidDoors : Addr
  InvalidDeed : Addr
  InvalidCommand : Addr
  Impossible : Addr
  NotKnown : Addr
  LimitBroken : Addr
  NothingToUndo : Addr
  TooMany : Addr
  CountError : Addr
  SearchError : Addr
  LimitError : Addr
def sub_InvalidCounts : Str → Option Bool := fun c => List.lookup c ([("InvalidCounts", true), ("NotCounts", false), ("InvalidTick", false), ("InvalidNumber", false), ("InvalidText", false), ("InvalidStay", false), ("InvalidHistory", false), ("InvalidName", false), ("InvalidLength", false), ("InvalidDoors", false), ("InvalidDeed", false), ("InvalidCommand", false), ("Impossible", false), ("NotKnown", false), ("LimitBroken", false), ("NothingToUndo", false), ("TooMany", false)] : List (Str × Bool))
def sub_NotCounts : Str → Option Bool := fun c => List.lookup c ([("InvalidCounts", false), ("NotCounts", true), ("InvalidTick", false), ("InvalidNumber", false), ("InvalidText", false), ("InvalidStay", false), ("InvalidHistory", false), ("InvalidName", false), ("InvalidLength", false), ("InvalidDoors", false), ("InvalidDeed", false), ("InvalidCommand", false), ("Impossible", false), ("NotKnown", false), ("LimitBroken", false), ("NothingToUndo", false), ("TooMany", false)] : List (Str × Bool))
def sub_InvalidTick : Str → Option Bool := fun c => List.lookup c ([("InvalidCounts", false), ("NotCounts", false), ("InvalidTick", true), ("InvalidNumber", false), ("InvalidText", false), ("InvalidStay", false), ("InvalidHistory", false), ("InvalidName", false), ("InvalidLength", false), ("InvalidDoors", false), ("InvalidDeed", false), ("InvalidCommand", false), ("Impossible", false), ("NotKnown", false), ("LimitBroken", false), ("NothingToUndo", false), ("TooMany", false)] : List (Str × Bool))
def sub_InvalidNumber : Str → Option Bool := fun c => List.lookup c ([("InvalidCounts", false), ("NotCounts", false), ("InvalidTick", false), ("InvalidNumber", true), ("InvalidText", false), ("InvalidStay", false), ("InvalidHistory", false), ("InvalidName", false), ("InvalidLength", false), ("InvalidDoors", false), ("InvalidDeed", false), ("InvalidCommand", false), ("Impossible", false), ("NotKnown", false), ("LimitBroken", false), ("NothingToUndo", false), ("TooMany", false)] : List (Str × Bool))
def sub_InvalidText : Str → Option Bool := fun c => List.lookup c ([("InvalidCounts", false), ("NotCounts", false), ("InvalidTick", false), ("InvalidNumber", false), ("InvalidText", true), ("InvalidStay", false), ("InvalidHistory", false), ("InvalidName", false), ("InvalidLength", false), ("InvalidDoors", false), ("InvalidDeed", false), ("InvalidCommand", false), ("Impossible", false), ("NotKnown", false), ("LimitBroken", false), ("NothingToUndo", false), ("TooMany", false)] : List (Str × Bool))
def sub_InvalidStay : Str → Option Bool := fun c => List.lookup c ([("InvalidCounts", false), ("NotCounts", false), ("InvalidTick", false), ("InvalidNumber", false), ("InvalidText", false), ("InvalidStay", true), ("InvalidHistory", false), ("InvalidName", false), ("InvalidLength", false), ("InvalidDoors", false), ("InvalidDeed", false), ("InvalidCommand", false), ("Impossible", false), ("NotKnown", false), ("LimitBroken", false), ("NothingToUndo", false), ("TooMany", false)] : List (Str × Bool))
def sub_InvalidHistory : Str → Option Bool := fun c => List.lookup c ([("InvalidCounts", false), ("NotCounts", false), ("InvalidTick", false), ("InvalidNumber", false), ("InvalidText", false), ("InvalidStay", false), ("InvalidHistory", true), ("InvalidName", false), ("InvalidLength", false), ("InvalidDoors", false), ("InvalidDeed", false), ("InvalidCommand", false), ("Impossible", false), ("NotKnown", false), ("LimitBroken", false), ("NothingToUndo", false), ("TooMany", false)] : List (Str × Bool))
def sub_InvalidName : Str → Option Bool := fun c => List.lookup c ([("InvalidCounts", false), ("NotCounts", false), ("InvalidTick", false), ("InvalidNumber", false), ("InvalidText", false), ("InvalidStay", false), ("InvalidHistory", false), ("InvalidName", true), ("InvalidLength", false), ("InvalidDoors", false), ("InvalidDeed", false), ("InvalidCommand", false), ("Impossible", false), ("NotKnown", false), ("LimitBroken", false), ("NothingToUndo", false), ("TooMany", false)] : List (Str × Bool))
def sub_InvalidLength : Str → Option Bool := fun c => List.lookup c ([("InvalidCounts", false), ("NotCounts", false), ("InvalidTick", false), ("InvalidNumber", false), ("InvalidText", false), ("InvalidStay", false), ("InvalidHistory", false), ("InvalidName", false), ("InvalidLength", true), ("InvalidDoors", false), ("InvalidDeed", false), ("InvalidCommand", false), ("Impossible", false), ("NotKnown", false), ("LimitBroken", false), ("NothingToUndo", false), ("TooMany", false)] : List (Str × Bool))
def sub_InvalidDoors : Str → Option Bool := fun c => List.lookup c ([("InvalidCounts", false), ("NotCounts", false), ("InvalidTick", false), ("InvalidNumber", false), ("InvalidText", false), ("InvalidStay", false), ("InvalidHistory", false), ("InvalidName", false), ("InvalidLength", false), ("InvalidDoors", true), ("InvalidDeed", false), ("InvalidCommand", false), ("Impossible", false), ("NotKnown", false), ("LimitBroken", false), ("NothingToUndo", false), ("TooMany", false)] : List (Str × Bool))
def sub_InvalidDeed : Str → Option Bool := fun c => List.lookup c ([("InvalidCounts", false), ("NotCounts", false), ("InvalidTick", false), ("InvalidNumber", false), ("InvalidText", false), ("InvalidStay", false), ("InvalidHistory", false), ("InvalidName", false), ("InvalidLength", false), ("InvalidDoors", false), ("InvalidDeed", true), ("InvalidCommand", false), ("Impossible", false), ("NotKnown", false), ("LimitBroken", false), ("NothingToUndo", false), ("TooMany", false)] : List (Str × Bool))
def sub_InvalidCommand : Str → Option Bool := fun c => List.lookup c ([("InvalidCounts", false), ("NotCounts", false), ("InvalidTick", false), ("InvalidNumber", false), ("InvalidText", false), ("InvalidStay", false), ("InvalidHistory", false), ("InvalidName", false), ("InvalidLength", false), ("InvalidDoors", false), ("InvalidDeed", false), ("InvalidCommand", true), ("Impossible", false), ("NotKnown", false), ("LimitBroken", false), ("NothingToUndo", false), ("TooMany", false)] : List (Str × Bool))
def sub_Impossible : Str → Option Bool := fun c => List.lookup c ([("InvalidCounts", false), ("NotCounts", false), ("InvalidTick", false), ("InvalidNumber", false), ("InvalidText", false), ("InvalidStay", false), ("InvalidHistory", false), ("InvalidName", false), ("InvalidLength", false), ("InvalidDoors", false), ("InvalidDeed", false), ("InvalidCommand", false), ("Impossible", true), ("NotKnown", false), ("LimitBroken", false), ("NothingToUndo", false), ("TooMany", false)] : List (Str × Bool))
def sub_NotKnown : Str → Option Bool := fun c => List.lookup c ([("InvalidCounts", false), ("NotCounts", false), ("InvalidTick", false), ("InvalidNumber", false), ("InvalidText", false), ("InvalidStay", false), ("InvalidHistory", false), ("InvalidName", false), ("InvalidLength", false), ("InvalidDoors", false), ("InvalidDeed", false), ("InvalidCommand", false), ("Impossible", false), ("NotKnown", true), ("LimitBroken", false), ("NothingToUndo", false), ("TooMany", false)] : List (Str × Bool))
def sub_LimitBroken : Str → Option Bool := fun c => List.lookup c ([("InvalidCounts", false), ("NotCounts", false), ("InvalidTick", false), ("InvalidNumber", false), ("InvalidText", false), ("InvalidStay", false), ("InvalidHistory", false), ("InvalidName", false), ("InvalidLength", false), ("InvalidDoors", false), ("InvalidDeed", false), ("InvalidCommand", false), ("Impossible", false), ("NotKnown", false), ("LimitBroken", true), ("NothingToUndo", false), ("TooMany", false)] : List (Str × Bool))
def sub_NothingToUndo : Str → Option Bool := fun c => List.lookup c ([("InvalidCounts", false), ("NotCounts", false), ("InvalidTick", false), ("InvalidNumber", false), ("InvalidText", false), ("InvalidStay", false), ("InvalidHistory", false), ("InvalidName", false), ("InvalidLength", false), ("InvalidDoors", false), ("InvalidDeed", false), ("InvalidCommand", false), ("Impossible", false), ("NotKnown", false), ("LimitBroken", false), ("NothingToUndo", true), ("TooMany", false)] : List (Str × Bool))
def sub_TooMany : Str → Option Bool := fun c => List.lookup c ([("InvalidCounts", false), ("NotCounts", false), ("InvalidTick", false), ("InvalidNumber", false), ("InvalidText", false), ("InvalidStay", false), ("InvalidHistory", false), ("InvalidName", false), ("InvalidLength", false), ("InvalidDoors", false), ("InvalidDeed", false), ("InvalidCommand", false), ("Impossible", false), ("NotKnown", false), ("LimitBroken", false), ("NothingToUndo", false), ("TooMany", true)] : List (Str × Bool))
def sub_CountError : Str → Option Bool := fun c => List.lookup c ([("InvalidCounts", true), ("NotCounts", true), ("InvalidTick", true), ("InvalidNumber", true), ("InvalidText", true), ("InvalidStay", true), ("InvalidHistory", true), ("InvalidName", true), ("InvalidLength", true), ("InvalidDoors", true), ("InvalidDeed", true), ("InvalidCommand", true), ("Impossible", false), ("NotKnown", false), ("LimitBroken", false), ("NothingToUndo", false), ("TooMany", false)] : List (Str × Bool))
def sub_SearchError : Str → Option Bool := fun c => List.lookup c ([("InvalidCounts", false), ("NotCounts", false), ("InvalidTick", false), ("InvalidNumber", false), ("InvalidText", false), ("InvalidStay", false), ("InvalidHistory", false), ("InvalidName", false), ("InvalidLength", false), ("InvalidDoors", false), ("InvalidDeed", false), ("InvalidCommand", false), ("Impossible", true), ("NotKnown", true), ("LimitBroken", true), ("NothingToUndo", true), ("TooMany", false)] : List (Str × Bool))
def sub_LimitError : Str → Option Bool := fun c => List.lookup c ([("InvalidCounts", false), ("NotCounts", false), ("InvalidTick", false), ("InvalidNumber", false), ("InvalidText", false), ("InvalidStay", false), ("InvalidHistory", false), ("InvalidName", false), ("InvalidLength", false), ("InvalidDoors", false), ("InvalidDeed", false), ("InvalidCommand", false), ("Impossible", false), ("NotKnown", false), ("LimitBroken", false), ("NothingToUndo", false), ("TooMany", true)] : List (Str × Bool))
def sub_ValueError : Str → Option Bool := fun c => List.lookup c ([("InvalidCounts", true), ("NotCounts", true), ("InvalidTick", true), ("InvalidNumber", true), ("InvalidText", true), ("InvalidStay", true), ("InvalidHistory", true), ("InvalidName", true), ("InvalidLength", true), ("InvalidDoors", true), ("InvalidDeed", true), ("InvalidCommand", true), ("Impossible", false), ("NotKnown", false), ("LimitBroken", false), ("NothingToUndo", false), ("TooMany", false)] : List (Str × Bool))
def sub_LookupError : Str → Option Bool := fun c => List.lookup c ([("InvalidCounts", false), ("NotCounts", false), ("InvalidTick", false), ("InvalidNumber", false), ("InvalidText", false), ("InvalidStay", false), ("InvalidHistory", false), ("InvalidName", false), ("InvalidLength", false), ("InvalidDoors", false), ("InvalidDeed", false), ("InvalidCommand", false), ("Impossible", true), ("NotKnown", true), ("LimitBroken", true), ("NothingToUndo", true), ("TooMany", false)] : List (Str × Bool))
def sub_ArithmeticError : Str → Option Bool := fun c => List.lookup c ([("InvalidCounts", false), ("NotCounts", false), ("InvalidTick", false), ("InvalidNumber", false), ("InvalidText", false), ("InvalidStay", false), ("InvalidHistory", false), ("InvalidName", false), ("InvalidLength", false), ("InvalidDoors", false), ("InvalidDeed", false), ("InvalidCommand", false), ("Impossible", false), ("NotKnown", false), ("LimitBroken", false), ("NothingToUndo", false), ("TooMany", true)] : List (Str × Bool))
def xc_command : List Str := ["InvalidCommand"]
def xc_history : List Str := ["InvalidHistory"]
def xc_index : List Str := ["InvalidStay", "InvalidDoors", "InvalidDeed"]
def xc_length : List Str := ["InvalidLength"]
def xc_limit : List Str := ["TooMany"]
def xc_name : List Str := ["InvalidName"]
def xc_number : List Str := ["InvalidNumber"]
def xc_stay : List Str := ["NotKnown"]
def xc_text : List Str := ["InvalidText"]
def xc_tick : List Str := ["InvalidCounts", "InvalidTick", "Impossible"]
def xc_value : List Str := ["NotCounts"]
def xc_word : List Str := ["Impossible"]
structure Cal_eInvalidCounts (K : PySem.W.Frag) (mg : Str → Option Value) (base : Heap) (tb : Tb) (C : Addr) (xa : XA) (fA : Addr) (fd : FuncData) : Prop where
  F : Fun K "__init__" "InvalidCounts.__init__" s_eInvalidCounts fA fd
  iC : PySem.W.findIn K (.ref xa.InvalidCounts) "__init__" = some (some (.ref fA))
  fn : PySem.W.isFn K (.ref fA) = true
  b : Binds K fd ["self", "tick"] []
  kx : KBd K fd ["self", "tick"] [] 2 [0, 1]
  kb_tick : KBd K fd ["self", "tick"] ["tick"] 1 [0, 1]
structure Cal_eNotCounts (K : PySem.W.Frag) (mg : Str → Option Value) (base : Heap) (tb : Tb) (C : Addr) (xa : XA) (fA : Addr) (fd : FuncData) : Prop where
  F : Fun K "__init__" "NotCounts.__init__" s_eNotCounts fA fd
  iC : PySem.W.findIn K (.ref xa.NotCounts) "__init__" = some (some (.ref fA))
  fn : PySem.W.isFn K (.ref fA) = true
  b : Binds K fd ["self", "value"] []
  kx : KBd K fd ["self", "value"] [] 2 [0, 1]
  kb_value : KBd K fd ["self", "value"] ["value"] 1 [0, 1]
structure Cal_eInvalidTick (K : PySem.W.Frag) (mg : Str → Option Value) (base : Heap) (tb : Tb) (C : Addr) (xa : XA) (fA : Addr) (fd : FuncData) : Prop where
  F : Fun K "__init__" "InvalidTick.__init__" s_eInvalidTick fA fd
  iC : PySem.W.findIn K (.ref xa.InvalidTick) "__init__" = some (some (.ref fA))
  fn : PySem.W.isFn K (.ref fA) = true
  b : Binds K fd ["self", "tick"] []
  kx : KBd K fd ["self", "tick"] [] 2 [0, 1]
  kb_tick : KBd K fd ["self", "tick"] ["tick"] 1 [0, 1]
structure Cal_eInvalidNumber (K : PySem.W.Frag) (mg : Str → Option Value) (base : Heap) (tb : Tb) (C : Addr) (xa : XA) (fA : Addr) (fd : FuncData) : Prop where
  F : Fun K "__init__" "InvalidNumber.__init__" s_eInvalidNumber fA fd
  iC : PySem.W.findIn K (.ref xa.InvalidNumber) "__init__" = some (some (.ref fA))
  fn : PySem.W.isFn K (.ref fA) = true
  b : Binds K fd ["self", "number"] []
  kx : KBd K fd ["self", "number"] [] 2 [0, 1]
  kb_number : KBd K fd ["self", "number"] ["number"] 1 [0, 1]
structure Cal_eInvalidText (K : PySem.W.Frag) (mg : Str → Option Value) (base : Heap) (tb : Tb) (C : Addr) (xa : XA) (fA : Addr) (fd : FuncData) : Prop where
  F : Fun K "__init__" "InvalidText.__init__" s_eInvalidText fA fd
  iC : PySem.W.findIn K (.ref xa.InvalidText) "__init__" = some (some (.ref fA))
  fn : PySem.W.isFn K (.ref fA) = true
  b : Binds K fd ["self", "text"] []
  kx : KBd K fd ["self", "text"] [] 2 [0, 1]
  kb_text : KBd K fd ["self", "text"] ["text"] 1 [0, 1]
structure Cal_eInvalidStay (K : PySem.W.Frag) (mg : Str → Option Value) (base : Heap) (tb : Tb) (C : Addr) (xa : XA) (fA : Addr) (fd : FuncData) : Prop where
  F : Fun K "__init__" "InvalidStay.__init__" s_eInvalidStay fA fd
  iC : PySem.W.findIn K (.ref xa.InvalidStay) "__init__" = some (some (.ref fA))
  fn : PySem.W.isFn K (.ref fA) = true
  b : Binds K fd ["self", "index"] []
  kx : KBd K fd ["self", "index"] [] 2 [0, 1]
  kb_index : KBd K fd ["self", "index"] ["index"] 1 [0, 1]
structure Cal_eInvalidHistory (K : PySem.W.Frag) (mg : Str → Option Value) (base : Heap) (tb : Tb) (C : Addr) (xa : XA) (fA : Addr) (fd : FuncData) : Prop where
  F : Fun K "__init__" "InvalidHistory.__init__" s_eInvalidHistory fA fd
  iC : PySem.W.findIn K (.ref xa.InvalidHistory) "__init__" = some (some (.ref fA))
  fn : PySem.W.isFn K (.ref fA) = true
  b : Binds K fd ["self", "history"] []
  kx : KBd K fd ["self", "history"] [] 2 [0, 1]
  kb_history : KBd K fd ["self", "history"] ["history"] 1 [0, 1]
structure Cal_eInvalidName (K : PySem.W.Frag) (mg : Str → Option Value) (base : Heap) (tb : Tb) (C : Addr) (xa : XA) (fA : Addr) (fd : FuncData) : Prop where
  F : Fun K "__init__" "InvalidName.__init__" s_eInvalidName fA fd
  iC : PySem.W.findIn K (.ref xa.InvalidName) "__init__" = some (some (.ref fA))
  fn : PySem.W.isFn K (.ref fA) = true
  b : Binds K fd ["self", "name"] []
  kx : KBd K fd ["self", "name"] [] 2 [0, 1]
  kb_name : KBd K fd ["self", "name"] ["name"] 1 [0, 1]
structure Cal_eInvalidLength (K : PySem.W.Frag) (mg : Str → Option Value) (base : Heap) (tb : Tb) (C : Addr) (xa : XA) (fA : Addr) (fd : FuncData) : Prop where
  F : Fun K "__init__" "InvalidLength.__init__" s_eInvalidLength fA fd
  iC : PySem.W.findIn K (.ref xa.InvalidLength) "__init__" = some (some (.ref fA))
  fn : PySem.W.isFn K (.ref fA) = true
  b : Binds K fd ["self", "length"] []
  kx : KBd K fd ["self", "length"] [] 2 [0, 1]
  kb_length : KBd K fd ["self", "length"] ["length"] 1 [0, 1]
structure Cal_eInvalidDoors (K : PySem.W.Frag) (mg : Str → Option Value) (base : Heap) (tb : Tb) (C : Addr) (xa : XA) (fA : Addr) (fd : FuncData) : Prop where
  F : Fun K "__init__" "InvalidDoors.__init__" s_eInvalidDoors fA fd
  iC : PySem.W.findIn K (.ref xa.InvalidDoors) "__init__" = some (some (.ref fA))
  fn : PySem.W.isFn K (.ref fA) = true
  b : Binds K fd ["self", "index"] []
  kx : KBd K fd ["self", "index"] [] 2 [0, 1]
  kb_index : KBd K fd ["self", "index"] ["index"] 1 [0, 1]
structure Cal_eInvalidDeed (K : PySem.W.Frag) (mg : Str → Option Value) (base : Heap) (tb : Tb) (C : Addr) (xa : XA) (fA : Addr) (fd : FuncData) : Prop where
  F : Fun K "__init__" "InvalidDeed.__init__" s_eInvalidDeed fA fd
  iC : PySem.W.findIn K (.ref xa.InvalidDeed) "__init__" = some (some (.ref fA))
  fn : PySem.W.isFn K (.ref fA) = true
  b : Binds K fd ["self", "index"] []
  kx : KBd K fd ["self", "index"] [] 2 [0, 1]
  kb_index : KBd K fd ["self", "index"] ["index"] 1 [0, 1]
structure Cal_eInvalidCommand (K : PySem.W.Frag) (mg : Str → Option Value) (base : Heap) (tb : Tb) (C : Addr) (xa : XA) (fA : Addr) (fd : FuncData) : Prop where
  F : Fun K "__init__" "InvalidCommand.__init__" s_eInvalidCommand fA fd
  iC : PySem.W.findIn K (.ref xa.InvalidCommand) "__init__" = some (some (.ref fA))
  fn : PySem.W.isFn K (.ref fA) = true
  b : Binds K fd ["self", "command"] []
  kx : KBd K fd ["self", "command"] [] 2 [0, 1]
  kb_command : KBd K fd ["self", "command"] ["command"] 1 [0, 1]
structure Cal_eImpossible (K : PySem.W.Frag) (mg : Str → Option Value) (base : Heap) (tb : Tb) (C : Addr) (xa : XA) (fA : Addr) (fd : FuncData) : Prop where
  F : Fun K "__init__" "Impossible.__init__" s_eImpossible fA fd
  iC : PySem.W.findIn K (.ref xa.Impossible) "__init__" = some (some (.ref fA))
  fn : PySem.W.isFn K (.ref fA) = true
  b : Binds K fd ["self", "word", "tick"] []
  kx : KBd K fd ["self", "word", "tick"] [] 3 [0, 1, 2]
  kb_tick_word : KBd K fd ["self", "word", "tick"] ["tick", "word"] 1 [0, 2, 1]
structure Cal_eNotKnown (K : PySem.W.Frag) (mg : Str → Option Value) (base : Heap) (tb : Tb) (C : Addr) (xa : XA) (fA : Addr) (fd : FuncData) : Prop where
  F : Fun K "__init__" "NotKnown.__init__" s_eNotKnown fA fd
  iC : PySem.W.findIn K (.ref xa.NotKnown) "__init__" = some (some (.ref fA))
  fn : PySem.W.isFn K (.ref fA) = true
  b : Binds K fd ["self", "stay"] []
  kx : KBd K fd ["self", "stay"] [] 2 [0, 1]
  kb_stay : KBd K fd ["self", "stay"] ["stay"] 1 [0, 1]
structure Cal_eTooMany (K : PySem.W.Frag) (mg : Str → Option Value) (base : Heap) (tb : Tb) (C : Addr) (xa : XA) (fA : Addr) (fd : FuncData) : Prop where
  F : Fun K "__init__" "TooMany.__init__" s_eTooMany fA fd
  iC : PySem.W.findIn K (.ref xa.TooMany) "__init__" = some (some (.ref fA))
  fn : PySem.W.isFn K (.ref fA) = true
  b : Binds K fd ["self", "limit"] []
  kx : KBd K fd ["self", "limit"] [] 2 [0, 1]
  kb_limit : KBd K fd ["self", "limit"] ["limit"] 1 [0, 1]
structure Cal_ii (K : PySem.W.Frag) (mg : Str → Option Value) (base : Heap) (tb : Tb) (C : Addr) (xa : XA) (fA : Addr) (fd : FuncData) : Prop where
  F : Fun K "is_integer_from" "is_integer_from" s_ii fA fd
  m : mg "is_integer_from" = some (.ref fA)
  k : PySem.W.keepIn K (.ref fA) = true
  b : Binds K fd ["value", "low", "high"] []
structure Cal_cl (K : PySem.W.Frag) (mg : Str → Option Value) (base : Heap) (tb : Tb) (C : Addr) (xa : XA) (fA : Addr) (fd : FuncData) : Prop where
  F : Fun K "_check_lengths" "_check_lengths" s_cl fA fd
  m : mg "_check_lengths" = some (.ref fA)
  k : PySem.W.keepIn K (.ref fA) = true
  b : Binds K fd ["arrivals", "departures"] []
structure Cal_inu (K : PySem.W.Frag) (mg : Str → Option Value) (base : Heap) (tb : Tb) (C : Addr) (xa : XA) (fA : Addr) (fd : FuncData) : Prop where
  F : Fun K "_is_number" "_is_number" s_inu fA fd
  m : mg "_is_number" = some (.ref fA)
  k : PySem.W.keepIn K (.ref fA) = true
  b : Binds K fd ["value"] []
structure Cal_cn (K : PySem.W.Frag) (mg : Str → Option Value) (base : Heap) (tb : Tb) (C : Addr) (xa : XA) (fA : Addr) (fd : FuncData) : Prop where
  F : Fun K "_check_numbers" "_check_numbers" s_cn fA fd
  m : mg "_check_numbers" = some (.ref fA)
  k : PySem.W.keepIn K (.ref fA) = true
  b : Binds K fd ["arrivals", "departures"] []
structure Cal_ini (K : PySem.W.Frag) (mg : Str → Option Value) (base : Heap) (tb : Tb) (C : Addr) (xa : XA) (fA : Addr) (fd : FuncData) : Prop where
  F : Fun K "__init__" "Counts.__init__" s_ini fA fd
  makes : Mk K C fA
  kb : KBd K fd ["self", "arrivals", "departures"] [] 3 [0, 1, 2]
structure Cal_cell (K : PySem.W.Frag) (mg : Str → Option Value) (base : Heap) (tb : Tb) (C : Addr) (xa : XA) (fA : Addr) (fd : FuncData) : Prop where
  F : Fun K "_law_cell" "_law_cell" s_cell fA fd
  m : mg "_law_cell" = some (.ref fA)
  k : PySem.W.keepIn K (.ref fA) = true
  b : Binds K fd ["_law_cells", "_law_k"] []
structure Cal_pool (K : PySem.W.Frag) (mg : Str → Option Value) (base : Heap) (tb : Tb) (C : Addr) (xa : XA) (fA : Addr) (fd : FuncData) : Prop where
  F : Fun K "_law_pool" "_law_pool" s_pool fA fd
  m : mg "_law_pool" = some (.ref fA)
  k : PySem.W.keepIn K (.ref fA) = true
  b : Binds K fd ["_law_cell_here"] []
structure Cal_draw (K : PySem.W.Frag) (mg : Str → Option Value) (base : Heap) (tb : Tb) (C : Addr) (xa : XA) (fA : Addr) (fd : FuncData) : Prop where
  F : Fun K "_law_draw" "_law_draw" s_draw fA fd
  m : mg "_law_draw" = some (.ref fA)
  k : PySem.W.keepIn K (.ref fA) = true
  b : Binds K fd ["_law_pool_here", "_law_many"] []
structure Cal_error (K : PySem.W.Frag) (mg : Str → Option Value) (base : Heap) (tb : Tb) (C : Addr) (xa : XA) (fA : Addr) (fd : FuncData) : Prop where
  F : Fun K "_law_error" "_law_error" s_error fA fd
  m : mg "_law_error" = some (.ref fA)
  k : PySem.W.keepIn K (.ref fA) = true
  b : Binds K fd ["_law_e"] []
structure Cal_made (K : PySem.W.Frag) (mg : Str → Option Value) (base : Heap) (tb : Tb) (C : Addr) (xa : XA) (fA : Addr) (fd : FuncData) : Prop where
  F : Fun K "_law_made" "_law_made" s_made fA fd
  m : mg "_law_made" = some (.ref fA)
  k : PySem.W.keepIn K (.ref fA) = true
  b : Binds K fd ["_law_thing", "_law_mate"] []
structure Cal_fields (K : PySem.W.Frag) (mg : Str → Option Value) (base : Heap) (tb : Tb) (C : Addr) (xa : XA) (fA : Addr) (fd : FuncData) : Prop where
  F : Fun K "_law_fields" "_law_fields" s_fields fA fd
  m : mg "_law_fields" = some (.ref fA)
  k : PySem.W.keepIn K (.ref fA) = true
  b : Binds K fd ["_law_e", "_law_at"] []
structure Cal_right (K : PySem.W.Frag) (mg : Str → Option Value) (base : Heap) (tb : Tb) (C : Addr) (xa : XA) (fA : Addr) (fd : FuncData) : Prop where
  F : Fun K "_law_right" "_law_right" s_right fA fd
  m : mg "_law_right" = some (.ref fA)
  k : PySem.W.keepIn K (.ref fA) = true
  b : Binds K fd ["_law_pool_here"] []
structure Cal_law (K : PySem.W.Frag) (mg : Str → Option Value) (base : Heap) (tb : Tb) (C : Addr) (xa : XA) (fA : Addr) (fd : FuncData) : Prop where
  F : Fun K "law" "law" s_law fA fd
  m : mg "law" = some (.ref fA)
  k : PySem.W.keepIn K (.ref fA) = true
  b : Binds K fd ["_law_cells"] []
structure Txt (K : PySem.W.Frag) (mg : Str → Option Value) (base : Heap) (tb : Tb) (ca : Str → Option Addr) (C : Addr) (xa : XA) : Prop where
  free : ∀ x ∈ (["isinstance", "len", "int", "bool", "tuple", "list", "str", "enumerate", "zip", "range", "min", "max", "repr", "all", "divmod", "abs", "sum", "ValueError", "LookupError", "ArithmeticError"] : List Str), mg x = none
  caC : ca "Counts" = some C
  mgC : mg "Counts" = some (.ref C)
  oCC : OwnC K C
  clC : Cls K C
  rdC : CRead K C (.type "type")
  na_arrivals : NoAttr K C "arrivals"
  na_departures : NoAttr K C "departures"
  co_MAX_TICKS : ∃ u, Con K C "MAX_TICKS" (.int 60) u
  co_MAX_PEOPLE : ∃ u, Con K C "MAX_PEOPLE" (.int 999) u
  cv_MAX_TICKS : ∃ u, CVal K C (.type "type") "MAX_TICKS" (.int 60) u
  cv_MAX_PEOPLE : ∃ u, CVal K C (.type "type") "MAX_PEOPLE" (.int 999) u
  mx_InvalidCounts : mg "InvalidCounts" = some (.ref xa.InvalidCounts)
  is_InvalidCounts : ∀ c k, sub_InvalidCounts c = some k → ∃ D, ca c = some D ∧ ExnC K D ∧ PySem.W.kitOne K (.ref D) (.ref xa.InvalidCounts) = some k
  mx_NotCounts : mg "NotCounts" = some (.ref xa.NotCounts)
  is_NotCounts : ∀ c k, sub_NotCounts c = some k → ∃ D, ca c = some D ∧ ExnC K D ∧ PySem.W.kitOne K (.ref D) (.ref xa.NotCounts) = some k
  mx_InvalidTick : mg "InvalidTick" = some (.ref xa.InvalidTick)
  is_InvalidTick : ∀ c k, sub_InvalidTick c = some k → ∃ D, ca c = some D ∧ ExnC K D ∧ PySem.W.kitOne K (.ref D) (.ref xa.InvalidTick) = some k
  mx_InvalidNumber : mg "InvalidNumber" = some (.ref xa.InvalidNumber)
  is_InvalidNumber : ∀ c k, sub_InvalidNumber c = some k → ∃ D, ca c = some D ∧ ExnC K D ∧ PySem.W.kitOne K (.ref D) (.ref xa.InvalidNumber) = some k
  mx_InvalidText : mg "InvalidText" = some (.ref xa.InvalidText)
  is_InvalidText : ∀ c k, sub_InvalidText c = some k → ∃ D, ca c = some D ∧ ExnC K D ∧ PySem.W.kitOne K (.ref D) (.ref xa.InvalidText) = some k
  mx_InvalidStay : mg "InvalidStay" = some (.ref xa.InvalidStay)
  is_InvalidStay : ∀ c k, sub_InvalidStay c = some k → ∃ D, ca c = some D ∧ ExnC K D ∧ PySem.W.kitOne K (.ref D) (.ref xa.InvalidStay) = some k
  mx_InvalidHistory : mg "InvalidHistory" = some (.ref xa.InvalidHistory)
  is_InvalidHistory : ∀ c k, sub_InvalidHistory c = some k → ∃ D, ca c = some D ∧ ExnC K D ∧ PySem.W.kitOne K (.ref D) (.ref xa.InvalidHistory) = some k
  mx_InvalidName : mg "InvalidName" = some (.ref xa.InvalidName)
  is_InvalidName : ∀ c k, sub_InvalidName c = some k → ∃ D, ca c = some D ∧ ExnC K D ∧ PySem.W.kitOne K (.ref D) (.ref xa.InvalidName) = some k
  mx_InvalidLength : mg "InvalidLength" = some (.ref xa.InvalidLength)
  is_InvalidLength : ∀ c k, sub_InvalidLength c = some k → ∃ D, ca c = some D ∧ ExnC K D ∧ PySem.W.kitOne K (.ref D) (.ref xa.InvalidLength) = some k
  mx_InvalidDoors : mg "InvalidDoors" = some (.ref xa.InvalidDoors)
  is_InvalidDoors : ∀ c k, sub_InvalidDoors c = some k → ∃ D, ca c = some D ∧ ExnC K D ∧ PySem.W.kitOne K (.ref D) (.ref xa.InvalidDoors) = some k
  mx_InvalidDeed : mg "InvalidDeed" = some (.ref xa.InvalidDeed)
  is_InvalidDeed : ∀ c k, sub_InvalidDeed c = some k → ∃ D, ca c = some D ∧ ExnC K D ∧ PySem.W.kitOne K (.ref D) (.ref xa.InvalidDeed) = some k
  mx_InvalidCommand : mg "InvalidCommand" = some (.ref xa.InvalidCommand)
  is_InvalidCommand : ∀ c k, sub_InvalidCommand c = some k → ∃ D, ca c = some D ∧ ExnC K D ∧ PySem.W.kitOne K (.ref D) (.ref xa.InvalidCommand) = some k
  mx_Impossible : mg "Impossible" = some (.ref xa.Impossible)
  is_Impossible : ∀ c k, sub_Impossible c = some k → ∃ D, ca c = some D ∧ ExnC K D ∧ PySem.W.kitOne K (.ref D) (.ref xa.Impossible) = some k
  mx_NotKnown : mg "NotKnown" = some (.ref xa.NotKnown)
  is_NotKnown : ∀ c k, sub_NotKnown c = some k → ∃ D, ca c = some D ∧ ExnC K D ∧ PySem.W.kitOne K (.ref D) (.ref xa.NotKnown) = some k
  mx_LimitBroken : mg "LimitBroken" = some (.ref xa.LimitBroken)
  is_LimitBroken : ∀ c k, sub_LimitBroken c = some k → ∃ D, ca c = some D ∧ ExnC K D ∧ PySem.W.kitOne K (.ref D) (.ref xa.LimitBroken) = some k
  mx_NothingToUndo : mg "NothingToUndo" = some (.ref xa.NothingToUndo)
  is_NothingToUndo : ∀ c k, sub_NothingToUndo c = some k → ∃ D, ca c = some D ∧ ExnC K D ∧ PySem.W.kitOne K (.ref D) (.ref xa.NothingToUndo) = some k
  mx_TooMany : mg "TooMany" = some (.ref xa.TooMany)
  is_TooMany : ∀ c k, sub_TooMany c = some k → ∃ D, ca c = some D ∧ ExnC K D ∧ PySem.W.kitOne K (.ref D) (.ref xa.TooMany) = some k
  mx_CountError : mg "CountError" = some (.ref xa.CountError)
  is_CountError : ∀ c k, sub_CountError c = some k → ∃ D, ca c = some D ∧ ExnC K D ∧ PySem.W.kitOne K (.ref D) (.ref xa.CountError) = some k
  mx_SearchError : mg "SearchError" = some (.ref xa.SearchError)
  is_SearchError : ∀ c k, sub_SearchError c = some k → ∃ D, ca c = some D ∧ ExnC K D ∧ PySem.W.kitOne K (.ref D) (.ref xa.SearchError) = some k
  mx_LimitError : mg "LimitError" = some (.ref xa.LimitError)
  is_LimitError : ∀ c k, sub_LimitError c = some k → ∃ D, ca c = some D ∧ ExnC K D ∧ PySem.W.kitOne K (.ref D) (.ref xa.LimitError) = some k
  is_ValueError : ∀ c k, sub_ValueError c = some k → ∃ D, ca c = some D ∧ ExnC K D ∧ PySem.W.kitOne K (.ref D) (.type "ValueError") = some k
  is_LookupError : ∀ c k, sub_LookupError c = some k → ∃ D, ca c = some D ∧ ExnC K D ∧ PySem.W.kitOne K (.ref D) (.type "LookupError") = some k
  is_ArithmeticError : ∀ c k, sub_ArithmeticError c = some k → ∃ D, ca c = some D ∧ ExnC K D ∧ PySem.W.kitOne K (.ref D) (.type "ArithmeticError") = some k
  cx_InvalidCounts : ca "InvalidCounts" = some xa.InvalidCounts
  xb_InvalidCounts : OxB K xa.InvalidCounts
  xn_InvalidCounts_tick : PySem.W.findIn K (.ref xa.InvalidCounts) "tick" = some none
  cx_NotCounts : ca "NotCounts" = some xa.NotCounts
  xb_NotCounts : OxB K xa.NotCounts
  xn_NotCounts_value : PySem.W.findIn K (.ref xa.NotCounts) "value" = some none
  cx_InvalidTick : ca "InvalidTick" = some xa.InvalidTick
  xb_InvalidTick : OxB K xa.InvalidTick
  xn_InvalidTick_tick : PySem.W.findIn K (.ref xa.InvalidTick) "tick" = some none
  cx_InvalidNumber : ca "InvalidNumber" = some xa.InvalidNumber
  xb_InvalidNumber : OxB K xa.InvalidNumber
  xn_InvalidNumber_number : PySem.W.findIn K (.ref xa.InvalidNumber) "number" = some none
  cx_InvalidText : ca "InvalidText" = some xa.InvalidText
  xb_InvalidText : OxB K xa.InvalidText
  xn_InvalidText_text : PySem.W.findIn K (.ref xa.InvalidText) "text" = some none
  cx_InvalidStay : ca "InvalidStay" = some xa.InvalidStay
  xb_InvalidStay : OxB K xa.InvalidStay
  xn_InvalidStay_index : PySem.W.findIn K (.ref xa.InvalidStay) "index" = some none
  cx_InvalidHistory : ca "InvalidHistory" = some xa.InvalidHistory
  xb_InvalidHistory : OxB K xa.InvalidHistory
  xn_InvalidHistory_history : PySem.W.findIn K (.ref xa.InvalidHistory) "history" = some none
  cx_InvalidName : ca "InvalidName" = some xa.InvalidName
  xb_InvalidName : OxB K xa.InvalidName
  xn_InvalidName_name : PySem.W.findIn K (.ref xa.InvalidName) "name" = some none
  cx_InvalidLength : ca "InvalidLength" = some xa.InvalidLength
  xb_InvalidLength : OxB K xa.InvalidLength
  xn_InvalidLength_length : PySem.W.findIn K (.ref xa.InvalidLength) "length" = some none
  cx_InvalidDoors : ca "InvalidDoors" = some xa.InvalidDoors
  xb_InvalidDoors : OxB K xa.InvalidDoors
  xn_InvalidDoors_index : PySem.W.findIn K (.ref xa.InvalidDoors) "index" = some none
  cx_InvalidDeed : ca "InvalidDeed" = some xa.InvalidDeed
  xb_InvalidDeed : OxB K xa.InvalidDeed
  xn_InvalidDeed_index : PySem.W.findIn K (.ref xa.InvalidDeed) "index" = some none
  cx_InvalidCommand : ca "InvalidCommand" = some xa.InvalidCommand
  xb_InvalidCommand : OxB K xa.InvalidCommand
  xn_InvalidCommand_command : PySem.W.findIn K (.ref xa.InvalidCommand) "command" = some none
  cx_Impossible : ca "Impossible" = some xa.Impossible
  xb_Impossible : OxB K xa.Impossible
  xn_Impossible_word : PySem.W.findIn K (.ref xa.Impossible) "word" = some none
  xn_Impossible_tick : PySem.W.findIn K (.ref xa.Impossible) "tick" = some none
  cx_NotKnown : ca "NotKnown" = some xa.NotKnown
  xb_NotKnown : OxB K xa.NotKnown
  xn_NotKnown_stay : PySem.W.findIn K (.ref xa.NotKnown) "stay" = some none
  cx_LimitBroken : ca "LimitBroken" = some xa.LimitBroken
  xb_LimitBroken : OxB K xa.LimitBroken
  xc0_LimitBroken : Ox0 K xa.LimitBroken
  cx_NothingToUndo : ca "NothingToUndo" = some xa.NothingToUndo
  xb_NothingToUndo : OxB K xa.NothingToUndo
  xc0_NothingToUndo : Ox0 K xa.NothingToUndo
  cx_TooMany : ca "TooMany" = some xa.TooMany
  xb_TooMany : OxB K xa.TooMany
  xn_TooMany_limit : PySem.W.findIn K (.ref xa.TooMany) "limit" = some none
  xf_command : ∀ c ∈ xc_command, ∃ D, ca c = some D ∧ ExnC K D ∧ PySem.W.findIn K (.ref D) "command" = some none
  xf_history : ∀ c ∈ xc_history, ∃ D, ca c = some D ∧ ExnC K D ∧ PySem.W.findIn K (.ref D) "history" = some none
  xf_index : ∀ c ∈ xc_index, ∃ D, ca c = some D ∧ ExnC K D ∧ PySem.W.findIn K (.ref D) "index" = some none
  xf_length : ∀ c ∈ xc_length, ∃ D, ca c = some D ∧ ExnC K D ∧ PySem.W.findIn K (.ref D) "length" = some none
  xf_limit : ∀ c ∈ xc_limit, ∃ D, ca c = some D ∧ ExnC K D ∧ PySem.W.findIn K (.ref D) "limit" = some none
  xf_name : ∀ c ∈ xc_name, ∃ D, ca c = some D ∧ ExnC K D ∧ PySem.W.findIn K (.ref D) "name" = some none
  xf_number : ∀ c ∈ xc_number, ∃ D, ca c = some D ∧ ExnC K D ∧ PySem.W.findIn K (.ref D) "number" = some none
  xf_stay : ∀ c ∈ xc_stay, ∃ D, ca c = some D ∧ ExnC K D ∧ PySem.W.findIn K (.ref D) "stay" = some none
  xf_text : ∀ c ∈ xc_text, ∃ D, ca c = some D ∧ ExnC K D ∧ PySem.W.findIn K (.ref D) "text" = some none
  xf_tick : ∀ c ∈ xc_tick, ∃ D, ca c = some D ∧ ExnC K D ∧ PySem.W.findIn K (.ref D) "tick" = some none
  xf_value : ∀ c ∈ xc_value, ∃ D, ca c = some D ∧ ExnC K D ∧ PySem.W.findIn K (.ref D) "value" = some none
  xf_word : ∀ c ∈ xc_word, ∃ D, ca c = some D ∧ ExnC K D ∧ PySem.W.findIn K (.ref D) "word" = some none
  c_eInvalidCounts : ∃ fA fd, Cal_eInvalidCounts K mg base tb C xa fA fd
  c_eNotCounts : ∃ fA fd, Cal_eNotCounts K mg base tb C xa fA fd
  c_eInvalidTick : ∃ fA fd, Cal_eInvalidTick K mg base tb C xa fA fd
  c_eInvalidNumber : ∃ fA fd, Cal_eInvalidNumber K mg base tb C xa fA fd
  c_eInvalidText : ∃ fA fd, Cal_eInvalidText K mg base tb C xa fA fd
  c_eInvalidStay : ∃ fA fd, Cal_eInvalidStay K mg base tb C xa fA fd
  c_eInvalidHistory : ∃ fA fd, Cal_eInvalidHistory K mg base tb C xa fA fd
  c_eInvalidName : ∃ fA fd, Cal_eInvalidName K mg base tb C xa fA fd
  c_eInvalidLength : ∃ fA fd, Cal_eInvalidLength K mg base tb C xa fA fd
  c_eInvalidDoors : ∃ fA fd, Cal_eInvalidDoors K mg base tb C xa fA fd
  c_eInvalidDeed : ∃ fA fd, Cal_eInvalidDeed K mg base tb C xa fA fd
  c_eInvalidCommand : ∃ fA fd, Cal_eInvalidCommand K mg base tb C xa fA fd
  c_eImpossible : ∃ fA fd, Cal_eImpossible K mg base tb C xa fA fd
  c_eNotKnown : ∃ fA fd, Cal_eNotKnown K mg base tb C xa fA fd
  c_eTooMany : ∃ fA fd, Cal_eTooMany K mg base tb C xa fA fd
  c_ii : ∃ fA fd, Cal_ii K mg base tb C xa fA fd
  c_cl : ∃ fA fd, Cal_cl K mg base tb C xa fA fd
  c_inu : ∃ fA fd, Cal_inu K mg base tb C xa fA fd
  c_cn : ∃ fA fd, Cal_cn K mg base tb C xa fA fd
  c_ini : ∃ fA fd, Cal_ini K mg base tb C xa fA fd
  c_cell : ∃ fA fd, Cal_cell K mg base tb C xa fA fd
  c_pool : ∃ fA fd, Cal_pool K mg base tb C xa fA fd
  c_draw : ∃ fA fd, Cal_draw K mg base tb C xa fA fd
  c_error : ∃ fA fd, Cal_error K mg base tb C xa fA fd
  c_made : ∃ fA fd, Cal_made K mg base tb C xa fA fd
  c_fields : ∃ fA fd, Cal_fields K mg base tb C xa fA fd
  c_right : ∃ fA fd, Cal_right K mg base tb C xa fA fd
  c_law : ∃ fA fd, Cal_law K mg base tb C xa fA fd
section
variable {Pg : Program} {w : World} {K : PySem.W.Frag} {mg : Str → Option Value} {base : Heap} {tb : Tb} {ca : Str → Option Addr} {C : Addr} {xa : XA}
theorem Txt.cs (T : Txt K mg base tb ca C xa) : ∀ c ∈ cs, ∃ C, ca c = some C ∧ OwnC K C := fun c hc => by
  rw [List.mem_singleton.mp hc]
  exact ⟨C, T.caC, T.oCC⟩
/-! InvalidCounts.__init__ -/
theorem sc_eInvalidCounts : FnScope ["self", "tick"] ["self", "tick"] (defScope s_eInvalidCounts) := ⟨rfl, rfl, rfl, by decide +kernel, rfl, by decide +kernel, by decide +kernel⟩
theorem ok_eInvalidCounts {fA : Addr} {fd : FuncData} (T : Txt K mg base tb ca C xa) (F : Fun K "__init__" "InvalidCounts.__init__" s_eInvalidCounts fA fd) : FnG Pg w K mg base 1 fA fd ["self", "tick"] (spXI xa.InvalidCounts ["tick"]) := fn_x1 T.xb_InvalidCounts F sc_eInvalidCounts rfl T.xn_InvalidCounts_tick (Or.inl rfl) (Or.inl rfl) (by decide) (by decide) (by decide) (by decide)
/-! NotCounts.__init__ -/
theorem sc_eNotCounts : FnScope ["self", "value"] ["self", "value"] (defScope s_eNotCounts) := ⟨rfl, rfl, rfl, by decide +kernel, rfl, by decide +kernel, by decide +kernel⟩
theorem ok_eNotCounts {fA : Addr} {fd : FuncData} (T : Txt K mg base tb ca C xa) (F : Fun K "__init__" "NotCounts.__init__" s_eNotCounts fA fd) : FnG Pg w K mg base 1 fA fd ["self", "value"] (spXI xa.NotCounts ["value"]) := fn_x1 T.xb_NotCounts F sc_eNotCounts rfl T.xn_NotCounts_value (Or.inl rfl) (Or.inl rfl) (by decide) (by decide) (by decide) (by decide)
/-! InvalidTick.__init__ -/
theorem sc_eInvalidTick : FnScope ["self", "tick"] ["self", "tick"] (defScope s_eInvalidTick) := ⟨rfl, rfl, rfl, by decide +kernel, rfl, by decide +kernel, by decide +kernel⟩
theorem ok_eInvalidTick {fA : Addr} {fd : FuncData} (T : Txt K mg base tb ca C xa) (F : Fun K "__init__" "InvalidTick.__init__" s_eInvalidTick fA fd) : FnG Pg w K mg base 1 fA fd ["self", "tick"] (spXI xa.InvalidTick ["tick"]) := fn_x1 T.xb_InvalidTick F sc_eInvalidTick rfl T.xn_InvalidTick_tick (Or.inl rfl) (Or.inl rfl) (by decide) (by decide) (by decide) (by decide)
/-! InvalidNumber.__init__ -/
theorem sc_eInvalidNumber : FnScope ["self", "number"] ["self", "number"] (defScope s_eInvalidNumber) := ⟨rfl, rfl, rfl, by decide +kernel, rfl, by decide +kernel, by decide +kernel⟩
theorem ok_eInvalidNumber {fA : Addr} {fd : FuncData} (T : Txt K mg base tb ca C xa) (F : Fun K "__init__" "InvalidNumber.__init__" s_eInvalidNumber fA fd) : FnG Pg w K mg base 1 fA fd ["self", "number"] (spXI xa.InvalidNumber ["number"]) := fn_x1 T.xb_InvalidNumber F sc_eInvalidNumber rfl T.xn_InvalidNumber_number (Or.inl rfl) (Or.inl rfl) (by decide) (by decide) (by decide) (by decide)
/-! InvalidText.__init__ -/
theorem sc_eInvalidText : FnScope ["self", "text"] ["self", "text"] (defScope s_eInvalidText) := ⟨rfl, rfl, rfl, by decide +kernel, rfl, by decide +kernel, by decide +kernel⟩
theorem ok_eInvalidText {fA : Addr} {fd : FuncData} (T : Txt K mg base tb ca C xa) (F : Fun K "__init__" "InvalidText.__init__" s_eInvalidText fA fd) : FnG Pg w K mg base 1 fA fd ["self", "text"] (spXI xa.InvalidText ["text"]) := fn_x1 T.xb_InvalidText F sc_eInvalidText rfl T.xn_InvalidText_text (Or.inl rfl) (Or.inl rfl) (by decide) (by decide) (by decide) (by decide)
/-! InvalidStay.__init__ -/
theorem sc_eInvalidStay : FnScope ["self", "index"] ["self", "index"] (defScope s_eInvalidStay) := ⟨rfl, rfl, rfl, by decide +kernel, rfl, by decide +kernel, by decide +kernel⟩
theorem ok_eInvalidStay {fA : Addr} {fd : FuncData} (T : Txt K mg base tb ca C xa) (F : Fun K "__init__" "InvalidStay.__init__" s_eInvalidStay fA fd) : FnG Pg w K mg base 1 fA fd ["self", "index"] (spXI xa.InvalidStay ["index"]) := fn_x1 T.xb_InvalidStay F sc_eInvalidStay rfl T.xn_InvalidStay_index (Or.inl rfl) (Or.inl rfl) (by decide) (by decide) (by decide) (by decide)
/-! InvalidHistory.__init__ -/
theorem sc_eInvalidHistory : FnScope ["self", "history"] ["self", "history"] (defScope s_eInvalidHistory) := ⟨rfl, rfl, rfl, by decide +kernel, rfl, by decide +kernel, by decide +kernel⟩
theorem ok_eInvalidHistory {fA : Addr} {fd : FuncData} (T : Txt K mg base tb ca C xa) (F : Fun K "__init__" "InvalidHistory.__init__" s_eInvalidHistory fA fd) : FnG Pg w K mg base 1 fA fd ["self", "history"] (spXI xa.InvalidHistory ["history"]) := fn_x1 T.xb_InvalidHistory F sc_eInvalidHistory rfl T.xn_InvalidHistory_history (Or.inl rfl) (Or.inl rfl) (by decide) (by decide) (by decide) (by decide)
/-! InvalidName.__init__ -/
theorem sc_eInvalidName : FnScope ["self", "name"] ["self", "name"] (defScope s_eInvalidName) := ⟨rfl, rfl, rfl, by decide +kernel, rfl, by decide +kernel, by decide +kernel⟩
theorem ok_eInvalidName {fA : Addr} {fd : FuncData} (T : Txt K mg base tb ca C xa) (F : Fun K "__init__" "InvalidName.__init__" s_eInvalidName fA fd) : FnG Pg w K mg base 1 fA fd ["self", "name"] (spXI xa.InvalidName ["name"]) := fn_x1 T.xb_InvalidName F sc_eInvalidName rfl T.xn_InvalidName_name (Or.inl rfl) (Or.inl rfl) (by decide) (by decide) (by decide) (by decide)
/-! InvalidLength.__init__ -/
theorem sc_eInvalidLength : FnScope ["self", "length"] ["self", "length"] (defScope s_eInvalidLength) := ⟨rfl, rfl, rfl, by decide +kernel, rfl, by decide +kernel, by decide +kernel⟩
theorem ok_eInvalidLength {fA : Addr} {fd : FuncData} (T : Txt K mg base tb ca C xa) (F : Fun K "__init__" "InvalidLength.__init__" s_eInvalidLength fA fd) : FnG Pg w K mg base 1 fA fd ["self", "length"] (spXI xa.InvalidLength ["length"]) := fn_x1 T.xb_InvalidLength F sc_eInvalidLength rfl T.xn_InvalidLength_length (Or.inl rfl) (Or.inl rfl) (by decide) (by decide) (by decide) (by decide)
/-! InvalidDoors.__init__ -/
theorem sc_eInvalidDoors : FnScope ["self", "index"] ["self", "index"] (defScope s_eInvalidDoors) := ⟨rfl, rfl, rfl, by decide +kernel, rfl, by decide +kernel, by decide +kernel⟩
theorem ok_eInvalidDoors {fA : Addr} {fd : FuncData} (T : Txt K mg base tb ca C xa) (F : Fun K "__init__" "InvalidDoors.__init__" s_eInvalidDoors fA fd) : FnG Pg w K mg base 1 fA fd ["self", "index"] (spXI xa.InvalidDoors ["index"]) := fn_x1 T.xb_InvalidDoors F sc_eInvalidDoors rfl T.xn_InvalidDoors_index (Or.inl rfl) (Or.inl rfl) (by decide) (by decide) (by decide) (by decide)
/-! InvalidDeed.__init__ -/
theorem sc_eInvalidDeed : FnScope ["self", "index"] ["self", "index"] (defScope s_eInvalidDeed) := ⟨rfl, rfl, rfl, by decide +kernel, rfl, by decide +kernel, by decide +kernel⟩
theorem ok_eInvalidDeed {fA : Addr} {fd : FuncData} (T : Txt K mg base tb ca C xa) (F : Fun K "__init__" "InvalidDeed.__init__" s_eInvalidDeed fA fd) : FnG Pg w K mg base 1 fA fd ["self", "index"] (spXI xa.InvalidDeed ["index"]) := fn_x1 T.xb_InvalidDeed F sc_eInvalidDeed rfl T.xn_InvalidDeed_index (Or.inl rfl) (Or.inl rfl) (by decide) (by decide) (by decide) (by decide)
/-! InvalidCommand.__init__ -/
theorem sc_eInvalidCommand : FnScope ["self", "command"] ["self", "command"] (defScope s_eInvalidCommand) := ⟨rfl, rfl, rfl, by decide +kernel, rfl, by decide +kernel, by decide +kernel⟩
theorem ok_eInvalidCommand {fA : Addr} {fd : FuncData} (T : Txt K mg base tb ca C xa) (F : Fun K "__init__" "InvalidCommand.__init__" s_eInvalidCommand fA fd) : FnG Pg w K mg base 1 fA fd ["self", "command"] (spXI xa.InvalidCommand ["command"]) := fn_x1 T.xb_InvalidCommand F sc_eInvalidCommand rfl T.xn_InvalidCommand_command (Or.inl rfl) (Or.inl rfl) (by decide) (by decide) (by decide) (by decide)
/-! Impossible.__init__ -/
theorem sc_eImpossible : FnScope ["self", "word", "tick"] ["self", "word", "tick"] (defScope s_eImpossible) := ⟨rfl, rfl, rfl, by decide +kernel, rfl, by decide +kernel, by decide +kernel⟩
theorem ok_eImpossible {fA : Addr} {fd : FuncData} (T : Txt K mg base tb ca C xa) (F : Fun K "__init__" "Impossible.__init__" s_eImpossible fA fd) : FnG Pg w K mg base 1 fA fd ["self", "word", "tick"] (spXI xa.Impossible ["word", "tick"]) := fn_x2 T.xb_Impossible F sc_eImpossible rfl T.xn_Impossible_word T.xn_Impossible_tick (Or.inl rfl) (Or.inl rfl) (Or.inl rfl) (by decide) (by decide) (by decide) (by decide) (by decide) (by decide)
/-! NotKnown.__init__ -/
theorem sc_eNotKnown : FnScope ["self", "stay"] ["self", "stay"] (defScope s_eNotKnown) := ⟨rfl, rfl, rfl, by decide +kernel, rfl, by decide +kernel, by decide +kernel⟩
theorem ok_eNotKnown {fA : Addr} {fd : FuncData} (T : Txt K mg base tb ca C xa) (F : Fun K "__init__" "NotKnown.__init__" s_eNotKnown fA fd) : FnG Pg w K mg base 1 fA fd ["self", "stay"] (spXI xa.NotKnown ["stay"]) := fn_x1 T.xb_NotKnown F sc_eNotKnown rfl T.xn_NotKnown_stay (Or.inl rfl) (Or.inl rfl) (by decide) (by decide) (by decide) (by decide)
/-! TooMany.__init__ -/
theorem sc_eTooMany : FnScope ["self", "limit"] ["self", "limit"] (defScope s_eTooMany) := ⟨rfl, rfl, rfl, by decide +kernel, rfl, by decide +kernel, by decide +kernel⟩
theorem ok_eTooMany {fA : Addr} {fd : FuncData} (T : Txt K mg base tb ca C xa) (F : Fun K "__init__" "TooMany.__init__" s_eTooMany fA fd) : FnG Pg w K mg base 1 fA fd ["self", "limit"] (spXI xa.TooMany ["limit"]) := fn_x1 T.xb_TooMany F sc_eTooMany rfl T.xn_TooMany_limit (Or.inl rfl) (Or.inl rfl) (by decide) (by decide) (by decide) (by decide)
/-! is_integer_from -/
theorem sc_ii : FnScope ["value", "low", "high"] ["value", "low", "high"] (defScope s_ii) := ⟨rfl, rfl, rfl, by decide +kernel, rfl, by decide +kernel, by decide +kernel⟩
def f_ii : FS := (retS (andV (un1 (isiD (tyK "int") (inst0 cs)) (nm 0)) (andV (notV (un1 (isiD (tyK "bool") (inst0 cs)) (nm 0))) (chn leD leD (nm 1) (nm 0) (nm 2)))))
abbrev F_ii := runF 3 3 f_ii
theorem ok_ii {fA : Addr} {fd : FuncData} (T : Txt K mg base tb ca C xa) (F : Fun K "is_integer_from" "is_integer_from" s_ii fA fd) : FnG Pg w K mg base 1 fA fd ["value", "low", "high"] (spF K ca tb F_ii) := by
  refine fn_d (N := ["value", "low", "high"]) (OO := []) F sc_ii fun cdv A outer s H E hr => ?_
  have hu := hr.r.units
  have hgu := hr.g
  exact (pss_oneD (psd_ret ((pd_and rfl (pd_isB "int" (by decide) cs T.cs rfl (T.free _ (by decide +kernel)) (T.free _ (by decide +kernel)) boot_int (pd_name 0).pb) (pd_and rfl (pd_not rfl (pd_isB "bool" (by decide) cs T.cs rfl (T.free _ (by decide +kernel)) (T.free _ (by decide +kernel)) boot_bool (pd_name 0).pb).pb) (pd_one (pd_chain op_le op_le op2_le op2_le (pd_name 1).pb (pd_name 0).pb (pd_name 2).pb)))))))
/-! _check_lengths -/
theorem sc_cl : FnScope ["arrivals", "departures"] ["arrivals", "departures"] (defScope s_cl) := ⟨rfl, rfl, rfl, by decide +kernel, rfl, by decide +kernel, by decide +kernel⟩
def f_cl : FS := (seqS (ifS (orT (notT (tst (un1 (isiD (tyK "tuple") (inst0 cs)) (nm 0)))) (notT (tst (un1 (isiD (tyK "tuple") (inst0 cs)) (nm 1))))) badS nxS)
  (ifS (orT (tstB (bin2 neD (callE lenD (consA (nm 0) nilA)) (callE lenD (consA (nm 1) nilA)))) (notT (tstB (chn leD leD (fun _ S => R.ok (.int 1, S)) (callE lenD (consA (nm 0) nilA)) (fun _ S => R.ok (.int 60, S)))))) badS nxS))
abbrev F_cl := runF 2 2 f_cl
theorem ok_cl {fA : Addr} {fd : FuncData} (T : Txt K mg base tb ca C xa) (F : Fun K "_check_lengths" "_check_lengths" s_cl fA fd) : FnG Pg w K mg base 1 fA fd ["arrivals", "departures"] (spF K ca tb F_cl) := by
  refine fn_d (N := ["arrivals", "departures"]) (OO := []) F sc_cl fun cdv A outer s H E hr => ?_
  have hu := hr.r.units
  have hgu := hr.g
  exact (pss_consD (psd_if (PWd.pt (ptw_or (ptd_not (pt_tru rfl (pd_isB "tuple" (by decide) cs T.cs rfl (T.free _ (by decide +kernel)) (T.free _ (by decide +kernel)) (by decide +kernel) (pd_name 0).pb).pb)) (ptw_or1 (ptd_not (pt_tru rfl (pd_isB "tuple" (by decide) cs T.cs rfl (T.free _ (by decide +kernel)) (T.free _ (by decide +kernel)) (by decide +kernel) (pd_name 1).pb).pb))))) (pss_oneD psd_never) pss_nilD)
    (pss_oneD (psd_if (PWd.pt (ptw_or (pt_ne rfl hu (pd_len rfl (T.free _ (by decide +kernel)) (pba_cons (pd_name 0).pb pba_nil)).pb (pd_len rfl (T.free _ (by decide +kernel)) (pba_cons (pd_name 1).pb pba_nil)).pb) (ptw_or1 (ptd_not (pt_chain1 op_le op_le op2_le op2_le (pd_int).pb (pd_len rfl (T.free _ (by decide +kernel)) (pba_cons (pd_name 0).pb pba_nil)).pb (pd_cval T.mgC T.rdC T.cv_MAX_TICKS.choose_spec (fun _ => .int _)).pb))))) (pss_oneD psd_never) pss_nilD)))
/-! _is_number -/
theorem sc_inu : FnScope ["value"] ["value"] (defScope s_inu) := ⟨rfl, rfl, rfl, by decide +kernel, rfl, by decide +kernel, by decide +kernel⟩
def f_inu : FS := (retS (callD F_ii [] (consA (nm 0) (consA (fun _ S => R.ok (.int 0, S)) (consA (fun _ S => R.ok (.int 999, S)) nilA)))))
abbrev F_inu := runF 1 1 f_inu
theorem ok_inu {fA : Addr} {fd : FuncData} (T : Txt K mg base tb ca C xa) (F : Fun K "_is_number" "_is_number" s_inu fA fd) : FnG Pg w K mg base 2 fA fd ["value"] (spF K ca tb F_inu) := by
  obtain ⟨_, _, c_ii⟩ := T.c_ii
  refine fn_d (N := ["value"]) (OO := []) F sc_inu fun cdv A outer s H E hr => ?_
  have hu := hr.r.units
  have hgu := hr.g
  exact (pss_oneD (psd_ret (pd_call (ok_ii T c_ii.F) (hr.mono (by decide)) c_ii.m c_ii.k c_ii.b .nil (fun _ => .nil) (pad_cons (pd_name 0) (pad_cons (pd_int) (pad_cons (pd_cval T.mgC T.rdC T.cv_MAX_PEOPLE.choose_spec (fun _ => .int _)) pad_nil))))))
/-! _check_numbers -/
theorem sc_cn : FnScope ["arrivals", "departures", "people", "present", "tick", "arriving", "leaving"] ["arrivals", "departures"] (defScope s_cn) := ⟨rfl, rfl, rfl, by decide +kernel, rfl, by decide +kernel, by decide +kernel⟩
def f_cn : FS := (seqS (asgS (fun _ S => R.ok (.int 0, S)) (nmG 2))
  (seqS (asgS (fun _ S => R.ok (.int 0, S)) (nmG 3))
  (forS (enI (rngI zip2D (consA (nm 0) (consA (nm 1) nilA)))) (tupG 2 (consG (nmG 4) (consG (tupG 2 (consG (nmG 5) (consG (nmG 6) nilG))) nilG))) (seqS (ifS (orT (notT (tst (callD F_inu [] (consA (nm 5) nilA)))) (notT (tst (callD F_inu [] (consA (nm 6) nilA))))) badS nxS)
  (seqS (asgS (bin2 addD (nm 2) (nm 5)) (nmG 2))
  (seqS (asgS (bin2 subD (bin2 addD (nm 3) (nm 5)) (nm 6)) (nmG 3))
  (ifS (orT (tstB (bin2 gtD (nm 2) (fun _ S => R.ok (.int 999, S)))) (tstB (bin2 ltD (nm 3) (fun _ S => R.ok (.int 0, S))))) badS nxS)))))))
abbrev F_cn := runF 7 2 f_cn
theorem ok_cn {fA : Addr} {fd : FuncData} (T : Txt K mg base tb ca C xa) (F : Fun K "_check_numbers" "_check_numbers" s_cn fA fd) : FnG Pg w K mg base 3 fA fd ["arrivals", "departures"] (spF K ca tb F_cn) := by
  obtain ⟨_, _, c_inu⟩ := T.c_inu
  refine fn_d (N := ["arrivals", "departures", "people", "present", "tick", "arriving", "leaving"]) (OO := []) F sc_cn fun cdv A outer s H E hr => ?_
  have hu := hr.r.units
  have hgu := hr.g
  exact (pss_consD (psd_set 2 sc_cn.nd notplN (pd_int))
    (pss_consD (psd_set 3 sc_cn.nd notplN (pd_int))
    (pss_oneD (psd_for PassesOwn.never rfl (pid_enumz rfl (T.free _ (by decide +kernel)) (pzd_zip2 rfl (T.free _ (by decide +kernel)) (pad_cons (pd_name 0) (pad_cons (pd_name 1) pad_nil)))) (pgd_tup rfl rfl (pgsd_cons (pgd_name 4 sc_cn.nd notplN) (pgsd_cons (pgd_tup rfl rfl (pgsd_cons (pgd_name 5 sc_cn.nd notplN) (pgsd_cons (pgd_name 6 sc_cn.nd notplN) pgsd_nil))) pgsd_nil))) (pss_consD (psd_if (PWd.pt (ptw_or (ptd_not (pt_tru rfl (pd_call (ok_inu T c_inu.F) (hr.mono (by decide)) c_inu.m c_inu.k c_inu.b .nil (fun _ => .nil) (pad_cons (pd_name 5) pad_nil)).pb)) (ptw_or1 (ptd_not (pt_tru rfl (pd_call (ok_inu T c_inu.F) (hr.mono (by decide)) c_inu.m c_inu.k c_inu.b .nil (fun _ => .nil) (pad_cons (pd_name 6) pad_nil)).pb))))) (pss_oneD psd_never) pss_nilD)
    (pss_consD (psd_set 2 sc_cn.nd notplN (pd_add rfl (pd_name 2).pb (pd_name 5).pb))
    (pss_consD (psd_set 3 sc_cn.nd notplN (pd_sub (pd_add rfl (pd_name 3).pb (pd_name 5).pb).pb (pd_name 6).pb))
    (pss_oneD (psd_if (PWd.pt (ptw_or (pt_gt (pd_name 2).pb (pd_cval T.mgC T.rdC T.cv_MAX_PEOPLE.choose_spec (fun _ => .int _)).pb) (ptw_or1 (pt_lt (pd_name 3).pb (pd_int).pb)))) (pss_oneD psd_never) pss_nilD)))))))))
/-! Counts.__init__ -/
theorem sc_ini : FnScope ["self", "arrivals", "departures"] ["self", "arrivals", "departures"] (defScope s_ini) := ⟨rfl, rfl, rfl, by decide +kernel, rfl, by decide +kernel, by decide +kernel⟩
def nm_ini : List Str := ["arrivals", "departures"]
def f_ini : FS := (seqS (exprS (callD F_cl [] (consA (nm 1) (consA (nm 2) nilA))))
  (seqS (exprS (callD F_cn [] (consA (nm 1) (consA (nm 2) nilA))))
  (seqS (slfS nm_ini "arrivals" (nm 1))
  (slfS nm_ini "departures" (nm 2)))))
abbrev F_ini := runI nm_ini 3 3 f_ini
theorem ok_ini {fA : Addr} {fd : FuncData} (T : Txt K mg base tb ca C xa) (F : Fun K "__init__" "Counts.__init__" s_ini fA fd) : FnG Pg w K mg base 4 fA fd ["self", "arrivals", "departures"] (spI K ca tb C nm_ini F_ini) := by
  obtain ⟨_, _, c_cl⟩ := T.c_cl
  obtain ⟨_, _, c_cn⟩ := T.c_cn
  refine fn_i (N := ["self", "arrivals", "departures"]) (OO := []) F sc_ini (by decide) fun cdv A outer s H E p dx hr => ?_
  have hu := hr.r.units
  have hgu := hr.g
  exact (pss_consD (psd_expr (pd_call (ok_cl T c_cl.F) (hr.mono (by decide)) c_cl.m c_cl.k c_cl.b .nil (fun _ => .nil) (pad_cons (pd_name 1) (pad_cons (pd_name 2) pad_nil))))
    (pss_consD (psd_expr (pd_call (ok_cn T c_cn.F) (hr.mono (by decide)) c_cn.m c_cn.k c_cn.b .nil (fun _ => .nil) (pad_cons (pd_name 1) (pad_cons (pd_name 2) pad_nil))))
    (pss_consD (psd_slf 0 rfl ⟨_, rfl⟩ rfl T.clC T.na_arrivals (pd_name 1))
    (pss_oneD (psd_slf 0 rfl ⟨_, rfl⟩ rfl T.clC T.na_departures (pd_name 2))))))
/-! _law_cell -/
theorem sc_cell : FnScope ["_law_cells", "_law_k", "_law_seed", "_law_part"] ["_law_cells", "_law_k"] (defScope s_cell) := ⟨rfl, rfl, rfl, by decide +kernel, rfl, by decide +kernel, by decide +kernel⟩
def f_cell : FS := (seqS (ifS (tstB (bin2 ltD (nm 1) (callE lenD (consA (nm 0) nilA)))) (retS (bin2 idxD (nm 0) (nm 1))) nxS)
  (seqS (asgS (bin2 modD (bin2 mulD (fun _ S => R.ok (.int 70009, S)) (bin2 addD (bin2 addD (bin2 mulD (nm 1) (nm 1)) (bin2 mulD (fun _ S => R.ok (.int 7, S)) (nm 1))) (fun _ S => R.ok (.int 19, S)))) (fun _ S => R.ok (.int 2147483179, S))) (nmG 2))
  (seqS (forS (seqI itemsL (slcE (nm 0) noneO (someO (fun _ S => R.ok (.int 3, S))))) (nmG 3) (asgS (bin2 modD (bin2 addD (bin2 mulD (nm 2) (fun _ S => R.ok (.int 42019, S))) (nm 3)) (fun _ S => R.ok (.int 2147483179, S))) (nmG 2)))
  (retS (nm 2)))))
abbrev F_cell := runF 4 2 f_cell
theorem ok_cell {fA : Addr} {fd : FuncData} (T : Txt K mg base tb ca C xa) (F : Fun K "_law_cell" "_law_cell" s_cell fA fd) : FnG Pg w K mg base 1 fA fd ["_law_cells", "_law_k"] (spF K ca tb F_cell) := by
  refine fn_d (N := ["_law_cells", "_law_k", "_law_seed", "_law_part"]) (OO := []) F sc_cell fun cdv A outer s H E hr => ?_
  have hu := hr.r.units
  have hgu := hr.g
  exact (pss_consD (psd_if (pt_lt (pd_name 1).pb (pd_len rfl (T.free _ (by decide +kernel)) (pba_cons (pd_name 0).pb pba_nil)).pb) (pss_oneD (psd_ret (pd_idx rfl (pd_name 0).pb (pd_name 1)))) pss_nilD)
    (pss_consD (psd_set 2 sc_cell.nd notplN (pd_mod (pd_mul rfl (pd_int).pb (pd_add rfl (pd_add rfl (pd_mul rfl (pd_name 1).pb (pd_name 1).pb).pb (pd_mul rfl (pd_int).pb (pd_name 1).pb).pb).pb (pd_int).pb).pb).pb (pd_int).pb))
    (pss_consD (psd_for PassesOwn.never rfl (pid_list rfl (pd_slc rfl (pd_name 0).pb pod_none (pod_some (pd_int)))) (pgd_name 3 sc_cell.nd notplN) (pss_oneD (psd_set 2 sc_cell.nd notplN (pd_mod (pd_add rfl (pd_mul rfl (pd_name 2).pb (pd_int).pb).pb (pd_name 3).pb).pb (pd_int).pb))))
    (pss_oneD (psd_ret (pd_name 2))))))
/-! _law_pool -/
theorem sc_pool : FnScope ["_law_cell_here", "_law_digits"] ["_law_cell_here"] (defScope s_pool) := ⟨rfl, rfl, rfl, by decide +kernel, rfl, by decide +kernel, by decide +kernel⟩
def f_pool : FA := (seqN (asgS (ifE (orT (tstB (bin2 ltD (nm 0) (fun _ S => R.ok (.int 0, S)))) (tstB (bin2 geD (nm 0) (bin2 powD (fun _ S => R.ok (.int 10, S)) (fun _ S => R.ok (.int 18, S)))))) (callE absD (consA (nm 0) nilA)) (fun _ S => R.ok (.int 0, S))) (nmG 1))
  (lstF (consA (bin2 modD (nm 0) (fun _ S => R.ok (.int 2147483179, S))) (consA (nm 1) (consA (fun _ S => R.ok (.int 0, S)) nilA)))))
abbrev F_pool := runN 2 1 f_pool
theorem ok_pool {fA : Addr} {fd : FuncData} (T : Txt K mg base tb ca C xa) (F : Fun K "_law_pool" "_law_pool" s_pool fA fd) : FnG Pg w K mg base 1 fA fd ["_law_cell_here"] (spN K ca tb F_pool) := by
  refine fn_n (N := ["_law_cell_here", "_law_digits"]) F sc_pool fun cdv A outer s H E hr => ?_
  have hu := hr.r.units
  have hgu := hr.g
  exact (psn_cons (psd_set 1 sc_pool.nd notplN (pd_ifE (PWd.pt (ptw_or (pt_lt (pd_name 0).pb (pd_int).pb) (ptw_or1 (pt_ge (pd_name 0).pb (pd_pow (pd_int).pb (pd_int).pb).pb)))) (pd_abs (T.free _ (by decide +kernel)) (pba_cons (pd_name 0).pb pba_nil)) (pd_int)))
    (psn_ret (pf_lst (pad_cons (pd_mod (pd_name 0).pb (pd_int).pb) (pad_cons (pd_name 1) (pad_cons (pd_int) pad_nil))))))
/-! _law_draw -/
theorem sc_draw : FnScope ["_law_pool_here", "_law_many", "_law_seed", "_law_digit"] ["_law_pool_here", "_law_many"] (defScope s_draw) := ⟨rfl, rfl, rfl, by decide +kernel, rfl, by decide +kernel, by decide +kernel⟩
def f_draw : FS := (seqS (asgS (bin2 addD (poolE 2) (fun _ S => R.ok (.int 1, S))) (poolG 2))
  (seqS (asgS (poolE 0) (nmG 2))
  (seqS (asgS (bin2 modD (bin2 addD (bin2 addD (bin2 mulD (nm 2) (bin2 addD (bin2 modD (nm 2) (fun _ S => R.ok (.int 40993, S))) (fun _ S => R.ok (.int 30013, S)))) (bin2 mulD (fun _ S => R.ok (.int 70001, S)) (poolE 2))) (fun _ S => R.ok (.int 9, S))) (fun _ S => R.ok (.int 2147483179, S))) (poolG 0))
  (seqS (ifS (tstB (bin2 gtD (poolE 1) (fun _ S => R.ok (.int 0, S)))) (seqS (asgS (callE divmodD (consA (poolE 1) (consA (nm 1) nilA))) (tupG 2 (consG (poolG 1) (consG (nmG 3) nilG))))
  (retS (nm 3))) nxS)
  (retS (bin2 modD (bin2 fdivD (poolE 0) (fun _ S => R.ok (.int 64, S))) (nm 1)))))))
abbrev F_draw := runP 4 2 f_draw
theorem ok_draw {fA : Addr} {fd : FuncData} (T : Txt K mg base tb ca C xa) (F : Fun K "_law_draw" "_law_draw" s_draw fA fd) : FnG Pg w K mg base 1 fA fd ["_law_pool_here", "_law_many"] (spP K ca tb F_draw) := by
  refine fn_p (N := ["_law_pool_here", "_law_many", "_law_seed", "_law_digit"]) (OO := []) F sc_draw (by decide) fun cdv A outer s H E p hr => ?_
  have hu := hr.r.units
  have hgu := hr.g
  exact (pss_consD (psd_asg (pd_add rfl (pd_pool 0 rfl rfl ⟨_, rfl⟩).pb (pd_int).pb) (pgd_pool 0 rfl ⟨_, rfl⟩))
    (pss_consD (psd_set 2 sc_draw.nd (notpl0 (by decide)) (pd_pool 0 rfl rfl ⟨_, rfl⟩))
    (pss_consD (psd_asg (pd_mod (pd_add rfl (pd_add rfl (pd_mul rfl (pd_name 2).pb (pd_add rfl (pd_mod (pd_name 2).pb (pd_int).pb).pb (pd_int).pb).pb).pb (pd_mul rfl (pd_int).pb (pd_pool 0 rfl rfl ⟨_, rfl⟩).pb).pb).pb (pd_int).pb).pb (pd_int).pb) (pgd_pool 0 rfl ⟨_, rfl⟩))
    (pss_consD (psd_if (pt_gt (pd_pool 0 rfl rfl ⟨_, rfl⟩).pb (pd_int).pb) (pss_consD (psd_asg (pd_divmod (T.free _ (by decide +kernel)) (pba_cons (pd_pool 0 rfl rfl ⟨_, rfl⟩).pb (pba_cons (pd_name 1).pb pba_nil))) (pgd_tup rfl rfl (pgsd_cons (pgd_pool 0 rfl ⟨_, rfl⟩) (pgsd_cons (pgd_name 3 sc_draw.nd (notpl0 (by decide))) pgsd_nil))))
    (pss_oneD (psd_ret (pd_name 3)))) pss_nilD)
    (pss_oneD (psd_ret (pd_mod (pd_fdiv (pd_pool 0 rfl rfl ⟨_, rfl⟩).pb (pd_int).pb).pb (pd_name 1).pb)))))))
/-! _law_error -/
theorem sc_error : FnScope ["_law_e", "_law_sorts", "_law_bases", "_law_own", "_law_at"] ["_law_e"] (defScope s_error) := ⟨rfl, rfl, rfl, by decide +kernel, rfl, by decide +kernel, by decide +kernel⟩
def f_error : FS := (seqS (asgS (ofF (lstF (consA (un1 (isXD sub_InvalidCounts) (nm 0)) (consA (un1 (isXD sub_NotCounts) (nm 0)) (consA (un1 (isXD sub_InvalidTick) (nm 0)) nilA))))) (nmG 1))
  (seqS (asgS (bin2 addD (nm 1) (ofF (lstF (consA (un1 (isXD sub_InvalidNumber) (nm 0)) (consA (un1 (isXD sub_InvalidText) (nm 0)) (consA (un1 (isXD sub_InvalidStay) (nm 0)) nilA)))))) (nmG 1))
  (seqS (asgS (bin2 addD (nm 1) (ofF (lstF (consA (un1 (isXD sub_InvalidHistory) (nm 0)) (consA (un1 (isXD sub_InvalidName) (nm 0)) (consA (un1 (isXD sub_InvalidLength) (nm 0)) nilA)))))) (nmG 1))
  (seqS (asgS (bin2 addD (nm 1) (ofF (lstF (consA (un1 (isXD sub_InvalidDoors) (nm 0)) (consA (un1 (isXD sub_InvalidDeed) (nm 0)) (consA (un1 (isXD sub_InvalidCommand) (nm 0)) nilA)))))) (nmG 1))
  (seqS (asgS (bin2 addD (nm 1) (ofF (lstF (consA (un1 (isXD sub_Impossible) (nm 0)) (consA (un1 (isXD sub_NotKnown) (nm 0)) (consA (un1 (isXD sub_LimitBroken) (nm 0)) nilA)))))) (nmG 1))
  (seqS (asgS (bin2 addD (nm 1) (ofF (lstF (consA (un1 (isXD sub_NothingToUndo) (nm 0)) (consA (un1 (isXD sub_TooMany) (nm 0)) nilA))))) (nmG 1))
  (seqS (asgS (ofF (lstF (consA (un1 (isXD sub_CountError) (nm 0)) (consA (un1 (isXD sub_SearchError) (nm 0)) (consA (un1 (isXD sub_LimitError) (nm 0)) nilA))))) (nmG 2))
  (seqS (asgS (ofF (lstF (consA (un1 (isXD sub_ValueError) (nm 0)) (consA (un1 (isXD sub_LookupError) (nm 0)) (consA (un1 (isXD sub_ArithmeticError) (nm 0)) nilA))))) (nmG 3))
  (seqS (ifS (orT (tstB (bin2 neD (mthE "list" cntFD (nm 1) (consA (fun _ S => R.ok (.bl true, S)) nilA)) (fun _ S => R.ok (.int 1, S)))) (tstB (bin2 neD (nm 3) (nm 2)))) (retS (un1 negD (fun _ S => R.ok (.int 1, S)))) nxS)
  (seqS (asgS (mthE "list" idxFD (nm 1) (consA (fun _ S => R.ok (.bl true, S)) nilA)) (nmG 4))
  (retS (ifE (tstB (bin2 eqD (nm 2) (ofF (lstF (consA (bin2 ltD (nm 4) (fun _ S => R.ok (.int 12, S))) (consA (chn ltD ltD (fun _ S => R.ok (.int 11, S)) (nm 4) (fun _ S => R.ok (.int 16, S))) (consA (bin2 eqD (nm 4) (fun _ S => R.ok (.int 16, S))) nilA))))))) (nm 4) (un1 negD (fun _ S => R.ok (.int 1, S)))))))))))))))
abbrev F_error := runF 5 1 f_error
theorem ok_error {fA : Addr} {fd : FuncData} (T : Txt K mg base tb ca C xa) (F : Fun K "_law_error" "_law_error" s_error fA fd) : FnG Pg w K mg base 1 fA fd ["_law_e"] (spF K ca tb F_error) := by
  refine fn_d (N := ["_law_e", "_law_sorts", "_law_bases", "_law_own", "_law_at"]) (OO := []) F sc_error fun cdv A outer s H E hr => ?_
  have hu := hr.r.units
  have hgu := hr.g
  exact (pss_consD (psd_set 1 sc_error.nd notplN (pf_lst (pad_cons (pd_isXC "InvalidCounts" rfl (T.free _ (by decide +kernel)) T.mx_InvalidCounts T.is_InvalidCounts (pd_name 0).pb) (pad_cons (pd_isXC "NotCounts" rfl (T.free _ (by decide +kernel)) T.mx_NotCounts T.is_NotCounts (pd_name 0).pb) (pad_cons (pd_isXC "InvalidTick" rfl (T.free _ (by decide +kernel)) T.mx_InvalidTick T.is_InvalidTick (pd_name 0).pb) pad_nil)))).pd)
    (pss_consD (psd_set 1 sc_error.nd notplN (pd_add rfl (pd_name 1).pb (pf_lst (pad_cons (pd_isXC "InvalidNumber" rfl (T.free _ (by decide +kernel)) T.mx_InvalidNumber T.is_InvalidNumber (pd_name 0).pb) (pad_cons (pd_isXC "InvalidText" rfl (T.free _ (by decide +kernel)) T.mx_InvalidText T.is_InvalidText (pd_name 0).pb) (pad_cons (pd_isXC "InvalidStay" rfl (T.free _ (by decide +kernel)) T.mx_InvalidStay T.is_InvalidStay (pd_name 0).pb) pad_nil)))).pd.pb))
    (pss_consD (psd_set 1 sc_error.nd notplN (pd_add rfl (pd_name 1).pb (pf_lst (pad_cons (pd_isXC "InvalidHistory" rfl (T.free _ (by decide +kernel)) T.mx_InvalidHistory T.is_InvalidHistory (pd_name 0).pb) (pad_cons (pd_isXC "InvalidName" rfl (T.free _ (by decide +kernel)) T.mx_InvalidName T.is_InvalidName (pd_name 0).pb) (pad_cons (pd_isXC "InvalidLength" rfl (T.free _ (by decide +kernel)) T.mx_InvalidLength T.is_InvalidLength (pd_name 0).pb) pad_nil)))).pd.pb))
    (pss_consD (psd_set 1 sc_error.nd notplN (pd_add rfl (pd_name 1).pb (pf_lst (pad_cons (pd_isXC "InvalidDoors" rfl (T.free _ (by decide +kernel)) T.mx_InvalidDoors T.is_InvalidDoors (pd_name 0).pb) (pad_cons (pd_isXC "InvalidDeed" rfl (T.free _ (by decide +kernel)) T.mx_InvalidDeed T.is_InvalidDeed (pd_name 0).pb) (pad_cons (pd_isXC "InvalidCommand" rfl (T.free _ (by decide +kernel)) T.mx_InvalidCommand T.is_InvalidCommand (pd_name 0).pb) pad_nil)))).pd.pb))
    (pss_consD (psd_set 1 sc_error.nd notplN (pd_add rfl (pd_name 1).pb (pf_lst (pad_cons (pd_isXC "Impossible" rfl (T.free _ (by decide +kernel)) T.mx_Impossible T.is_Impossible (pd_name 0).pb) (pad_cons (pd_isXC "NotKnown" rfl (T.free _ (by decide +kernel)) T.mx_NotKnown T.is_NotKnown (pd_name 0).pb) (pad_cons (pd_isXC "LimitBroken" rfl (T.free _ (by decide +kernel)) T.mx_LimitBroken T.is_LimitBroken (pd_name 0).pb) pad_nil)))).pd.pb))
    (pss_consD (psd_set 1 sc_error.nd notplN (pd_add rfl (pd_name 1).pb (pf_lst (pad_cons (pd_isXC "NothingToUndo" rfl (T.free _ (by decide +kernel)) T.mx_NothingToUndo T.is_NothingToUndo (pd_name 0).pb) (pad_cons (pd_isXC "TooMany" rfl (T.free _ (by decide +kernel)) T.mx_TooMany T.is_TooMany (pd_name 0).pb) pad_nil))).pd.pb))
    (pss_consD (psd_set 2 sc_error.nd notplN (pf_lst (pad_cons (pd_isXC "CountError" rfl (T.free _ (by decide +kernel)) T.mx_CountError T.is_CountError (pd_name 0).pb) (pad_cons (pd_isXC "SearchError" rfl (T.free _ (by decide +kernel)) T.mx_SearchError T.is_SearchError (pd_name 0).pb) (pad_cons (pd_isXC "LimitError" rfl (T.free _ (by decide +kernel)) T.mx_LimitError T.is_LimitError (pd_name 0).pb) pad_nil)))).pd)
    (pss_consD (psd_set 3 sc_error.nd notplN (pf_lst (pad_cons (pd_isXB rfl (T.free _ (by decide +kernel)) (T.free _ (by decide +kernel)) (by decide +kernel) T.is_ValueError (pd_name 0).pb) (pad_cons (pd_isXB rfl (T.free _ (by decide +kernel)) (T.free _ (by decide +kernel)) (by decide +kernel) T.is_LookupError (pd_name 0).pb) (pad_cons (pd_isXB rfl (T.free _ (by decide +kernel)) (T.free _ (by decide +kernel)) (by decide +kernel) T.is_ArithmeticError (pd_name 0).pb) pad_nil)))).pd)
    (pss_consD (psd_if (PWd.pt (ptw_or (pt_ne rfl hu (pd_count rfl (pd_name 1).pb (pba_cons (pd_bl).pb pba_nil)).pb (pd_int).pb) (ptw_or1 (pt_ne rfl hu (pd_name 3).pb (pd_name 2).pb)))) (pss_oneD (psd_ret (pd_neg (pd_int).pb))) pss_nilD)
    (pss_consD (psd_set 4 sc_error.nd notplN (pd_indexF rfl (pd_name 1).pb (pba_cons (pd_bl).pb pba_nil)))
    (pss_oneD (psd_ret (pd_ifE (pt_eq rfl hu (pd_name 2).pb (pf_lst (pad_cons (pd_lt (pd_name 4).pb (pd_int).pb) (pad_cons (pd_chain op_lt op_lt op2_lt op2_lt (pd_int).pb (pd_name 4).pb (pd_int).pb) (pad_cons (pd_eq rfl hu (pd_name 4).pb (pd_int).pb) pad_nil)))).pd.pb) (pd_name 4) (pd_neg (pd_int).pb))))))))))))))
/-! _law_made -/
theorem sc_made : FnScope ["_law_thing", "_law_mate", "_law_found"] ["_law_thing", "_law_mate"] (defScope s_made) := ⟨rfl, rfl, rfl, by decide +kernel, rfl, by decide +kernel, by decide +kernel⟩
def f_made : FS := (seqS (asgS (ofF (lstF (consA (tupE (consA (mkxE "InvalidCounts" ["tick"] 1 0 [0] (consA (nm 0) nilA) nilA) (consA (mkxE "InvalidCounts" ["tick"] 0 1 [0] nilA (consA (nm 0) nilA)) nilA))) (consA (tupE (consA (mkxE "NotCounts" ["value"] 1 0 [0] (consA (nm 0) nilA) nilA) (consA (mkxE "NotCounts" ["value"] 0 1 [0] nilA (consA (nm 0) nilA)) nilA))) nilA)))) (nmG 2))
  (seqS (asgS (bin2 addD (nm 2) (ofF (lstF (consA (tupE (consA (mkxE "InvalidTick" ["tick"] 1 0 [0] (consA (nm 0) nilA) nilA) (consA (mkxE "InvalidTick" ["tick"] 0 1 [0] nilA (consA (nm 0) nilA)) nilA))) (consA (tupE (consA (mkxE "InvalidNumber" ["number"] 1 0 [0] (consA (nm 0) nilA) nilA) (consA (mkxE "InvalidNumber" ["number"] 0 1 [0] nilA (consA (nm 0) nilA)) nilA))) nilA))))) (nmG 2))
  (seqS (asgS (bin2 addD (nm 2) (ofF (lstF (consA (tupE (consA (mkxE "InvalidText" ["text"] 1 0 [0] (consA (nm 0) nilA) nilA) (consA (mkxE "InvalidText" ["text"] 0 1 [0] nilA (consA (nm 0) nilA)) nilA))) (consA (tupE (consA (mkxE "InvalidStay" ["index"] 1 0 [0] (consA (nm 0) nilA) nilA) (consA (mkxE "InvalidStay" ["index"] 0 1 [0] nilA (consA (nm 0) nilA)) nilA))) nilA))))) (nmG 2))
  (seqS (asgS (bin2 addD (nm 2) (ofF (lstF (consA (tupE (consA (mkxE "InvalidHistory" ["history"] 1 0 [0] (consA (nm 0) nilA) nilA) (consA (mkxE "InvalidHistory" ["history"] 0 1 [0] nilA (consA (nm 0) nilA)) nilA))) nilA)))) (nmG 2))
  (seqS (asgS (bin2 addD (nm 2) (ofF (lstF (consA (tupE (consA (mkxE "InvalidName" ["name"] 1 0 [0] (consA (nm 0) nilA) nilA) (consA (mkxE "InvalidName" ["name"] 0 1 [0] nilA (consA (nm 0) nilA)) nilA))) (consA (tupE (consA (mkxE "InvalidLength" ["length"] 1 0 [0] (consA (nm 0) nilA) nilA) (consA (mkxE "InvalidLength" ["length"] 0 1 [0] nilA (consA (nm 0) nilA)) nilA))) nilA))))) (nmG 2))
  (seqS (asgS (bin2 addD (nm 2) (ofF (lstF (consA (tupE (consA (mkxE "InvalidDoors" ["index"] 1 0 [0] (consA (nm 0) nilA) nilA) (consA (mkxE "InvalidDoors" ["index"] 0 1 [0] nilA (consA (nm 0) nilA)) nilA))) (consA (tupE (consA (mkxE "InvalidDeed" ["index"] 1 0 [0] (consA (nm 0) nilA) nilA) (consA (mkxE "InvalidDeed" ["index"] 0 1 [0] nilA (consA (nm 0) nilA)) nilA))) nilA))))) (nmG 2))
  (seqS (asgS (bin2 addD (nm 2) (ofF (lstF (consA (tupE (consA (mkxE "InvalidCommand" ["command"] 1 0 [0] (consA (nm 0) nilA) nilA) (consA (mkxE "InvalidCommand" ["command"] 0 1 [0] nilA (consA (nm 0) nilA)) nilA))) nilA)))) (nmG 2))
  (seqS (asgS (bin2 addD (nm 2) (ofF (lstF (consA (tupE (consA (mkxE "Impossible" ["word", "tick"] 2 0 [0, 1] (consA (nm 0) (consA (nm 1) nilA)) nilA) (consA (mkxE "Impossible" ["word", "tick"] 0 2 [1, 0] nilA (consA (nm 1) (consA (nm 0) nilA))) nilA))) nilA)))) (nmG 2))
  (seqS (asgS (bin2 addD (nm 2) (ofF (lstF (consA (tupE (consA (mkxE "NotKnown" ["stay"] 1 0 [0] (consA (nm 0) nilA) nilA) (consA (mkxE "NotKnown" ["stay"] 0 1 [0] nilA (consA (nm 0) nilA)) nilA))) (consA (tupE (consA (mkx0E "LimitBroken") (consA (mkx0E "LimitBroken") nilA))) nilA))))) (nmG 2))
  (retS (bin2 addD (nm 2) (ofF (lstF (consA (tupE (consA (mkx0E "NothingToUndo") (consA (mkx0E "NothingToUndo") nilA))) (consA (tupE (consA (mkxE "TooMany" ["limit"] 1 0 [0] (consA (nm 0) nilA) nilA) (consA (mkxE "TooMany" ["limit"] 0 1 [0] nilA (consA (nm 0) nilA)) nilA))) nilA)))))))))))))))
abbrev F_made := runF 3 2 f_made
theorem ok_made {fA : Addr} {fd : FuncData} (T : Txt K mg base tb ca C xa) (F : Fun K "_law_made" "_law_made" s_made fA fd) : FnG Pg w K mg base 3 fA fd ["_law_thing", "_law_mate"] (spF K ca tb F_made) := by
  obtain ⟨_, _, c_eInvalidCounts⟩ := T.c_eInvalidCounts
  obtain ⟨_, _, c_eNotCounts⟩ := T.c_eNotCounts
  obtain ⟨_, _, c_eInvalidTick⟩ := T.c_eInvalidTick
  obtain ⟨_, _, c_eInvalidNumber⟩ := T.c_eInvalidNumber
  obtain ⟨_, _, c_eInvalidText⟩ := T.c_eInvalidText
  obtain ⟨_, _, c_eInvalidStay⟩ := T.c_eInvalidStay
  obtain ⟨_, _, c_eInvalidHistory⟩ := T.c_eInvalidHistory
  obtain ⟨_, _, c_eInvalidName⟩ := T.c_eInvalidName
  obtain ⟨_, _, c_eInvalidLength⟩ := T.c_eInvalidLength
  obtain ⟨_, _, c_eInvalidDoors⟩ := T.c_eInvalidDoors
  obtain ⟨_, _, c_eInvalidDeed⟩ := T.c_eInvalidDeed
  obtain ⟨_, _, c_eInvalidCommand⟩ := T.c_eInvalidCommand
  obtain ⟨_, _, c_eImpossible⟩ := T.c_eImpossible
  obtain ⟨_, _, c_eNotKnown⟩ := T.c_eNotKnown
  obtain ⟨_, _, c_eTooMany⟩ := T.c_eTooMany
  refine fn_d (N := ["_law_thing", "_law_mate", "_law_found"]) (OO := []) F sc_made fun cdv A outer s H E hr => ?_
  have hu := hr.r.units
  have hgu := hr.g
  exact (pss_consD (psd_set 2 sc_made.nd notplN (pf_lst (pad_cons (pd_tup (pad_cons (pd_mkx (n := 1) (ix := [0]) T.cx_InvalidCounts T.xb_InvalidCounts c_eInvalidCounts.iC c_eInvalidCounts.fn (ok_eInvalidCounts T c_eInvalidCounts.F) (hr.mono (by decide)) c_eInvalidCounts.kx T.mx_InvalidCounts (pad_cons (pd_name 0) pad_nil)) (pad_cons (pd_mkxK (ks := ["tick"]) (ix := [0]) T.cx_InvalidCounts T.xb_InvalidCounts c_eInvalidCounts.iC c_eInvalidCounts.fn (ok_eInvalidCounts T c_eInvalidCounts.F) (hr.mono (by decide)) c_eInvalidCounts.kb_tick T.mx_InvalidCounts (pkd_cons (pd_name 0) pkd_nil)) pad_nil))) (pad_cons (pd_tup (pad_cons (pd_mkx (n := 1) (ix := [0]) T.cx_NotCounts T.xb_NotCounts c_eNotCounts.iC c_eNotCounts.fn (ok_eNotCounts T c_eNotCounts.F) (hr.mono (by decide)) c_eNotCounts.kx T.mx_NotCounts (pad_cons (pd_name 0) pad_nil)) (pad_cons (pd_mkxK (ks := ["value"]) (ix := [0]) T.cx_NotCounts T.xb_NotCounts c_eNotCounts.iC c_eNotCounts.fn (ok_eNotCounts T c_eNotCounts.F) (hr.mono (by decide)) c_eNotCounts.kb_value T.mx_NotCounts (pkd_cons (pd_name 0) pkd_nil)) pad_nil))) pad_nil))).pd)
    (pss_consD (psd_set 2 sc_made.nd notplN (pd_add rfl (pd_name 2).pb (pf_lst (pad_cons (pd_tup (pad_cons (pd_mkx (n := 1) (ix := [0]) T.cx_InvalidTick T.xb_InvalidTick c_eInvalidTick.iC c_eInvalidTick.fn (ok_eInvalidTick T c_eInvalidTick.F) (hr.mono (by decide)) c_eInvalidTick.kx T.mx_InvalidTick (pad_cons (pd_name 0) pad_nil)) (pad_cons (pd_mkxK (ks := ["tick"]) (ix := [0]) T.cx_InvalidTick T.xb_InvalidTick c_eInvalidTick.iC c_eInvalidTick.fn (ok_eInvalidTick T c_eInvalidTick.F) (hr.mono (by decide)) c_eInvalidTick.kb_tick T.mx_InvalidTick (pkd_cons (pd_name 0) pkd_nil)) pad_nil))) (pad_cons (pd_tup (pad_cons (pd_mkx (n := 1) (ix := [0]) T.cx_InvalidNumber T.xb_InvalidNumber c_eInvalidNumber.iC c_eInvalidNumber.fn (ok_eInvalidNumber T c_eInvalidNumber.F) (hr.mono (by decide)) c_eInvalidNumber.kx T.mx_InvalidNumber (pad_cons (pd_name 0) pad_nil)) (pad_cons (pd_mkxK (ks := ["number"]) (ix := [0]) T.cx_InvalidNumber T.xb_InvalidNumber c_eInvalidNumber.iC c_eInvalidNumber.fn (ok_eInvalidNumber T c_eInvalidNumber.F) (hr.mono (by decide)) c_eInvalidNumber.kb_number T.mx_InvalidNumber (pkd_cons (pd_name 0) pkd_nil)) pad_nil))) pad_nil))).pd.pb))
    (pss_consD (psd_set 2 sc_made.nd notplN (pd_add rfl (pd_name 2).pb (pf_lst (pad_cons (pd_tup (pad_cons (pd_mkx (n := 1) (ix := [0]) T.cx_InvalidText T.xb_InvalidText c_eInvalidText.iC c_eInvalidText.fn (ok_eInvalidText T c_eInvalidText.F) (hr.mono (by decide)) c_eInvalidText.kx T.mx_InvalidText (pad_cons (pd_name 0) pad_nil)) (pad_cons (pd_mkxK (ks := ["text"]) (ix := [0]) T.cx_InvalidText T.xb_InvalidText c_eInvalidText.iC c_eInvalidText.fn (ok_eInvalidText T c_eInvalidText.F) (hr.mono (by decide)) c_eInvalidText.kb_text T.mx_InvalidText (pkd_cons (pd_name 0) pkd_nil)) pad_nil))) (pad_cons (pd_tup (pad_cons (pd_mkx (n := 1) (ix := [0]) T.cx_InvalidStay T.xb_InvalidStay c_eInvalidStay.iC c_eInvalidStay.fn (ok_eInvalidStay T c_eInvalidStay.F) (hr.mono (by decide)) c_eInvalidStay.kx T.mx_InvalidStay (pad_cons (pd_name 0) pad_nil)) (pad_cons (pd_mkxK (ks := ["index"]) (ix := [0]) T.cx_InvalidStay T.xb_InvalidStay c_eInvalidStay.iC c_eInvalidStay.fn (ok_eInvalidStay T c_eInvalidStay.F) (hr.mono (by decide)) c_eInvalidStay.kb_index T.mx_InvalidStay (pkd_cons (pd_name 0) pkd_nil)) pad_nil))) pad_nil))).pd.pb))
    (pss_consD (psd_set 2 sc_made.nd notplN (pd_add rfl (pd_name 2).pb (pf_lst (pad_cons (pd_tup (pad_cons (pd_mkx (n := 1) (ix := [0]) T.cx_InvalidHistory T.xb_InvalidHistory c_eInvalidHistory.iC c_eInvalidHistory.fn (ok_eInvalidHistory T c_eInvalidHistory.F) (hr.mono (by decide)) c_eInvalidHistory.kx T.mx_InvalidHistory (pad_cons (pd_name 0) pad_nil)) (pad_cons (pd_mkxK (ks := ["history"]) (ix := [0]) T.cx_InvalidHistory T.xb_InvalidHistory c_eInvalidHistory.iC c_eInvalidHistory.fn (ok_eInvalidHistory T c_eInvalidHistory.F) (hr.mono (by decide)) c_eInvalidHistory.kb_history T.mx_InvalidHistory (pkd_cons (pd_name 0) pkd_nil)) pad_nil))) pad_nil)).pd.pb))
    (pss_consD (psd_set 2 sc_made.nd notplN (pd_add rfl (pd_name 2).pb (pf_lst (pad_cons (pd_tup (pad_cons (pd_mkx (n := 1) (ix := [0]) T.cx_InvalidName T.xb_InvalidName c_eInvalidName.iC c_eInvalidName.fn (ok_eInvalidName T c_eInvalidName.F) (hr.mono (by decide)) c_eInvalidName.kx T.mx_InvalidName (pad_cons (pd_name 0) pad_nil)) (pad_cons (pd_mkxK (ks := ["name"]) (ix := [0]) T.cx_InvalidName T.xb_InvalidName c_eInvalidName.iC c_eInvalidName.fn (ok_eInvalidName T c_eInvalidName.F) (hr.mono (by decide)) c_eInvalidName.kb_name T.mx_InvalidName (pkd_cons (pd_name 0) pkd_nil)) pad_nil))) (pad_cons (pd_tup (pad_cons (pd_mkx (n := 1) (ix := [0]) T.cx_InvalidLength T.xb_InvalidLength c_eInvalidLength.iC c_eInvalidLength.fn (ok_eInvalidLength T c_eInvalidLength.F) (hr.mono (by decide)) c_eInvalidLength.kx T.mx_InvalidLength (pad_cons (pd_name 0) pad_nil)) (pad_cons (pd_mkxK (ks := ["length"]) (ix := [0]) T.cx_InvalidLength T.xb_InvalidLength c_eInvalidLength.iC c_eInvalidLength.fn (ok_eInvalidLength T c_eInvalidLength.F) (hr.mono (by decide)) c_eInvalidLength.kb_length T.mx_InvalidLength (pkd_cons (pd_name 0) pkd_nil)) pad_nil))) pad_nil))).pd.pb))
    (pss_consD (psd_set 2 sc_made.nd notplN (pd_add rfl (pd_name 2).pb (pf_lst (pad_cons (pd_tup (pad_cons (pd_mkx (n := 1) (ix := [0]) T.cx_InvalidDoors T.xb_InvalidDoors c_eInvalidDoors.iC c_eInvalidDoors.fn (ok_eInvalidDoors T c_eInvalidDoors.F) (hr.mono (by decide)) c_eInvalidDoors.kx T.mx_InvalidDoors (pad_cons (pd_name 0) pad_nil)) (pad_cons (pd_mkxK (ks := ["index"]) (ix := [0]) T.cx_InvalidDoors T.xb_InvalidDoors c_eInvalidDoors.iC c_eInvalidDoors.fn (ok_eInvalidDoors T c_eInvalidDoors.F) (hr.mono (by decide)) c_eInvalidDoors.kb_index T.mx_InvalidDoors (pkd_cons (pd_name 0) pkd_nil)) pad_nil))) (pad_cons (pd_tup (pad_cons (pd_mkx (n := 1) (ix := [0]) T.cx_InvalidDeed T.xb_InvalidDeed c_eInvalidDeed.iC c_eInvalidDeed.fn (ok_eInvalidDeed T c_eInvalidDeed.F) (hr.mono (by decide)) c_eInvalidDeed.kx T.mx_InvalidDeed (pad_cons (pd_name 0) pad_nil)) (pad_cons (pd_mkxK (ks := ["index"]) (ix := [0]) T.cx_InvalidDeed T.xb_InvalidDeed c_eInvalidDeed.iC c_eInvalidDeed.fn (ok_eInvalidDeed T c_eInvalidDeed.F) (hr.mono (by decide)) c_eInvalidDeed.kb_index T.mx_InvalidDeed (pkd_cons (pd_name 0) pkd_nil)) pad_nil))) pad_nil))).pd.pb))
    (pss_consD (psd_set 2 sc_made.nd notplN (pd_add rfl (pd_name 2).pb (pf_lst (pad_cons (pd_tup (pad_cons (pd_mkx (n := 1) (ix := [0]) T.cx_InvalidCommand T.xb_InvalidCommand c_eInvalidCommand.iC c_eInvalidCommand.fn (ok_eInvalidCommand T c_eInvalidCommand.F) (hr.mono (by decide)) c_eInvalidCommand.kx T.mx_InvalidCommand (pad_cons (pd_name 0) pad_nil)) (pad_cons (pd_mkxK (ks := ["command"]) (ix := [0]) T.cx_InvalidCommand T.xb_InvalidCommand c_eInvalidCommand.iC c_eInvalidCommand.fn (ok_eInvalidCommand T c_eInvalidCommand.F) (hr.mono (by decide)) c_eInvalidCommand.kb_command T.mx_InvalidCommand (pkd_cons (pd_name 0) pkd_nil)) pad_nil))) pad_nil)).pd.pb))
    (pss_consD (psd_set 2 sc_made.nd notplN (pd_add rfl (pd_name 2).pb (pf_lst (pad_cons (pd_tup (pad_cons (pd_mkx (n := 2) (ix := [0, 1]) T.cx_Impossible T.xb_Impossible c_eImpossible.iC c_eImpossible.fn (ok_eImpossible T c_eImpossible.F) (hr.mono (by decide)) c_eImpossible.kx T.mx_Impossible (pad_cons (pd_name 0) (pad_cons (pd_name 1) pad_nil))) (pad_cons (pd_mkxK (ks := ["tick", "word"]) (ix := [1, 0]) T.cx_Impossible T.xb_Impossible c_eImpossible.iC c_eImpossible.fn (ok_eImpossible T c_eImpossible.F) (hr.mono (by decide)) c_eImpossible.kb_tick_word T.mx_Impossible (pkd_cons (pd_name 1) (pkd_cons (pd_name 0) pkd_nil))) pad_nil))) pad_nil)).pd.pb))
    (pss_consD (psd_set 2 sc_made.nd notplN (pd_add rfl (pd_name 2).pb (pf_lst (pad_cons (pd_tup (pad_cons (pd_mkx (n := 1) (ix := [0]) T.cx_NotKnown T.xb_NotKnown c_eNotKnown.iC c_eNotKnown.fn (ok_eNotKnown T c_eNotKnown.F) (hr.mono (by decide)) c_eNotKnown.kx T.mx_NotKnown (pad_cons (pd_name 0) pad_nil)) (pad_cons (pd_mkxK (ks := ["stay"]) (ix := [0]) T.cx_NotKnown T.xb_NotKnown c_eNotKnown.iC c_eNotKnown.fn (ok_eNotKnown T c_eNotKnown.F) (hr.mono (by decide)) c_eNotKnown.kb_stay T.mx_NotKnown (pkd_cons (pd_name 0) pkd_nil)) pad_nil))) (pad_cons (pd_tup (pad_cons (pd_mkx0 T.cx_LimitBroken T.xc0_LimitBroken T.mx_LimitBroken) (pad_cons (pd_mkx0 T.cx_LimitBroken T.xc0_LimitBroken T.mx_LimitBroken) pad_nil))) pad_nil))).pd.pb))
    (pss_oneD (psd_ret (pd_add rfl (pd_name 2).pb (pf_lst (pad_cons (pd_tup (pad_cons (pd_mkx0 T.cx_NothingToUndo T.xc0_NothingToUndo T.mx_NothingToUndo) (pad_cons (pd_mkx0 T.cx_NothingToUndo T.xc0_NothingToUndo T.mx_NothingToUndo) pad_nil))) (pad_cons (pd_tup (pad_cons (pd_mkx (n := 1) (ix := [0]) T.cx_TooMany T.xb_TooMany c_eTooMany.iC c_eTooMany.fn (ok_eTooMany T c_eTooMany.F) (hr.mono (by decide)) c_eTooMany.kx T.mx_TooMany (pad_cons (pd_name 0) pad_nil)) (pad_cons (pd_mkxK (ks := ["limit"]) (ix := [0]) T.cx_TooMany T.xb_TooMany c_eTooMany.iC c_eTooMany.fn (ok_eTooMany T c_eTooMany.F) (hr.mono (by decide)) c_eTooMany.kb_limit T.mx_TooMany (pkd_cons (pd_name 0) pkd_nil)) pad_nil))) pad_nil))).pd.pb))))))))))))
/-! _law_fields -/
theorem sc_fields : FnScope ["_law_e", "_law_at"] ["_law_e", "_law_at"] (defScope s_fields) := ⟨rfl, rfl, rfl, by decide +kernel, rfl, by decide +kernel, by decide +kernel⟩
def f_fields : FS := (seqS (ifS (tstB (bin2 (inF false) (nm 1) (ofF (lstF (consA (fun _ S => R.ok (.int 5, S)) (consA (fun _ S => R.ok (.int 9, S)) (consA (fun _ S => R.ok (.int 10, S)) nilA))))))) (retS (ofF (lstF (consA (un1 (xfD xc_index "index") (nm 0)) nilA)))) nxS)
  (seqS (ifS (tstB (bin2 (inF false) (nm 1) (ofF (lstF (consA (fun _ S => R.ok (.int 0, S)) (consA (fun _ S => R.ok (.int 2, S)) (consA (fun _ S => R.ok (.int 12, S)) nilA))))))) (retS (ifE (tstB (bin2 eqD (nm 1) (fun _ S => R.ok (.int 12, S)))) (ofF (lstF (consA (un1 (xfD xc_word "word") (nm 0)) (consA (un1 (xfD xc_tick "tick") (nm 0)) nilA)))) (ofF (lstF (consA (un1 (xfD xc_tick "tick") (nm 0)) nilA))))) nxS)
  (seqS (ifS (tstB (bin2 (inF false) (nm 1) (ofF (lstF (consA (fun _ S => R.ok (.int 1, S)) (consA (fun _ S => R.ok (.int 3, S)) (consA (fun _ S => R.ok (.int 4, S)) nilA))))))) (retS (ofF (lstF (consA (ifE (tstB (bin2 eqD (nm 1) (fun _ S => R.ok (.int 1, S)))) (un1 (xfD xc_value "value") (nm 0)) (ifE (tstB (bin2 eqD (nm 1) (fun _ S => R.ok (.int 3, S)))) (un1 (xfD xc_number "number") (nm 0)) (un1 (xfD xc_text "text") (nm 0)))) nilA)))) nxS)
  (seqS (ifS (tstB (bin2 (inF false) (nm 1) (ofF (lstF (consA (fun _ S => R.ok (.int 6, S)) (consA (fun _ S => R.ok (.int 7, S)) (consA (fun _ S => R.ok (.int 8, S)) nilA))))))) (retS (ofF (lstF (consA (ifE (tstB (bin2 eqD (nm 1) (fun _ S => R.ok (.int 6, S)))) (un1 (xfD xc_history "history") (nm 0)) (ifE (tstB (bin2 eqD (nm 1) (fun _ S => R.ok (.int 7, S)))) (un1 (xfD xc_name "name") (nm 0)) (un1 (xfD xc_length "length") (nm 0)))) nilA)))) nxS)
  (seqS (ifS (tstB (bin2 (inF false) (nm 1) (ofF (lstF (consA (fun _ S => R.ok (.int 11, S)) (consA (fun _ S => R.ok (.int 13, S)) (consA (fun _ S => R.ok (.int 16, S)) nilA))))))) (retS (ofF (lstF (consA (ifE (tstB (bin2 eqD (nm 1) (fun _ S => R.ok (.int 11, S)))) (un1 (xfD xc_command "command") (nm 0)) (ifE (tstB (bin2 eqD (nm 1) (fun _ S => R.ok (.int 13, S)))) (un1 (xfD xc_stay "stay") (nm 0)) (un1 (xfD xc_limit "limit") (nm 0)))) nilA)))) nxS)
  (retS (ofF (lstF nilA))))))))
abbrev F_fields := runF 2 2 f_fields
theorem ok_fields {fA : Addr} {fd : FuncData} (T : Txt K mg base tb ca C xa) (F : Fun K "_law_fields" "_law_fields" s_fields fA fd) : FnG Pg w K mg base 1 fA fd ["_law_e", "_law_at"] (spF K ca tb F_fields) := by
  refine fn_d (N := ["_law_e", "_law_at"]) (OO := []) F sc_fields fun cdv A outer s H E hr => ?_
  have hu := hr.r.units
  have hgu := hr.g
  exact (pss_consD (psd_if (pt_in rfl (pd_name 1).pb (pf_lst (pad_cons (pd_int) (pad_cons (pd_int) (pad_cons (pd_int) pad_nil)))).pd.pb) (pss_oneD (psd_ret (pf_lst (pad_cons (pd_xf rfl T.xf_index (pd_name 0)) pad_nil)).pd)) pss_nilD)
    (pss_consD (psd_if (pt_in rfl (pd_name 1).pb (pf_lst (pad_cons (pd_int) (pad_cons (pd_int) (pad_cons (pd_int) pad_nil)))).pd.pb) (pss_oneD (psd_ret (pd_ifE (pt_eq rfl hu (pd_name 1).pb (pd_int).pb) (pf_lst (pad_cons (pd_xf rfl T.xf_word (pd_name 0)) (pad_cons (pd_xf rfl T.xf_tick (pd_name 0)) pad_nil))).pd (pf_lst (pad_cons (pd_xf rfl T.xf_tick (pd_name 0)) pad_nil)).pd))) pss_nilD)
    (pss_consD (psd_if (pt_in rfl (pd_name 1).pb (pf_lst (pad_cons (pd_int) (pad_cons (pd_int) (pad_cons (pd_int) pad_nil)))).pd.pb) (pss_oneD (psd_ret (pf_lst (pad_cons (pd_ifE (pt_eq rfl hu (pd_name 1).pb (pd_int).pb) (pd_xf rfl T.xf_value (pd_name 0)) (pd_ifE (pt_eq rfl hu (pd_name 1).pb (pd_int).pb) (pd_xf rfl T.xf_number (pd_name 0)) (pd_xf rfl T.xf_text (pd_name 0)))) pad_nil)).pd)) pss_nilD)
    (pss_consD (psd_if (pt_in rfl (pd_name 1).pb (pf_lst (pad_cons (pd_int) (pad_cons (pd_int) (pad_cons (pd_int) pad_nil)))).pd.pb) (pss_oneD (psd_ret (pf_lst (pad_cons (pd_ifE (pt_eq rfl hu (pd_name 1).pb (pd_int).pb) (pd_xf rfl T.xf_history (pd_name 0)) (pd_ifE (pt_eq rfl hu (pd_name 1).pb (pd_int).pb) (pd_xf rfl T.xf_name (pd_name 0)) (pd_xf rfl T.xf_length (pd_name 0)))) pad_nil)).pd)) pss_nilD)
    (pss_consD (psd_if (pt_in rfl (pd_name 1).pb (pf_lst (pad_cons (pd_int) (pad_cons (pd_int) (pad_cons (pd_int) pad_nil)))).pd.pb) (pss_oneD (psd_ret (pf_lst (pad_cons (pd_ifE (pt_eq rfl hu (pd_name 1).pb (pd_int).pb) (pd_xf rfl T.xf_command (pd_name 0)) (pd_ifE (pt_eq rfl hu (pd_name 1).pb (pd_int).pb) (pd_xf rfl T.xf_stay (pd_name 0)) (pd_xf rfl T.xf_limit (pd_name 0)))) pad_nil)).pd)) pss_nilD)
    (pss_oneD (psd_ret (pf_lst pad_nil).pd)))))))
/-! _law_right -/
theorem sc_right : FnScope ["_law_pool_here", "_law_some", "_law_turn", "_law_thing", "_law_mate", "_law_pairs", "_law_at", "_law_due", "_law_e"] ["_law_pool_here"] (defScope s_right) := ⟨rfl, rfl, rfl, by decide +kernel, rfl, by decide +kernel, by decide +kernel⟩
def f_right : FS := (seqS (asgS (ofF (lstF (consA (fun _ S => R.ok (.non, S)) (consA (fun _ S => R.ok (.int 0, S)) (consA (un1 negD (fun _ S => R.ok (.int 1, S))) (consA (fun _ S => R.ok (.bl true, S)) (consA (fun _ S => R.ok (.bl false, S)) (consA (fun _ S => R.ok (.str "", S)) (consA (fun _ S => R.ok (.str "late", S)) (consA (tupE nilA) (consA (ofF (lstF nilA)) (consA (fun _ S => R.ok (.dic [] [], S)) (consA (tupE (consA (fun _ S => R.ok (.int 1, S)) (consA (fun _ S => R.ok (.str "a", S)) nilA))) (consA (bin2 powD (fun _ S => R.ok (.int 10, S)) (fun _ S => R.ok (.int 30, S))) (consA (ofF (lstF (consA (fun _ S => R.ok (.non, S)) nilA))) (consA (fun _ S => R.ok (.str "1/0", S)) (consA (tupE (consA (tupE nilA) nilA)) (consA (fun _ S => R.ok (.int 7, S)) nilA)))))))))))))))))) (nmG 1))
  (seqS (forS (rngI rng1D (consA (fun _ S => R.ok (.int 4, S)) nilA)) (nmG 2) (seqS (parS 3 4 (consA (bin2 idxD (nm 1) (callP F_draw (consA (fun _ S => R.ok (.int 16, S)) nilA))) (consA (bin2 idxD (nm 1) (callP F_draw (consA (fun _ S => R.ok (.int 16, S)) nilA))) nilA)))
  (seqS (asgS (callD F_made [] (consA (nm 3) (consA (nm 4) nilA))) (nmG 5))
  (seqS (forS (rngI rng1D (consA (callE lenD (consA (nm 5) nilA)) nilA)) (nmG 6) (seqS (asgS (ifE (tstB (bin2 (inF false) (nm 6) (ofF (lstF (consA (fun _ S => R.ok (.int 14, S)) (consA (fun _ S => R.ok (.int 15, S)) nilA)))))) (ofF (lstF nilA)) (ifE (tstB (bin2 eqD (nm 6) (fun _ S => R.ok (.int 12, S)))) (ofF (lstF (consA (nm 3) (consA (nm 4) nilA)))) (ofF (lstF (consA (nm 3) nilA))))) (nmG 7))
  (forS (seqI itemsT (bin2 idxD (nm 5) (nm 6))) (nmG 8) (ifS (orT (tstB (bin2 neD (callD F_error [] (consA (nm 8) nilA)) (nm 6))) (tstB (bin2 neD (callE reprXL (consA (callD F_fields [] (consA (nm 8) (consA (nm 6) nilA))) nilA)) (callE reprXL (consA (nm 7) nilA))))) (retS (fun _ S => R.ok (.bl false, S))) nxS))))
  (ifS (tstB (bin2 neD (callE lenD (consA (nm 5) nilA)) (fun _ S => R.ok (.int 17, S)))) (retS (fun _ S => R.ok (.bl false, S))) nxS)))))
  (retS (fun _ S => R.ok (.bl true, S)))))
abbrev F_right := runP 9 1 f_right
theorem ok_right {fA : Addr} {fd : FuncData} (T : Txt K mg base tb ca C xa) (F : Fun K "_law_right" "_law_right" s_right fA fd) : FnG Pg w K mg base 4 fA fd ["_law_pool_here"] (spP K ca tb F_right) := by
  obtain ⟨_, _, c_draw⟩ := T.c_draw
  obtain ⟨_, _, c_made⟩ := T.c_made
  obtain ⟨_, _, c_error⟩ := T.c_error
  obtain ⟨_, _, c_fields⟩ := T.c_fields
  refine fn_p (N := ["_law_pool_here", "_law_some", "_law_turn", "_law_thing", "_law_mate", "_law_pairs", "_law_at", "_law_due", "_law_e"]) (OO := []) F sc_right (by decide) fun cdv A outer s H E p hr => ?_
  have hu := hr.r.units
  have hgu := hr.g
  exact (pss_consD (psd_set 1 sc_right.nd (notpl0 (by decide)) (pf_lst (pad_cons (pd_non) (pad_cons (pd_int) (pad_cons (pd_neg (pd_int).pb) (pad_cons (pd_bl) (pad_cons (pd_bl) (pad_cons (pd_str) (pad_cons (pd_str) (pad_cons (pd_tup pad_nil) (pad_cons (pf_lst pad_nil).pd (pad_cons (pd_dic) (pad_cons (pd_tup (pad_cons (pd_int) (pad_cons (pd_str) pad_nil))) (pad_cons (pd_pow (pd_int).pb (pd_int).pb) (pad_cons (pf_lst (pad_cons (pd_non) pad_nil)).pd (pad_cons (pd_str) (pad_cons (pd_tup (pad_cons (pd_tup pad_nil) pad_nil)) (pad_cons (pd_int) pad_nil))))))))))))))))).pd)
    (pss_consD (psd_for PassesOwn.never rfl (pid_range1 (T.free _ (by decide +kernel)) (pad_cons (pd_int) pad_nil)) (pgd_name 2 sc_right.nd (notpl0 (by decide))) (pss_consD (psd_par 3 4 rfl sc_right.nd (notpl0 (by decide)) (notpl0 (by decide)) (pad_cons (pd_idx rfl (pd_name 1).pb (pd_callP 0 rfl ⟨_, rfl⟩ (ok_draw T c_draw.F) (hr.mono (by decide)) c_draw.m c_draw.k c_draw.b (pad_cons (pd_int) pad_nil))) (pad_cons (pd_idx rfl (pd_name 1).pb (pd_callP 0 rfl ⟨_, rfl⟩ (ok_draw T c_draw.F) (hr.mono (by decide)) c_draw.m c_draw.k c_draw.b (pad_cons (pd_int) pad_nil))) pad_nil)))
    (pss_consD (psd_set 5 sc_right.nd (notpl0 (by decide)) (pd_call (ok_made T c_made.F) (hr.mono (by decide)) c_made.m c_made.k c_made.b .nil (fun _ => .nil) (pad_cons (pd_name 3) (pad_cons (pd_name 4) pad_nil))))
    (pss_consD (psd_for PassesOwn.never rfl (pid_range1 (T.free _ (by decide +kernel)) (pad_cons (pd_len rfl (T.free _ (by decide +kernel)) (pba_cons (pd_name 5).pb pba_nil)) pad_nil)) (pgd_name 6 sc_right.nd (notpl0 (by decide))) (pss_consD (psd_set 7 sc_right.nd (notpl0 (by decide)) (pd_ifE (pt_in rfl (pd_name 6).pb (pf_lst (pad_cons (pd_int) (pad_cons (pd_int) pad_nil))).pd.pb) (pf_lst pad_nil).pd (pd_ifE (pt_eq rfl hu (pd_name 6).pb (pd_int).pb) (pf_lst (pad_cons (pd_name 3) (pad_cons (pd_name 4) pad_nil))).pd (pf_lst (pad_cons (pd_name 3) pad_nil)).pd)))
    (pss_oneD (psd_for PassesOwn.never rfl (pid_tup rfl (pd_idx rfl (pd_name 5).pb (pd_name 6))) (pgd_name 8 sc_right.nd (notpl0 (by decide))) (pss_oneD (psd_if (PWd.pt (ptw_or (pt_ne rfl hu (pd_call (ok_error T c_error.F) (hr.mono (by decide)) c_error.m c_error.k c_error.b .nil (fun _ => .nil) (pad_cons (pd_name 8) pad_nil)).pb (pd_name 6).pb) (ptw_or1 (pt_ne rfl hu (pd_reprX rfl hu hgu (T.free _ (by decide +kernel)) (pba_cons (pd_call (ok_fields T c_fields.F) (hr.mono (by decide)) c_fields.m c_fields.k c_fields.b .nil (fun _ => .nil) (pad_cons (pd_name 8) (pad_cons (pd_name 6) pad_nil))).pb pba_nil)).pb (pd_reprX rfl hu hgu (T.free _ (by decide +kernel)) (pba_cons (pd_name 7).pb pba_nil)).pb)))) (pss_oneD (psd_ret (pd_bl))) pss_nilD))))))
    (pss_oneD (psd_if (pt_ne rfl hu (pd_len rfl (T.free _ (by decide +kernel)) (pba_cons (pd_name 5).pb pba_nil)).pb (pd_int).pb) (pss_oneD (psd_ret (pd_bl))) pss_nilD))))))
    (pss_oneD (psd_ret (pd_bl)))))
/-! law -/
theorem sc_law : FnScope ["_law_cells", "_law_log", "_law_k"] ["_law_cells"] (defScope s_law) := ⟨rfl, rfl, rfl, by decide +kernel, rfl, by decide +kernel, by decide +kernel⟩
def f_law : FS := (seqS (asgS (mkI "Counts" nm_ini F_ini 2 0 [0, 1] (consA (tupE (consA (fun _ S => R.ok (.int 1, S)) nilA)) (consA (tupE (consA (fun _ S => R.ok (.int 0, S)) nilA)) nilA)) nilA) (nmG 1))
  (seqS (ifS (tstB (bin2 neD (callE reprXL (consA (ofF (lstF (consA (fun _ S => R.ok (.int 60, S)) (consA (fun _ S => R.ok (.int 999, S)) (consA (un1 (iconD "Counts" "MAX_TICKS" (.int 60)) (nm 1)) (consA (un1 (iconD "Counts" "MAX_PEOPLE" (.int 999)) (nm 1)) nilA)))))) nilA)) (callE reprXL (consA (ofF (lstF (consA (fun _ S => R.ok (.int 60, S)) (consA (fun _ S => R.ok (.int 999, S)) (consA (fun _ S => R.ok (.int 60, S)) (consA (fun _ S => R.ok (.int 999, S)) nilA)))))) nilA)))) (retS (fun _ S => R.ok (.bl false, S))) nxS)
  (retS (callE allD (consA (ofF (lcE [2] (rngI rng1D (consA (callE max2D (consA (fun _ S => R.ok (.int 2, S)) (consA (callE min2D (consA (callE lenD (consA (nm 0) nilA)) (consA (fun _ S => R.ok (.int 4, S)) nilA))) nilA))) nilA)) (nmG 2) yesT (callPN F_right (callN F_pool [] (consA (callD F_cell [] (consA (nm 0) (consA (nm 2) nilA))) nilA))))) nilA)))))
abbrev F_law := runF 3 1 f_law
theorem ok_law {fA : Addr} {fd : FuncData} (T : Txt K mg base tb ca C xa) (F : Fun K "law" "law" s_law fA fd) : FnG Pg w K mg base 6 fA fd ["_law_cells"] (spF K ca tb F_law) := by
  obtain ⟨_, _, c_ini⟩ := T.c_ini
  obtain ⟨_, _, c_right⟩ := T.c_right
  obtain ⟨_, _, c_pool⟩ := T.c_pool
  obtain ⟨_, _, c_cell⟩ := T.c_cell
  refine fn_d (N := ["_law_cells", "_law_log", "_law_k"]) (OO := []) F sc_law fun cdv A outer s H E hr => ?_
  have hu := hr.r.units
  have hgu := hr.g
  exact (pss_consD (psd_set 1 sc_law.nd notplN (pd_make (n := 2) (ix := [0, 1]) T.caC c_ini.makes (ok_ini T c_ini.F) (hr.mono (by decide)) T.mgC c_ini.kb (pad_cons (pd_tup (pad_cons (pd_int) pad_nil)) (pad_cons (pd_tup (pad_cons (pd_int) pad_nil)) pad_nil))))
    (pss_consD (psd_if (pt_ne rfl hu (pd_reprX rfl hu hgu (T.free _ (by decide +kernel)) (pba_cons (pf_lst (pad_cons (pd_cval T.mgC T.rdC T.cv_MAX_TICKS.choose_spec (fun _ => .int _)) (pad_cons (pd_cval T.mgC T.rdC T.cv_MAX_PEOPLE.choose_spec (fun _ => .int _)) (pad_cons (pd_icon rfl T.caC T.clC T.co_MAX_TICKS.choose_spec (fun _ => .int _) (pd_name 1)) (pad_cons (pd_icon rfl T.caC T.clC T.co_MAX_PEOPLE.choose_spec (fun _ => .int _) (pd_name 1)) pad_nil))))).pd.pb pba_nil)).pb (pd_reprX rfl hu hgu (T.free _ (by decide +kernel)) (pba_cons (pf_lst (pad_cons (pd_int) (pad_cons (pd_int) (pad_cons (pd_int) (pad_cons (pd_int) pad_nil))))).pd.pb pba_nil)).pb) (pss_oneD (psd_ret (pd_bl))) pss_nilD)
    (pss_oneD (psd_ret (pd_all rfl rfl (T.free _ (by decide +kernel)) (pba_cons (pf_lc (vs := []) (own := [("_law_k", 2)]) rfl sc_law.nd (pid_range1 (T.free _ (by decide +kernel)) (pad_cons (pd_max2 rfl (T.free _ (by decide +kernel)) (pba_cons (pd_int).pb (pba_cons (pd_min2 rfl (T.free _ (by decide +kernel)) (pba_cons (pd_len rfl (T.free _ (by decide +kernel)) (pba_cons (pd_name 0).pb pba_nil)).pb (pba_cons (pd_int).pb pba_nil))).pb pba_nil))) pad_nil)) (blkOk_by (by rfl)) (fun _ _ _ _ _ => (pgd_name 2 sc_law.nd notplN)) (fun _ _ _ _ _ => pts_nil) evT_yes (fun _ _ _ _ _ => (pd_callPN (ok_right T c_right.F) (hr.mono (by decide)) c_right.m c_right.k c_right.b (pf_call (ok_pool T c_pool.F) (hr.mono (by decide)) c_pool.m c_pool.k c_pool.b .nil (fun _ => .nil) (pad_cons (pd_call (ok_cell T c_cell.F) (hr.mono (by decide)) c_cell.m c_cell.k c_cell.b .nil (fun _ => .nil) (pad_cons (pd_name 0) (pad_cons (pd_name 2) pad_nil))) pad_nil)))) (fun _ _ => notplN)).pd.pb pba_nil))))))
end
end K07
set_option Elab.async false
set_option linter.all false
set_option maxRecDepth 100000
set_option maxHeartbeats 4000000
namespace K07
open PySem PySem.Spec PyProof.Rows L2 ClX PL
open LW (PoolOk Flow intL atI3 rng_at pre cnt)
theorem draw_spec {S : List D} {n : Int} (hS : PoolOk S) (h0 : 0 < n) (h1 : n < 1073741824) : Sat (F_draw S [.int n]) (fun r => ∃ v : Int, r.1 = .int v ∧ 0 ≤ v ∧ v < n ∧ PoolOk r.2) EX0 := LW.draw_spec hS h0 h1
theorem cell_spec (ns : List Int) (k : Int) (h0 : 0 ≤ k) (h1 : k < 1000) : Sat (F_cell [.scr ns, .int k]) (fun d => ∃ v : Int, d = .int v) EX0 := by
  refine (wp_runF rfl).mpr ?_
  unfold f_cell
  simp [startE, slcD]
  split
  · rename_i h
    obtain ⟨d, e, _⟩ := atI_of h0 h
    rw [e]
    exact ⟨d, rfl⟩
  · refine ⟨by omega, ?_⟩
    refine wp_for _ (fun i ρ S => ∃ (v : Int) (o : Option D), ρ = [some (D.scr ns), some (D.int k), some (.int v), o] ∧ S = []) ?_ ?_ ⟨_, none, rfl, rfl⟩
    · rintro i d ρ S hd ⟨v, o, rfl, rfl⟩
      obtain ⟨x, _, rfl⟩ := List.mem_map.mp (List.mem_of_getElem? hd)
      simp
    · rintro ρ S ⟨v, o, rfl, rfl⟩
      simp
theorem pool_spec (v : Int) : Sat (F_pool [.int v]) PoolOk EX0 := by
  refine (wp_runN rfl).mpr ?_
  unfold f_pool
  simp [startE, LINE]
  have h0 : 0 ≤ v % 2147483179 := Int.emod_nonneg _ (by decide)
  have h1 : v % 2147483179 < 2147483179 := Int.emod_lt_of_pos _ (by decide)
  split
  · exact ⟨_, _, _, rfl, h0, h1, by omega, by omega⟩
  · split
    · exact ⟨_, _, _, rfl, h0, h1, by omega, by omega⟩
    · exact ⟨_, _, _, rfl, h0, h1, by omega, by omega⟩
def ex (k : Nat) (x y : D) : D := match k with
  | 0 => .exn "InvalidCounts" ["tick"] [x]
  | 1 => .exn "NotCounts" ["value"] [x]
  | 2 => .exn "InvalidTick" ["tick"] [x]
  | 3 => .exn "InvalidNumber" ["number"] [x]
  | 4 => .exn "InvalidText" ["text"] [x]
  | 5 => .exn "InvalidStay" ["index"] [x]
  | 6 => .exn "InvalidHistory" ["history"] [x]
  | 7 => .exn "InvalidName" ["name"] [x]
  | 8 => .exn "InvalidLength" ["length"] [x]
  | 9 => .exn "InvalidDoors" ["index"] [x]
  | 10 => .exn "InvalidDeed" ["index"] [x]
  | 11 => .exn "InvalidCommand" ["command"] [x]
  | 12 => .exn "Impossible" ["tick", "word"] [y, x]
  | 13 => .exn "NotKnown" ["stay"] [x]
  | 14 => .exn "LimitBroken" [] []
  | 15 => .exn "NothingToUndo" [] []
  | _ => .exn "TooMany" ["limit"] [x]
def due (k : Nat) (x y : D) : List D := if k = 14 ∨ k = 15 then [] else if k = 12 then [x, y] else [x]
def pair (x y : D) (k : Nat) : D := .tup [ex k x y, ex k x y]
theorem made_eq (x y : D) : F_made [x, y] = R.ok (.lst ((List.range 17).map (pair x y))) := by kernel_rfl
theorem err_eq (x y : D) : ∀ k, k < 17 → F_error [ex k x y] = R.ok (.int (k : Nat)) := by
  intro k hk
  match k, hk with
  | 0, _ => kernel_rfl
  | 1, _ => kernel_rfl
  | 2, _ => kernel_rfl
  | 3, _ => kernel_rfl
  | 4, _ => kernel_rfl
  | 5, _ => kernel_rfl
  | 6, _ => kernel_rfl
  | 7, _ => kernel_rfl
  | 8, _ => kernel_rfl
  | 9, _ => kernel_rfl
  | 10, _ => kernel_rfl
  | 11, _ => kernel_rfl
  | 12, _ => kernel_rfl
  | 13, _ => kernel_rfl
  | 14, _ => kernel_rfl
  | 15, _ => kernel_rfl
  | 16, _ => kernel_rfl
  | n + 17, h => exact absurd h (by omega)
theorem fields_eq (x y : D) : ∀ k, k < 17 → F_fields [ex k x y, .int (k : Nat)] = R.ok (.lst (due k x y)) := by
  intro k hk
  match k, hk with
  | 0, _ => kernel_rfl
  | 1, _ => kernel_rfl
  | 2, _ => kernel_rfl
  | 3, _ => kernel_rfl
  | 4, _ => kernel_rfl
  | 5, _ => kernel_rfl
  | 6, _ => kernel_rfl
  | 7, _ => kernel_rfl
  | 8, _ => kernel_rfl
  | 9, _ => kernel_rfl
  | 10, _ => kernel_rfl
  | 11, _ => kernel_rfl
  | 12, _ => kernel_rfl
  | 13, _ => kernel_rfl
  | 14, _ => kernel_rfl
  | 15, _ => kernel_rfl
  | 16, _ => kernel_rfl
  | n + 17, h => exact absurd h (by omega)
end K07
set_option Elab.async false
set_option linter.all false
set_option maxRecDepth 100000
set_option maxHeartbeats 4000000
namespace K07
open PySem PySem.Spec PyProof.Rows L2 ClX PL
open LW (PoolOk Flow intL atI3 rng_at pre cnt)
theorem in_two (k : Nat) (a b : Int) : inF false (.int k) (.lst [.int a, .int b]) = some (.bl (decide ((k : Int) = a ∨ (k : Int) = b))) := by
  show some (D.bl ((a == (k : Int)) || ((b == (k : Int)) || false))) = _
  refine congrArg some (congrArg D.bl ?_)
  rw [Bool.eq_iff_iff]
  simp only [Bool.or_false, Bool.or_eq_true, beq_iff_eq, decide_eq_true_eq]
  omega
def Od (d : D) : Prop := ∃ n, n ≤ 60 ∧ TxQ n 4 d
theorem due_tx {k : Nat} {x y : D} (hx : Od x) (hy : Od y) : ∃ t : Str, reprXL [.lst (due k x y)] = some (.str t) ∧ Nice 200 t := by
  obtain ⟨n, hn, qx⟩ := hx
  obtain ⟨m, hm, qy⟩ := hy
  unfold due
  split
  · obtain ⟨t, e, nt⟩ := repr_tx (TxQA.nil (k := 0)) (by simp only [LINE]; omega) (by omega)
    exact ⟨t, e, nt.mono (by omega)⟩
  · split
    · obtain ⟨t, e, nt⟩ := repr_tx (TxQA.cons qx (TxQA.cons qy TxQA.nil)) (by simp only [LINE]; omega) (by omega)
      exact ⟨t, e, nt.mono (by omega)⟩
    · obtain ⟨t, e, nt⟩ := repr_tx (TxQA.cons qx TxQA.nil) (by simp only [LINE]; omega) (by omega)
      exact ⟨t, e, nt.mono (by omega)⟩
theorem ne_str {n : Nat} {t : Str} (h : Nice n t) : neD (.str t) (.str t) = some (.bl false) := (eqD_self (Nd.str (k := 0) h (Nat.le_refl _)) (by omega)).2
def tailF : FS := (forS (seqI itemsT (bin2 idxD (nm 5) (nm 6))) (nmG 8) (ifS (orT (tstB (bin2 neD (callD F_error [] (consA (nm 8) nilA)) (nm 6))) (tstB (bin2 neD (callE reprXL (consA (callD F_fields [] (consA (nm 8) (consA (nm 6) nilA))) nilA)) (callE reprXL (consA (nm 7) nilA))))) (retS (fun _ S => R.ok (.bl false, S))) nxS))
theorem tail_spec {k : Nat} {x y L M : D} {o2 o8 : Option D} {S : List D} {Q : Ctl × PL.Env × List D → Prop} {EX : EXT} (hk : k < 17) (hx : Od x) (hy : Od y) (hM : idxD M (.int (k : Nat)) = some (pair x y k))
    (h : ∀ o8, Q (.nx, [none, some L, o2, some x, some y, some M, some (.int (k : Nat)), some (.lst (due k x y)), o8], S)) :
    Sat (tailF [none, some L, o2, some x, some y, some M, some (.int (k : Nat)), some (.lst (due k x y)), o8] S) Q EX := by
  have e1 := err_eq x y k hk
  have e2 := fields_eq x y k hk
  obtain ⟨t, e3, nt⟩ := due_tx (k := k) hx hy
  have e4 := ne_str nt
  unfold tailF
  unfold pair at hM
  generalize ex k x y = E at *
  generalize D.lst (due k x y) = U at *
  simp [hM, wp_for_cons, wp_for_nil, e1, e2, e3, e4]
  exact h _
def atF : FS := (seqS (asgS (ifE (tstB (bin2 (inF false) (nm 6) (ofF (lstF (consA (fun _ S => R.ok (.int 14, S)) (consA (fun _ S => R.ok (.int 15, S)) nilA)))))) (ofF (lstF nilA)) (ifE (tstB (bin2 eqD (nm 6) (fun _ S => R.ok (.int 12, S)))) (ofF (lstF (consA (nm 3) (consA (nm 4) nilA)))) (ofF (lstF (consA (nm 3) nilA))))) (nmG 7)) tailF)
theorem at_spec {k : Nat} {x y L M : D} {o2 o7 o8 : Option D} {S : List D} {Q : Ctl × PL.Env × List D → Prop} {EX : EXT} (hk : k < 17) (hx : Od x) (hy : Od y) (hM : idxD M (.int (k : Nat)) = some (pair x y k))
    (h : ∀ o8, Q (.nx, [none, some L, o2, some x, some y, some M, some (.int (k : Nat)), some (.lst (due k x y)), o8], S)) :
    Sat (atF [none, some L, o2, some x, some y, some M, some (.int (k : Nat)), o7, o8] S) Q EX := by
  have i := in_two k 14 15
  have q := tail_spec (EX := EX) (o8 := o8) (S := S) (Q := Q) (L := L) (o2 := o2) hk hx hy hM h
  unfold atF
  generalize tailF = T at *
  simp [i, LINE]
  unfold due at q
  by_cases h1 : k = 14 ∨ k = 15
  · have h1' : (k : Int) = 14 ∨ (k : Int) = 15 := by omega
    rw [if_pos h1] at q
    simp [h1']
    exact q
  · have h1' : ¬ ((k : Int) = 14 ∨ (k : Int) = 15) := by omega
    rw [if_neg h1] at q
    simp [h1']
    by_cases h2 : k = 12
    · have h2' : (k : Int) = 12 := by omega
      rw [if_pos h2, h2'] at q
      simp [h2']
      exact q
    · have h2' : ¬ (k : Int) = 12 := by omega
      rw [if_neg h2] at q
      simp [h2']
      exact q
end K07
set_option Elab.async false
set_option linter.all false
set_option maxRecDepth 100000
set_option maxHeartbeats 4000000
namespace K07
open PySem PySem.Spec PyProof.Rows L2 ClX PL
open LW (PoolOk Flow intL atI3 rng_at pre cnt)
def somes : List D := [.non, .int 0, .int (-1), .bl true, .bl false, .str "", .str "late", .tup [], .lst [], .dic [] [], .tup [.int 1, .str "a"], .int 1000000000000000000000000000000, .lst [.non], .str "1/0", .tup [.tup []], .int 7]
theorem od_r {n k : Nat} {d : D} (q : TxR n k d) (hn : n ≤ 60) (hk : k ≤ 4) : Od d := ⟨n, hn, q.q.mono (Nat.le_refl _) hk⟩
theorem od_somes : ∀ d ∈ somes, Od d := by
  intro d hd
  simp only [somes, List.mem_cons, List.not_mem_nil, or_false] at hd
  rcases hd with rfl | rfl | rfl | rfl | rfl | rfl | rfl | rfl | rfl | rfl | rfl | rfl | rfl | rfl | rfl | rfl
  · exact od_r (k := 0) TxR.non (by omega) (by omega)
  · exact od_r (k := 0) (TxR.iZ (by omega) (by omega)) (by omega) (by omega)
  · exact od_r (k := 0) (TxR.iZ (by omega) (by omega)) (by omega) (by omega)
  · exact od_r (k := 0) (TxR.bl true) (by omega) (by omega)
  · exact od_r (k := 0) (TxR.bl false) (by omega) (by omega)
  · exact od_r (k := 0) (TxR.str (show Nice 0 ("" : String) from nice_of (by decide))) (by omega) (by omega)
  · exact od_r (k := 0) (TxR.str (show Nice 4 ("late" : String) from nice_of (by decide))) (by omega) (by omega)
  · exact od_r (TxR.tup (k := 0) TxA.nil) (by omega) (by omega)
  · exact od_r (TxR.lst (k := 0) TxA.nil) (by omega) (by omega)
  · exact ⟨2, by omega, TxQ.dic0 (k := 3)⟩
  · exact od_r (TxR.tup (k := 0) (TxA.cons (TxR.i3 (by omega) (by omega)) (TxA.cons (TxR.str (show Nice 1 ("a" : String) from nice_of (by decide))) TxA.nil))) (by omega) (by omega)
  · exact od_r (k := 0) (.int (show Nice 40 ((toString (1000000000000000000000000000000 : Int) : String) : Str) from nice_of (by decide +kernel)) (by decide +kernel)) (by omega) (by omega)
  · exact od_r (TxR.lst (k := 0) (TxA.cons TxR.non TxA.nil)) (by omega) (by omega)
  · exact od_r (k := 0) (TxR.str (show Nice 3 ("1/0" : String) from nice_of (by decide))) (by omega) (by omega)
  · exact od_r (TxR.tup (k := 1) (TxA.cons (TxR.tup (k := 0) TxA.nil) TxA.nil)) (by omega) (by omega)
  · exact od_r (k := 0) (TxR.iZ (by omega) (by omega)) (by omega) (by omega)
theorem atI_pair (x y : D) {k : Nat} (hk : k < 17) : L2.atI ((List.range 17).map (pair x y)) (k : Nat) = some (pair x y k) := by
  obtain ⟨d, e, _, e2⟩ := atI_of (xs := (List.range 17).map (pair x y)) (i := (k : Nat)) (by omega) (by simp; omega)
  rw [e, ← e2, Int.toNat_natCast, List.getElem?_map, List.getElem?_range hk]
  rfl
theorem right_gen {S : List D} (hS : PoolOk S) (L : List D) (hL : ∀ d ∈ L, Od d) (l16 : L.length = 16) (f1 f2 : FS) (hf : f1 = seqS (forS (rngI rng1D (consA (fun _ S => R.ok (.int 4, S)) nilA)) (nmG 2) (seqS (parS 3 4 (consA (bin2 idxD (nm 1) (callP F_draw (consA (fun _ S => R.ok (.int 16, S)) nilA))) (consA (bin2 idxD (nm 1) (callP F_draw (consA (fun _ S => R.ok (.int 16, S)) nilA))) nilA)))
  (seqS (asgS (callD F_made [] (consA (nm 3) (consA (nm 4) nilA))) (nmG 5))
  (seqS (forS (rngI rng1D (consA (callE lenD (consA (nm 5) nilA)) nilA)) (nmG 6) atF)
  (ifS (tstB (bin2 neD (callE lenD (consA (nm 5) nilA)) (fun _ S => R.ok (.int 17, S)))) (retS (fun _ S => R.ok (.bl false, S))) nxS)))))
  (retS (fun _ S => R.ok (.bl true, S)))) :
    Sat (f1 [none, some (.lst L), none, none, none, none, none, none, none] S) (fun r => Sat (endP r) (fun r => r.1 = .bl true) EX0) EX0 := by
  subst hf
  simp
  refine wp_for _ (fun _ ρ S => ∃ o2 o3 o4 o5 o6 o7 o8 : Option D, ρ = [none, some (.lst L), o2, o3, o4, o5, o6, o7, o8] ∧ PoolOk S) ?_ ?_ ⟨_, _, _, _, _, _, _, rfl, hS⟩
  · rintro i d ρ S hd ⟨o2, o3, o4, o5, o6, o7, o8, rfl, hS2⟩
    simp
    refine (draw_spec (n := 16) hS2 (by decide) (by decide)).imp ?_
    rintro ⟨_, S3⟩ ⟨v, rfl, hv0, hv1, hS3⟩
    obtain ⟨x, ex, hx, _⟩ := atI_of (xs := L) (i := v) hv0 (by omega)
    simp [ex]
    refine (draw_spec (n := 16) hS3 (by decide) (by decide)).imp ?_
    rintro ⟨_, S4⟩ ⟨u, rfl, hu0, hu1, hS4⟩
    obtain ⟨y, ey, hy, _⟩ := atI_of (xs := L) (i := u) hu0 (by omega)
    have ox := hL x hx
    have oy := hL y hy
    have em := made_eq x y
    have at_ := fun k (hk : k < 17) => atI_pair x y hk
    have lm : ((List.range 17).map (pair x y)).length = 17 := by simp
    generalize (List.range 17).map (pair x y) = M at *
    simp [ey, em, lm]
    refine wp_for _ (fun _ ρ S => ∃ o6 o7 o8 : Option D, ρ = [none, some (.lst L), some d, some x, some y, some (.lst M), o6, o7, o8] ∧ PoolOk S) ?_ ?_ ⟨_, _, _, rfl, hS4⟩
    · rintro j d2 ρ S hd2 ⟨o6, o7, o8, rfl, hS5⟩
      obtain ⟨hj, rfl⟩ := rng_at (lo := 0) (by simpa using hd2)
      have hj : j < 17 := by omega
      simp
      refine at_spec hj ox oy (by rw [idxD_lst]; exact at_ j hj) fun o8 => ?_
      exact ⟨⟨_, _, _, rfl⟩, hS5⟩
    · rintro ρ S ⟨o6, o7, o8, rfl, hS5⟩
      simp [lm]
      exact hS5
  · rintro ρ S ⟨o2, o3, o4, o5, o6, o7, o8, rfl, hS2⟩
    simp
end K07
set_option Elab.async false
set_option linter.all false
set_option maxRecDepth 100000
set_option maxHeartbeats 4000000
namespace K07
open PySem PySem.Spec PyProof.Rows L2 ClX PL
open LW (PoolOk Flow intL atI3 rng_at pre cnt)
theorem first_spec {REST : FS} {S : List D} {Q : Ctl × PL.Env × List D → Prop} (h : Sat (REST [none, some (.lst somes), none, none, none, none, none, none, none] S) Q EX0) : Sat (seqS (asgS (ofF (lstF (consA (fun _ S => R.ok (.non, S)) (consA (fun _ S => R.ok (.int 0, S)) (consA (un1 negD (fun _ S => R.ok (.int 1, S))) (consA (fun _ S => R.ok (.bl true, S)) (consA (fun _ S => R.ok (.bl false, S)) (consA (fun _ S => R.ok (.str "", S)) (consA (fun _ S => R.ok (.str "late", S)) (consA (tupE nilA) (consA (ofF (lstF nilA)) (consA (fun _ S => R.ok (.dic [] [], S)) (consA (tupE (consA (fun _ S => R.ok (.int 1, S)) (consA (fun _ S => R.ok (.str "a", S)) nilA))) (consA (bin2 powD (fun _ S => R.ok (.int 10, S)) (fun _ S => R.ok (.int 30, S))) (consA (ofF (lstF (consA (fun _ S => R.ok (.non, S)) nilA))) (consA (fun _ S => R.ok (.str "1/0", S)) (consA (tupE (consA (tupE nilA) nilA)) (consA (fun _ S => R.ok (.int 7, S)) nilA)))))))))))))))))) (nmG 1)) REST (startP 9 []) S) Q EX0 := by
  unfold somes at h
  simp [startP, startE, LINE]
  exact h
theorem right_spec {S : List D} (hS : PoolOk S) : Sat (F_right S []) (fun r => r.1 = .bl true) EX0 := by
  refine (wp_runP rfl).mpr ?_
  unfold f_right
  refine first_spec ?_
  exact right_gen hS somes od_somes rfl _ nxS rfl
end K07
set_option Elab.async false
set_option linter.all false
set_option maxRecDepth 100000
set_option maxHeartbeats 4000000
namespace K07
open PySem PySem.Spec PyProof.Rows L2 ClX PL
open LW (PoolOk Flow intL atI3 rng_at pre cnt)
theorem ini1 : F_ini [.tup [.int 1], .tup [.int 0]] = R.ok [.tup [.int 1], .tup [.int 0]] := LW.ini_ok (cs := cs) (a := [1]) (b := [0]) (m := 999) ⟨rfl, by simp, by simp, fun k hk => by
  match k with
  | 0 => decide
  | n + 1 => simp [pre], by decide⟩ (by decide) (by decide) (by decide)
theorem cut1 {X Y s : D} {fx fy : FE} {S : List D} (hx : ∀ ρ S, fx ρ S = R.ok (X, S)) (hy : ∀ ρ S, fy ρ S = R.ok (Y, S)) (i : F_ini [X, Y] = R.ok [X, Y]) :
    asgS (mkI "Counts" nm_ini F_ini 2 0 [0, 1] (consA fx (consA fy nilA)) nilA) (nmG 1) [some s, none, none] S = R.ok (.nx, [some s, some (.ins "Counts" nm_ini [X, Y]), none], S) := by
  have p : ∀ x y : D, pick [0, 1] [x, y] = [x, y] := fun _ _ => rfl
  refine eq_sat ?_
  simp [hx, hy, i, p]
theorem cut2 {X Y s : D} {S : List D} (fe ge : FE) (t : Str) (nt : Nice 1000 t) (he : fe [some s, some (.ins "Counts" nm_ini [X, Y]), none] S = R.ok (.str t, S)) (hg : ge [some s, some (.ins "Counts" nm_ini [X, Y]), none] S = R.ok (.str t, S)) :
    ifS (tstB (bin2 neD fe ge)) (retS (fun _ S => R.ok (.bl false, S))) nxS [some s, some (.ins "Counts" nm_ini [X, Y]), none] S = R.ok (.nx, [some s, some (.ins "Counts" nm_ini [X, Y]), none], S) := by
  have e4 := ne_str nt
  refine eq_sat ?_
  simp [he, hg, e4]
theorem ev_lstF {fa : FA} {ρ : PL.Env} {S S1 : List D} {ds : List D} (h : fa ρ S = R.ok (ds, S1)) (l : ds.length ≤ LINE) : ofF (lstF fa) ρ S = R.ok (.lst ds, S1) := by
  show ((fa ρ S >>= fun x => if x.1.length ≤ LINE then R.ok x else R.bad) >>= fun x => R.ok (D.lst x.1, x.2)) = _
  rw [h]
  show ((if ds.length ≤ LINE then R.ok (ds, S1) else R.bad) >>= fun x => R.ok (D.lst x.1, x.2)) = _
  rw [if_pos l]
  rfl
theorem ev_callE {g : List D → Option D} {fa : FA} {ρ : PL.Env} {S S1 : List D} {ds : List D} {d : D} (h : fa ρ S = R.ok (ds, S1)) (e : g ds = some d) : callE g fa ρ S = R.ok (d, S1) := by
  show (fa ρ S >>= fun x => R.of (g x.1) >>= fun d => R.ok (d, x.2)) = _
  rw [h]
  show (R.of (g ds) >>= fun d => R.ok (d, S1)) = _
  rw [e]
  rfl
theorem ev_one {fe : FE} {ga : FA} {ρ : PL.Env} {S S1 S2 : List D} {d : D} {ds : List D} (h : fe ρ S = R.ok (d, S1)) (g : ga ρ S1 = R.ok (ds, S2)) : consA fe ga ρ S = R.ok (d :: ds, S2) := by
  show (fe ρ S >>= fun x => ga ρ x.2 >>= fun y => R.ok (x.1 :: y.1, y.2)) = _
  rw [h]
  show (ga ρ S1 >>= fun y => R.ok (d :: y.1, y.2)) = _
  rw [g]
  rfl
theorem ev_icon {X Y s : D} {S : List D} (fn : Str) (v : D) (n1 : nm_ini.contains fn = false) : un1 (iconD "Counts" fn v) (nm 1) [some s, some (.ins "Counts" nm_ini [X, Y]), none] S = R.ok (v, S) := by
  show (R.of (if ("Counts" : Str) = "Counts" ∧ nm_ini.contains fn = false then some v else none) >>= fun d => R.ok (d, S)) = _
  rw [if_pos ⟨rfl, n1⟩]
  rfl
def fA : FS := (asgS (mkI "Counts" nm_ini F_ini 2 0 [0, 1] (consA (tupE (consA (fun _ S => R.ok (.int 1, S)) nilA)) (consA (tupE (consA (fun _ S => R.ok (.int 0, S)) nilA)) nilA)) nilA) (nmG 1))
def fB : FS := (ifS (tstB (bin2 neD (callE reprXL (consA (ofF (lstF (consA (fun _ S => R.ok (.int 60, S)) (consA (fun _ S => R.ok (.int 999, S)) (consA (un1 (iconD "Counts" "MAX_TICKS" (.int 60)) (nm 1)) (consA (un1 (iconD "Counts" "MAX_PEOPLE" (.int 999)) (nm 1)) nilA)))))) nilA)) (callE reprXL (consA (ofF (lstF (consA (fun _ S => R.ok (.int 60, S)) (consA (fun _ S => R.ok (.int 999, S)) (consA (fun _ S => R.ok (.int 60, S)) (consA (fun _ S => R.ok (.int 999, S)) nilA)))))) nilA)))) (retS (fun _ S => R.ok (.bl false, S))) nxS)
def fC : FS := (retS (callE allD (consA (ofF (lcE [2] (rngI rng1D (consA (callE max2D (consA (fun _ S => R.ok (.int 2, S)) (consA (callE min2D (consA (callE lenD (consA (nm 0) nilA)) (consA (fun _ S => R.ok (.int 4, S)) nilA))) nilA))) nilA)) (nmG 2) yesT (callPN F_right (callN F_pool [] (consA (callD F_cell [] (consA (nm 0) (consA (nm 2) nilA))) nilA))))) nilA)))
theorem glue {s c : D} (f1 f2 f3 : FS) (h1 : f1 [some s, none, none] [] = R.ok (.nx, [some s, some c, none], [])) (h2 : f2 [some s, some c, none] [] = R.ok (.nx, [some s, some c, none], [])) (h3 : Sat (f3 [some s, some c, none] []) (fun r => Sat (endD r) (fun x => x = .bl true) EX0) EX0) : runF 3 1 (seqS f1 (seqS f2 f3)) [s] = R.ok (.bl true) := by
  refine eq_sat ((wp_runF rfl).mpr ?_)
  show Sat (seqS f1 (seqS f2 f3) [some s, none, none] []) _ _
  rw [wp_seqS, h1]
  simp only [wp_ok, wp_nxt]
  rw [wp_seqS, h2]
  simp only [wp_ok, wp_nxt]
  exact h3
theorem c_spec (ns : List Int) (hl : ns.length ≤ 63) (c : D) : Sat (fC [some (.scr ns), some c, none] []) (fun r => Sat (endD r) (fun x => x = .bl true) EX0) EX0 := by
  unfold fC
  simp
  generalize hm : (if 2 < if 4 < (ns.length : Int) then 4 else (ns.length : Int) then if 4 < (ns.length : Int) then 4 else (ns.length : Int) else 2) = m
  have hm2 : 0 ≤ m ∧ m ≤ 6 := by split at hm <;> split at hm <;> omega
  refine ⟨by omega, ?_⟩
  refine wp_lc (fun S => [] = S) (fun d y => y = .bl true) _ (by simp [LINE]; omega) ?_ ?_ rfl
  · intro d hd S hS
    subst hS
    obtain ⟨k, hk, rfl⟩ := List.mem_map.mp hd
    have hk2 : k < m.toNat := by simpa using hk
    simp [wipeE]
    refine (cell_spec ns k (by omega) (by omega)).imp ?_
    rintro _ ⟨v, rfl⟩
    refine (pool_spec v).imp ?_
    intro S hS
    refine (right_spec hS).imp ?_
    rintro ⟨_, S1⟩ rfl
    first | exact ⟨rfl, rfl⟩ | rfl
  · intro rs S hS h
    subst hS
    rw [All2.eq_map (f := fun _ => D.bl true) h]
    rw [all_true]
    simp
theorem b_eq (s X Y : D) : fB [some s, some (.ins "Counts" nm_ini [X, Y]), none] [] = R.ok (.nx, [some s, some (.ins "Counts" nm_ini [X, Y]), none], []) := by
  obtain ⟨t, et, nt⟩ := repr_tx (k := 0) (TxQA.cons (TxR.i3 (i := 60) (by omega) (by omega)).q (TxQA.cons (TxR.i3 (i := 999) (by omega) (by omega)).q (TxQA.cons (TxR.i3 (i := 60) (by omega) (by omega)).q (TxQA.cons (TxR.i3 (i := 999) (by omega) (by omega)).q TxQA.nil)))) (by simp only [LINE]; omega) (by omega)
  have l4 : [D.int 60, .int 999, .int 60, .int 999].length ≤ LINE := by decide
  exact cut2 _ _ t (nt.mono (by omega)) (ev_callE (ev_one (ev_lstF (ev_one rfl (ev_one rfl (ev_one (ev_icon "MAX_TICKS" (.int 60) (by decide +kernel)) (ev_one (ev_icon "MAX_PEOPLE" (.int 999) (by decide +kernel)) rfl)))) l4) rfl) et) (ev_callE (ev_one (ev_lstF (ev_one rfl (ev_one rfl (ev_one rfl (ev_one rfl rfl)))) l4) rfl) et)
theorem ev_tup1 {d : D} {ρ : PL.Env} {S : List D} : tupE (consA (fun _ S => R.ok (d, S)) nilA) ρ S = R.ok (.tup [d], S) := by
  show (if [d].length ≤ LINE then R.ok (D.tup [d], S) else R.bad) = _
  exact if_pos (show 1 ≤ LINE by decide)
theorem a_eq (s : D) : fA [some s, none, none] [] = R.ok (.nx, [some s, some (.ins "Counts" nm_ini [.tup [.int 1], .tup [.int 0]]), none], []) := cut1 (fun _ _ => ev_tup1) (fun _ _ => ev_tup1) ini1
theorem holds (ns : List Int) (hl : ns.length ≤ 63) : F_law [.scr ns] = R.ok (.bl true) := glue fA fB fC (a_eq _) (b_eq _ _ _) (c_spec ns hl _)
end K07
set_option Elab.async false
set_option linter.all false
set_option maxRecDepth 100000
set_option maxHeartbeats 4000000
namespace K07
open PySem PySem.Spec PyProof.Rows L2 ClX PL
/-! what the top has written -/
theorem kit_bt {K : PySem.W.Frag} {C : Addr} {T : String} (m : PySem.W.kitMeta T = true) (h : PySem.W.mroIn K C (.type T) = some false) : PySem.W.kitOne K (.ref C) (.type T) = some false := by
  show (if (Value.ref C == Value.type T) = true then some true else PySem.W.kitCls K (.ref C) (.type T)) = some false
  rw [if_neg (by intro q; cases q)]
  show (if PySem.W.kitMeta T = true then PySem.W.subIn K (.ref C) (.type T) else none) = some false
  rw [if_pos m]
  exact h
theorem me_of {K : PySem.W.Frag} {C : Addr} (hd : PySem.W.hasDictIn K C = true) (ty : PySem.W.typeIn K (.ref C) = some (.type "type")) : ((PySem.W.clsIn K C).isSome && PySem.W.typeIn K (.ref C) == some (.type "type")) = true := by
  obtain ⟨cd, w, _⟩ := PySem.W.any_some hd
  rw [w, ty]
  exact beq_self_eq_true _
theorem all_mk {Pg : Program} {w : World} {K : PySem.W.Frag} {h : Heap} {mg : Str → Option Value} {fa C : Addr} (X : K.In h) (G : h.Ns mainGlobals mg) (hfa : mg "law" = some (.ref fa))
    {x_InvalidCounts x_NotCounts x_InvalidTick x_InvalidNumber x_InvalidText x_InvalidStay x_InvalidHistory x_InvalidName x_InvalidLength x_InvalidDoors x_InvalidDeed x_InvalidCommand x_Impossible x_NotKnown x_LimitBroken x_NothingToUndo x_TooMany x_CountError x_SearchError x_LimitError : Addr}
    {fa_eInvalidCounts : Addr} {od_eInvalidCounts an_eInvalidCounts : Option Addr} {sl_eInvalidCounts : Array (Option Value)} {oc_eInvalidCounts kV_eInvalidCounts dc_eInvalidCounts pm_eInvalidCounts cd_eInvalidCounts ct_eInvalidCounts : Value}
    {fa_eNotCounts : Addr} {od_eNotCounts an_eNotCounts : Option Addr} {sl_eNotCounts : Array (Option Value)} {oc_eNotCounts kV_eNotCounts dc_eNotCounts pm_eNotCounts cd_eNotCounts ct_eNotCounts : Value}
    {fa_eInvalidTick : Addr} {od_eInvalidTick an_eInvalidTick : Option Addr} {sl_eInvalidTick : Array (Option Value)} {oc_eInvalidTick kV_eInvalidTick dc_eInvalidTick pm_eInvalidTick cd_eInvalidTick ct_eInvalidTick : Value}
    {fa_eInvalidNumber : Addr} {od_eInvalidNumber an_eInvalidNumber : Option Addr} {sl_eInvalidNumber : Array (Option Value)} {oc_eInvalidNumber kV_eInvalidNumber dc_eInvalidNumber pm_eInvalidNumber cd_eInvalidNumber ct_eInvalidNumber : Value}
    {fa_eInvalidText : Addr} {od_eInvalidText an_eInvalidText : Option Addr} {sl_eInvalidText : Array (Option Value)} {oc_eInvalidText kV_eInvalidText dc_eInvalidText pm_eInvalidText cd_eInvalidText ct_eInvalidText : Value}
    {fa_eInvalidStay : Addr} {od_eInvalidStay an_eInvalidStay : Option Addr} {sl_eInvalidStay : Array (Option Value)} {oc_eInvalidStay kV_eInvalidStay dc_eInvalidStay pm_eInvalidStay cd_eInvalidStay ct_eInvalidStay : Value}
    {fa_eInvalidHistory : Addr} {od_eInvalidHistory an_eInvalidHistory : Option Addr} {sl_eInvalidHistory : Array (Option Value)} {oc_eInvalidHistory kV_eInvalidHistory dc_eInvalidHistory pm_eInvalidHistory cd_eInvalidHistory ct_eInvalidHistory : Value}
    {fa_eInvalidName : Addr} {od_eInvalidName an_eInvalidName : Option Addr} {sl_eInvalidName : Array (Option Value)} {oc_eInvalidName kV_eInvalidName dc_eInvalidName pm_eInvalidName cd_eInvalidName ct_eInvalidName : Value}
    {fa_eInvalidLength : Addr} {od_eInvalidLength an_eInvalidLength : Option Addr} {sl_eInvalidLength : Array (Option Value)} {oc_eInvalidLength kV_eInvalidLength dc_eInvalidLength pm_eInvalidLength cd_eInvalidLength ct_eInvalidLength : Value}
    {fa_eInvalidDoors : Addr} {od_eInvalidDoors an_eInvalidDoors : Option Addr} {sl_eInvalidDoors : Array (Option Value)} {oc_eInvalidDoors kV_eInvalidDoors dc_eInvalidDoors pm_eInvalidDoors cd_eInvalidDoors ct_eInvalidDoors : Value}
    {fa_eInvalidDeed : Addr} {od_eInvalidDeed an_eInvalidDeed : Option Addr} {sl_eInvalidDeed : Array (Option Value)} {oc_eInvalidDeed kV_eInvalidDeed dc_eInvalidDeed pm_eInvalidDeed cd_eInvalidDeed ct_eInvalidDeed : Value}
    {fa_eInvalidCommand : Addr} {od_eInvalidCommand an_eInvalidCommand : Option Addr} {sl_eInvalidCommand : Array (Option Value)} {oc_eInvalidCommand kV_eInvalidCommand dc_eInvalidCommand pm_eInvalidCommand cd_eInvalidCommand ct_eInvalidCommand : Value}
    {fa_eImpossible : Addr} {od_eImpossible an_eImpossible : Option Addr} {sl_eImpossible : Array (Option Value)} {oc_eImpossible kV_eImpossible dc_eImpossible pm_eImpossible cd_eImpossible ct_eImpossible : Value}
    {fa_eNotKnown : Addr} {od_eNotKnown an_eNotKnown : Option Addr} {sl_eNotKnown : Array (Option Value)} {oc_eNotKnown kV_eNotKnown dc_eNotKnown pm_eNotKnown cd_eNotKnown ct_eNotKnown : Value}
    {fa_eTooMany : Addr} {od_eTooMany an_eTooMany : Option Addr} {sl_eTooMany : Array (Option Value)} {oc_eTooMany kV_eTooMany dc_eTooMany pm_eTooMany cd_eTooMany ct_eTooMany : Value}
    {fa_ii : Addr} {od_ii an_ii : Option Addr} {sl_ii : Array (Option Value)} {oc_ii kV_ii dc_ii pm_ii cd_ii ct_ii : Value}
    {fa_cl : Addr} {od_cl an_cl : Option Addr} {sl_cl : Array (Option Value)} {oc_cl kV_cl dc_cl pm_cl cd_cl ct_cl : Value}
    {fa_inu : Addr} {od_inu an_inu : Option Addr} {sl_inu : Array (Option Value)} {oc_inu kV_inu dc_inu pm_inu cd_inu ct_inu : Value}
    {fa_cn : Addr} {od_cn an_cn : Option Addr} {sl_cn : Array (Option Value)} {oc_cn kV_cn dc_cn pm_cn cd_cn ct_cn : Value}
    {fa_ini : Addr} {od_ini an_ini : Option Addr} {sl_ini : Array (Option Value)} {oc_ini kV_ini dc_ini pm_ini cd_ini ct_ini : Value}
    {fa_cell : Addr} {od_cell an_cell : Option Addr} {sl_cell : Array (Option Value)} {oc_cell kV_cell dc_cell pm_cell cd_cell ct_cell : Value}
    {fa_pool : Addr} {od_pool an_pool : Option Addr} {sl_pool : Array (Option Value)} {oc_pool kV_pool dc_pool pm_pool cd_pool ct_pool : Value}
    {fa_draw : Addr} {od_draw an_draw : Option Addr} {sl_draw : Array (Option Value)} {oc_draw kV_draw dc_draw pm_draw cd_draw ct_draw : Value}
    {fa_error : Addr} {od_error an_error : Option Addr} {sl_error : Array (Option Value)} {oc_error kV_error dc_error pm_error cd_error ct_error : Value}
    {fa_made : Addr} {od_made an_made : Option Addr} {sl_made : Array (Option Value)} {oc_made kV_made dc_made pm_made cd_made ct_made : Value}
    {fa_fields : Addr} {od_fields an_fields : Option Addr} {sl_fields : Array (Option Value)} {oc_fields kV_fields dc_fields pm_fields cd_fields ct_fields : Value}
    {fa_right : Addr} {od_right an_right : Option Addr} {sl_right : Array (Option Value)} {oc_right kV_right dc_right pm_right cd_right ct_right : Value}
    {fa_law : Addr} {od_law an_law : Option Addr} {sl_law : Array (Option Value)} {oc_law kV_law dc_law pm_law cd_law ct_law : Value}
    {tk_MAX_TICKS : Tok}
    {tk_MAX_PEOPLE : Tok}
    {tl_MAX_TICKS : Tok}
    {tl_MAX_PEOPLE : Tok}
    (aC : PySem.W.nsIn K mainGlobals "Counts" = some (some (.ref C)))
    (xa_InvalidCounts : PySem.W.nsIn K mainGlobals "InvalidCounts" = some (some (.ref x_InvalidCounts)))
    (xa_NotCounts : PySem.W.nsIn K mainGlobals "NotCounts" = some (some (.ref x_NotCounts)))
    (xa_InvalidTick : PySem.W.nsIn K mainGlobals "InvalidTick" = some (some (.ref x_InvalidTick)))
    (xa_InvalidNumber : PySem.W.nsIn K mainGlobals "InvalidNumber" = some (some (.ref x_InvalidNumber)))
    (xa_InvalidText : PySem.W.nsIn K mainGlobals "InvalidText" = some (some (.ref x_InvalidText)))
    (xa_InvalidStay : PySem.W.nsIn K mainGlobals "InvalidStay" = some (some (.ref x_InvalidStay)))
    (xa_InvalidHistory : PySem.W.nsIn K mainGlobals "InvalidHistory" = some (some (.ref x_InvalidHistory)))
    (xa_InvalidName : PySem.W.nsIn K mainGlobals "InvalidName" = some (some (.ref x_InvalidName)))
    (xa_InvalidLength : PySem.W.nsIn K mainGlobals "InvalidLength" = some (some (.ref x_InvalidLength)))
    (xa_InvalidDoors : PySem.W.nsIn K mainGlobals "InvalidDoors" = some (some (.ref x_InvalidDoors)))
    (xa_InvalidDeed : PySem.W.nsIn K mainGlobals "InvalidDeed" = some (some (.ref x_InvalidDeed)))
    (xa_InvalidCommand : PySem.W.nsIn K mainGlobals "InvalidCommand" = some (some (.ref x_InvalidCommand)))
    (xa_Impossible : PySem.W.nsIn K mainGlobals "Impossible" = some (some (.ref x_Impossible)))
    (xa_NotKnown : PySem.W.nsIn K mainGlobals "NotKnown" = some (some (.ref x_NotKnown)))
    (xa_LimitBroken : PySem.W.nsIn K mainGlobals "LimitBroken" = some (some (.ref x_LimitBroken)))
    (xa_NothingToUndo : PySem.W.nsIn K mainGlobals "NothingToUndo" = some (some (.ref x_NothingToUndo)))
    (xa_TooMany : PySem.W.nsIn K mainGlobals "TooMany" = some (some (.ref x_TooMany)))
    (xa_CountError : PySem.W.nsIn K mainGlobals "CountError" = some (some (.ref x_CountError)))
    (xa_SearchError : PySem.W.nsIn K mainGlobals "SearchError" = some (some (.ref x_SearchError)))
    (xa_LimitError : PySem.W.nsIn K mainGlobals "LimitError" = some (some (.ref x_LimitError)))
    (a_eInvalidCounts : PySem.W.findIn K (.ref x_InvalidCounts) "__init__" = some (some (.ref fa_eInvalidCounts)))
    (i_eInvalidCounts : PySem.W.isFn K (.ref fa_eInvalidCounts) = true)
    (l_eInvalidCounts : K.lookup fa_eInvalidCounts = some ⟨oc_eInvalidCounts, od_eInvalidCounts, .func (PySem.W.fnOf "__init__" "InvalidCounts.__init__" (defArgs s_eInvalidCounts) (defBody s_eInvalidCounts) (defScope s_eInvalidCounts) .none kV_eInvalidCounts dc_eInvalidCounts pm_eInvalidCounts an_eInvalidCounts cd_eInvalidCounts ct_eInvalidCounts), sl_eInvalidCounts⟩)
    (c_eInvalidCounts : PySem.W.codeIn K cd_eInvalidCounts "InvalidCounts.__init__" = true)
    (k_eInvalidCounts : PySem.W.keepIn K (.ref fa_eInvalidCounts) = true)
    (a_eNotCounts : PySem.W.findIn K (.ref x_NotCounts) "__init__" = some (some (.ref fa_eNotCounts)))
    (i_eNotCounts : PySem.W.isFn K (.ref fa_eNotCounts) = true)
    (l_eNotCounts : K.lookup fa_eNotCounts = some ⟨oc_eNotCounts, od_eNotCounts, .func (PySem.W.fnOf "__init__" "NotCounts.__init__" (defArgs s_eNotCounts) (defBody s_eNotCounts) (defScope s_eNotCounts) .none kV_eNotCounts dc_eNotCounts pm_eNotCounts an_eNotCounts cd_eNotCounts ct_eNotCounts), sl_eNotCounts⟩)
    (c_eNotCounts : PySem.W.codeIn K cd_eNotCounts "NotCounts.__init__" = true)
    (k_eNotCounts : PySem.W.keepIn K (.ref fa_eNotCounts) = true)
    (a_eInvalidTick : PySem.W.findIn K (.ref x_InvalidTick) "__init__" = some (some (.ref fa_eInvalidTick)))
    (i_eInvalidTick : PySem.W.isFn K (.ref fa_eInvalidTick) = true)
    (l_eInvalidTick : K.lookup fa_eInvalidTick = some ⟨oc_eInvalidTick, od_eInvalidTick, .func (PySem.W.fnOf "__init__" "InvalidTick.__init__" (defArgs s_eInvalidTick) (defBody s_eInvalidTick) (defScope s_eInvalidTick) .none kV_eInvalidTick dc_eInvalidTick pm_eInvalidTick an_eInvalidTick cd_eInvalidTick ct_eInvalidTick), sl_eInvalidTick⟩)
    (c_eInvalidTick : PySem.W.codeIn K cd_eInvalidTick "InvalidTick.__init__" = true)
    (k_eInvalidTick : PySem.W.keepIn K (.ref fa_eInvalidTick) = true)
    (a_eInvalidNumber : PySem.W.findIn K (.ref x_InvalidNumber) "__init__" = some (some (.ref fa_eInvalidNumber)))
    (i_eInvalidNumber : PySem.W.isFn K (.ref fa_eInvalidNumber) = true)
    (l_eInvalidNumber : K.lookup fa_eInvalidNumber = some ⟨oc_eInvalidNumber, od_eInvalidNumber, .func (PySem.W.fnOf "__init__" "InvalidNumber.__init__" (defArgs s_eInvalidNumber) (defBody s_eInvalidNumber) (defScope s_eInvalidNumber) .none kV_eInvalidNumber dc_eInvalidNumber pm_eInvalidNumber an_eInvalidNumber cd_eInvalidNumber ct_eInvalidNumber), sl_eInvalidNumber⟩)
    (c_eInvalidNumber : PySem.W.codeIn K cd_eInvalidNumber "InvalidNumber.__init__" = true)
    (k_eInvalidNumber : PySem.W.keepIn K (.ref fa_eInvalidNumber) = true)
    (a_eInvalidText : PySem.W.findIn K (.ref x_InvalidText) "__init__" = some (some (.ref fa_eInvalidText)))
    (i_eInvalidText : PySem.W.isFn K (.ref fa_eInvalidText) = true)
    (l_eInvalidText : K.lookup fa_eInvalidText = some ⟨oc_eInvalidText, od_eInvalidText, .func (PySem.W.fnOf "__init__" "InvalidText.__init__" (defArgs s_eInvalidText) (defBody s_eInvalidText) (defScope s_eInvalidText) .none kV_eInvalidText dc_eInvalidText pm_eInvalidText an_eInvalidText cd_eInvalidText ct_eInvalidText), sl_eInvalidText⟩)
    (c_eInvalidText : PySem.W.codeIn K cd_eInvalidText "InvalidText.__init__" = true)
    (k_eInvalidText : PySem.W.keepIn K (.ref fa_eInvalidText) = true)
    (a_eInvalidStay : PySem.W.findIn K (.ref x_InvalidStay) "__init__" = some (some (.ref fa_eInvalidStay)))
    (i_eInvalidStay : PySem.W.isFn K (.ref fa_eInvalidStay) = true)
    (l_eInvalidStay : K.lookup fa_eInvalidStay = some ⟨oc_eInvalidStay, od_eInvalidStay, .func (PySem.W.fnOf "__init__" "InvalidStay.__init__" (defArgs s_eInvalidStay) (defBody s_eInvalidStay) (defScope s_eInvalidStay) .none kV_eInvalidStay dc_eInvalidStay pm_eInvalidStay an_eInvalidStay cd_eInvalidStay ct_eInvalidStay), sl_eInvalidStay⟩)
    (c_eInvalidStay : PySem.W.codeIn K cd_eInvalidStay "InvalidStay.__init__" = true)
    (k_eInvalidStay : PySem.W.keepIn K (.ref fa_eInvalidStay) = true)
    (a_eInvalidHistory : PySem.W.findIn K (.ref x_InvalidHistory) "__init__" = some (some (.ref fa_eInvalidHistory)))
    (i_eInvalidHistory : PySem.W.isFn K (.ref fa_eInvalidHistory) = true)
    (l_eInvalidHistory : K.lookup fa_eInvalidHistory = some ⟨oc_eInvalidHistory, od_eInvalidHistory, .func (PySem.W.fnOf "__init__" "InvalidHistory.__init__" (defArgs s_eInvalidHistory) (defBody s_eInvalidHistory) (defScope s_eInvalidHistory) .none kV_eInvalidHistory dc_eInvalidHistory pm_eInvalidHistory an_eInvalidHistory cd_eInvalidHistory ct_eInvalidHistory), sl_eInvalidHistory⟩)
    (c_eInvalidHistory : PySem.W.codeIn K cd_eInvalidHistory "InvalidHistory.__init__" = true)
    (k_eInvalidHistory : PySem.W.keepIn K (.ref fa_eInvalidHistory) = true)
    (a_eInvalidName : PySem.W.findIn K (.ref x_InvalidName) "__init__" = some (some (.ref fa_eInvalidName)))
    (i_eInvalidName : PySem.W.isFn K (.ref fa_eInvalidName) = true)
    (l_eInvalidName : K.lookup fa_eInvalidName = some ⟨oc_eInvalidName, od_eInvalidName, .func (PySem.W.fnOf "__init__" "InvalidName.__init__" (defArgs s_eInvalidName) (defBody s_eInvalidName) (defScope s_eInvalidName) .none kV_eInvalidName dc_eInvalidName pm_eInvalidName an_eInvalidName cd_eInvalidName ct_eInvalidName), sl_eInvalidName⟩)
    (c_eInvalidName : PySem.W.codeIn K cd_eInvalidName "InvalidName.__init__" = true)
    (k_eInvalidName : PySem.W.keepIn K (.ref fa_eInvalidName) = true)
    (a_eInvalidLength : PySem.W.findIn K (.ref x_InvalidLength) "__init__" = some (some (.ref fa_eInvalidLength)))
    (i_eInvalidLength : PySem.W.isFn K (.ref fa_eInvalidLength) = true)
    (l_eInvalidLength : K.lookup fa_eInvalidLength = some ⟨oc_eInvalidLength, od_eInvalidLength, .func (PySem.W.fnOf "__init__" "InvalidLength.__init__" (defArgs s_eInvalidLength) (defBody s_eInvalidLength) (defScope s_eInvalidLength) .none kV_eInvalidLength dc_eInvalidLength pm_eInvalidLength an_eInvalidLength cd_eInvalidLength ct_eInvalidLength), sl_eInvalidLength⟩)
    (c_eInvalidLength : PySem.W.codeIn K cd_eInvalidLength "InvalidLength.__init__" = true)
    (k_eInvalidLength : PySem.W.keepIn K (.ref fa_eInvalidLength) = true)
    (a_eInvalidDoors : PySem.W.findIn K (.ref x_InvalidDoors) "__init__" = some (some (.ref fa_eInvalidDoors)))
    (i_eInvalidDoors : PySem.W.isFn K (.ref fa_eInvalidDoors) = true)
    (l_eInvalidDoors : K.lookup fa_eInvalidDoors = some ⟨oc_eInvalidDoors, od_eInvalidDoors, .func (PySem.W.fnOf "__init__" "InvalidDoors.__init__" (defArgs s_eInvalidDoors) (defBody s_eInvalidDoors) (defScope s_eInvalidDoors) .none kV_eInvalidDoors dc_eInvalidDoors pm_eInvalidDoors an_eInvalidDoors cd_eInvalidDoors ct_eInvalidDoors), sl_eInvalidDoors⟩)
    (c_eInvalidDoors : PySem.W.codeIn K cd_eInvalidDoors "InvalidDoors.__init__" = true)
    (k_eInvalidDoors : PySem.W.keepIn K (.ref fa_eInvalidDoors) = true)
    (a_eInvalidDeed : PySem.W.findIn K (.ref x_InvalidDeed) "__init__" = some (some (.ref fa_eInvalidDeed)))
    (i_eInvalidDeed : PySem.W.isFn K (.ref fa_eInvalidDeed) = true)
    (l_eInvalidDeed : K.lookup fa_eInvalidDeed = some ⟨oc_eInvalidDeed, od_eInvalidDeed, .func (PySem.W.fnOf "__init__" "InvalidDeed.__init__" (defArgs s_eInvalidDeed) (defBody s_eInvalidDeed) (defScope s_eInvalidDeed) .none kV_eInvalidDeed dc_eInvalidDeed pm_eInvalidDeed an_eInvalidDeed cd_eInvalidDeed ct_eInvalidDeed), sl_eInvalidDeed⟩)
    (c_eInvalidDeed : PySem.W.codeIn K cd_eInvalidDeed "InvalidDeed.__init__" = true)
    (k_eInvalidDeed : PySem.W.keepIn K (.ref fa_eInvalidDeed) = true)
    (a_eInvalidCommand : PySem.W.findIn K (.ref x_InvalidCommand) "__init__" = some (some (.ref fa_eInvalidCommand)))
    (i_eInvalidCommand : PySem.W.isFn K (.ref fa_eInvalidCommand) = true)
    (l_eInvalidCommand : K.lookup fa_eInvalidCommand = some ⟨oc_eInvalidCommand, od_eInvalidCommand, .func (PySem.W.fnOf "__init__" "InvalidCommand.__init__" (defArgs s_eInvalidCommand) (defBody s_eInvalidCommand) (defScope s_eInvalidCommand) .none kV_eInvalidCommand dc_eInvalidCommand pm_eInvalidCommand an_eInvalidCommand cd_eInvalidCommand ct_eInvalidCommand), sl_eInvalidCommand⟩)
    (c_eInvalidCommand : PySem.W.codeIn K cd_eInvalidCommand "InvalidCommand.__init__" = true)
    (k_eInvalidCommand : PySem.W.keepIn K (.ref fa_eInvalidCommand) = true)
    (a_eImpossible : PySem.W.findIn K (.ref x_Impossible) "__init__" = some (some (.ref fa_eImpossible)))
    (i_eImpossible : PySem.W.isFn K (.ref fa_eImpossible) = true)
    (l_eImpossible : K.lookup fa_eImpossible = some ⟨oc_eImpossible, od_eImpossible, .func (PySem.W.fnOf "__init__" "Impossible.__init__" (defArgs s_eImpossible) (defBody s_eImpossible) (defScope s_eImpossible) .none kV_eImpossible dc_eImpossible pm_eImpossible an_eImpossible cd_eImpossible ct_eImpossible), sl_eImpossible⟩)
    (c_eImpossible : PySem.W.codeIn K cd_eImpossible "Impossible.__init__" = true)
    (k_eImpossible : PySem.W.keepIn K (.ref fa_eImpossible) = true)
    (a_eNotKnown : PySem.W.findIn K (.ref x_NotKnown) "__init__" = some (some (.ref fa_eNotKnown)))
    (i_eNotKnown : PySem.W.isFn K (.ref fa_eNotKnown) = true)
    (l_eNotKnown : K.lookup fa_eNotKnown = some ⟨oc_eNotKnown, od_eNotKnown, .func (PySem.W.fnOf "__init__" "NotKnown.__init__" (defArgs s_eNotKnown) (defBody s_eNotKnown) (defScope s_eNotKnown) .none kV_eNotKnown dc_eNotKnown pm_eNotKnown an_eNotKnown cd_eNotKnown ct_eNotKnown), sl_eNotKnown⟩)
    (c_eNotKnown : PySem.W.codeIn K cd_eNotKnown "NotKnown.__init__" = true)
    (k_eNotKnown : PySem.W.keepIn K (.ref fa_eNotKnown) = true)
    (a_eTooMany : PySem.W.findIn K (.ref x_TooMany) "__init__" = some (some (.ref fa_eTooMany)))
    (i_eTooMany : PySem.W.isFn K (.ref fa_eTooMany) = true)
    (l_eTooMany : K.lookup fa_eTooMany = some ⟨oc_eTooMany, od_eTooMany, .func (PySem.W.fnOf "__init__" "TooMany.__init__" (defArgs s_eTooMany) (defBody s_eTooMany) (defScope s_eTooMany) .none kV_eTooMany dc_eTooMany pm_eTooMany an_eTooMany cd_eTooMany ct_eTooMany), sl_eTooMany⟩)
    (c_eTooMany : PySem.W.codeIn K cd_eTooMany "TooMany.__init__" = true)
    (k_eTooMany : PySem.W.keepIn K (.ref fa_eTooMany) = true)
    (a_ii : PySem.W.nsIn K mainGlobals "is_integer_from" = some (some (.ref fa_ii)))
    (l_ii : K.lookup fa_ii = some ⟨oc_ii, od_ii, .func (PySem.W.fnOf "is_integer_from" "is_integer_from" (defArgs s_ii) (defBody s_ii) (defScope s_ii) .none kV_ii dc_ii pm_ii an_ii cd_ii ct_ii), sl_ii⟩)
    (c_ii : PySem.W.codeIn K cd_ii "is_integer_from" = true)
    (k_ii : PySem.W.keepIn K (.ref fa_ii) = true)
    (a_cl : PySem.W.nsIn K mainGlobals "_check_lengths" = some (some (.ref fa_cl)))
    (l_cl : K.lookup fa_cl = some ⟨oc_cl, od_cl, .func (PySem.W.fnOf "_check_lengths" "_check_lengths" (defArgs s_cl) (defBody s_cl) (defScope s_cl) .none kV_cl dc_cl pm_cl an_cl cd_cl ct_cl), sl_cl⟩)
    (c_cl : PySem.W.codeIn K cd_cl "_check_lengths" = true)
    (k_cl : PySem.W.keepIn K (.ref fa_cl) = true)
    (a_inu : PySem.W.nsIn K mainGlobals "_is_number" = some (some (.ref fa_inu)))
    (l_inu : K.lookup fa_inu = some ⟨oc_inu, od_inu, .func (PySem.W.fnOf "_is_number" "_is_number" (defArgs s_inu) (defBody s_inu) (defScope s_inu) .none kV_inu dc_inu pm_inu an_inu cd_inu ct_inu), sl_inu⟩)
    (c_inu : PySem.W.codeIn K cd_inu "_is_number" = true)
    (k_inu : PySem.W.keepIn K (.ref fa_inu) = true)
    (a_cn : PySem.W.nsIn K mainGlobals "_check_numbers" = some (some (.ref fa_cn)))
    (l_cn : K.lookup fa_cn = some ⟨oc_cn, od_cn, .func (PySem.W.fnOf "_check_numbers" "_check_numbers" (defArgs s_cn) (defBody s_cn) (defScope s_cn) .none kV_cn dc_cn pm_cn an_cn cd_cn ct_cn), sl_cn⟩)
    (c_cn : PySem.W.codeIn K cd_cn "_check_numbers" = true)
    (k_cn : PySem.W.keepIn K (.ref fa_cn) = true)
    (a_ini : PySem.W.findIn K (.ref C) "__init__" = some (some (.ref fa_ini)))
    (i_ini : PySem.W.isFn K (.ref fa_ini) = true)
    (l_ini : K.lookup fa_ini = some ⟨oc_ini, od_ini, .func (PySem.W.fnOf "__init__" "Counts.__init__" (defArgs s_ini) (defBody s_ini) (defScope s_ini) .none kV_ini dc_ini pm_ini an_ini cd_ini ct_ini), sl_ini⟩)
    (c_ini : PySem.W.codeIn K cd_ini "Counts.__init__" = true)
    (k_ini : PySem.W.keepIn K (.ref fa_ini) = true)
    (a_cell : PySem.W.nsIn K mainGlobals "_law_cell" = some (some (.ref fa_cell)))
    (l_cell : K.lookup fa_cell = some ⟨oc_cell, od_cell, .func (PySem.W.fnOf "_law_cell" "_law_cell" (defArgs s_cell) (defBody s_cell) (defScope s_cell) .none kV_cell dc_cell pm_cell an_cell cd_cell ct_cell), sl_cell⟩)
    (c_cell : PySem.W.codeIn K cd_cell "_law_cell" = true)
    (k_cell : PySem.W.keepIn K (.ref fa_cell) = true)
    (a_pool : PySem.W.nsIn K mainGlobals "_law_pool" = some (some (.ref fa_pool)))
    (l_pool : K.lookup fa_pool = some ⟨oc_pool, od_pool, .func (PySem.W.fnOf "_law_pool" "_law_pool" (defArgs s_pool) (defBody s_pool) (defScope s_pool) .none kV_pool dc_pool pm_pool an_pool cd_pool ct_pool), sl_pool⟩)
    (c_pool : PySem.W.codeIn K cd_pool "_law_pool" = true)
    (k_pool : PySem.W.keepIn K (.ref fa_pool) = true)
    (a_draw : PySem.W.nsIn K mainGlobals "_law_draw" = some (some (.ref fa_draw)))
    (l_draw : K.lookup fa_draw = some ⟨oc_draw, od_draw, .func (PySem.W.fnOf "_law_draw" "_law_draw" (defArgs s_draw) (defBody s_draw) (defScope s_draw) .none kV_draw dc_draw pm_draw an_draw cd_draw ct_draw), sl_draw⟩)
    (c_draw : PySem.W.codeIn K cd_draw "_law_draw" = true)
    (k_draw : PySem.W.keepIn K (.ref fa_draw) = true)
    (a_error : PySem.W.nsIn K mainGlobals "_law_error" = some (some (.ref fa_error)))
    (l_error : K.lookup fa_error = some ⟨oc_error, od_error, .func (PySem.W.fnOf "_law_error" "_law_error" (defArgs s_error) (defBody s_error) (defScope s_error) .none kV_error dc_error pm_error an_error cd_error ct_error), sl_error⟩)
    (c_error : PySem.W.codeIn K cd_error "_law_error" = true)
    (k_error : PySem.W.keepIn K (.ref fa_error) = true)
    (a_made : PySem.W.nsIn K mainGlobals "_law_made" = some (some (.ref fa_made)))
    (l_made : K.lookup fa_made = some ⟨oc_made, od_made, .func (PySem.W.fnOf "_law_made" "_law_made" (defArgs s_made) (defBody s_made) (defScope s_made) .none kV_made dc_made pm_made an_made cd_made ct_made), sl_made⟩)
    (c_made : PySem.W.codeIn K cd_made "_law_made" = true)
    (k_made : PySem.W.keepIn K (.ref fa_made) = true)
    (a_fields : PySem.W.nsIn K mainGlobals "_law_fields" = some (some (.ref fa_fields)))
    (l_fields : K.lookup fa_fields = some ⟨oc_fields, od_fields, .func (PySem.W.fnOf "_law_fields" "_law_fields" (defArgs s_fields) (defBody s_fields) (defScope s_fields) .none kV_fields dc_fields pm_fields an_fields cd_fields ct_fields), sl_fields⟩)
    (c_fields : PySem.W.codeIn K cd_fields "_law_fields" = true)
    (k_fields : PySem.W.keepIn K (.ref fa_fields) = true)
    (a_right : PySem.W.nsIn K mainGlobals "_law_right" = some (some (.ref fa_right)))
    (l_right : K.lookup fa_right = some ⟨oc_right, od_right, .func (PySem.W.fnOf "_law_right" "_law_right" (defArgs s_right) (defBody s_right) (defScope s_right) .none kV_right dc_right pm_right an_right cd_right ct_right), sl_right⟩)
    (c_right : PySem.W.codeIn K cd_right "_law_right" = true)
    (k_right : PySem.W.keepIn K (.ref fa_right) = true)
    (a_law : PySem.W.nsIn K mainGlobals "law" = some (some (.ref fa_law)))
    (l_law : K.lookup fa_law = some ⟨oc_law, od_law, .func (PySem.W.fnOf "law" "law" (defArgs s_law) (defBody s_law) (defScope s_law) .none kV_law dc_law pm_law an_law cd_law ct_law), sl_law⟩)
    (c_law : PySem.W.codeIn K cd_law "law" = true)
    (k_law : PySem.W.keepIn K (.ref fa_law) = true)
    (pg : PySem.W.plainGet K C Str.empty = true)
    (hd : PySem.W.hasDictIn K C = true)
    (po : PySem.W.plainOver K C = true)
    (sa : PySem.W.findIn K (.ref C) "__setattr__" = some (some (.builtin "object.__setattr__")))
    (mk : PySem.W.makesIn K C = true)
    (kc : PySem.W.keepIn K (.ref C) = true)
    (rd : PySem.W.readsIn K C (.type "type") = true)
    (ga : PySem.W.specialIn K (.ref C) "__getattribute__" = some (some (.builtin "type.__getattribute__")))
    (ha : PySem.W.findIn K (.ref C) "__class__" = some (some (.builtin "object.__class__")))
    (hn : PySem.W.specialIn K (.builtin "object.__class__") "__get__" = some (some (.builtin "getset_descriptor.__get__")))
    (tk : PySem.W.takesIn K (.builtin "object.__class__") = some true)
    (mr : PySem.W.mroIn K C (.type "object") = some true)
    (ty : PySem.W.typeIn K (.ref C) = some (.type "type"))
    (bt_bool : PySem.W.mroIn K C (.type "bool") = some false)
    (bt_int : PySem.W.mroIn K C (.type "int") = some false)
    (bt_str : PySem.W.mroIn K C (.type "str") = some false)
    (bt_tuple : PySem.W.mroIn K C (.type "tuple") = some false)
    (bt_list : PySem.W.mroIn K C (.type "list") = some false)
    (bt_dict : PySem.W.mroIn K C (.type "dict") = some false)
    (na_arrivals : PySem.W.findIn K (.ref C) "arrivals" = some none)
    (na_departures : PySem.W.findIn K (.ref C) "departures" = some none)
    (cv_MAX_TICKS : PySem.W.findCls K (.ref C) (.type "type") "MAX_TICKS" = some (.val (.int 60 tk_MAX_TICKS)))
    (cv_MAX_PEOPLE : PySem.W.findCls K (.ref C) (.type "type") "MAX_PEOPLE" = some (.val (.int 999 tk_MAX_PEOPLE)))
    (ic_MAX_TICKS : PySem.W.findIn K (.ref C) "MAX_TICKS" = some (some (.int 60 tl_MAX_TICKS)))
    (ig_MAX_TICKS : PySem.W.specialIn K (.int 60 tl_MAX_TICKS) "__get__" = some none)
    (ic_MAX_PEOPLE : PySem.W.findIn K (.ref C) "MAX_PEOPLE" = some (some (.int 999 tl_MAX_PEOPLE)))
    (ig_MAX_PEOPLE : PySem.W.specialIn K (.int 999 tl_MAX_PEOPLE) "__get__" = some none)
    (z_isinstance : PySem.W.nsIn K mainGlobals "isinstance" = some none)
    (z_len : PySem.W.nsIn K mainGlobals "len" = some none)
    (z_int : PySem.W.nsIn K mainGlobals "int" = some none)
    (z_bool : PySem.W.nsIn K mainGlobals "bool" = some none)
    (z_tuple : PySem.W.nsIn K mainGlobals "tuple" = some none)
    (z_list : PySem.W.nsIn K mainGlobals "list" = some none)
    (z_str : PySem.W.nsIn K mainGlobals "str" = some none)
    (z_enumerate : PySem.W.nsIn K mainGlobals "enumerate" = some none)
    (z_zip : PySem.W.nsIn K mainGlobals "zip" = some none)
    (z_range : PySem.W.nsIn K mainGlobals "range" = some none)
    (z_min : PySem.W.nsIn K mainGlobals "min" = some none)
    (z_max : PySem.W.nsIn K mainGlobals "max" = some none)
    (z_repr : PySem.W.nsIn K mainGlobals "repr" = some none)
    (z_all : PySem.W.nsIn K mainGlobals "all" = some none)
    (z_divmod : PySem.W.nsIn K mainGlobals "divmod" = some none)
    (z_abs : PySem.W.nsIn K mainGlobals "abs" = some none)
    (z_sum : PySem.W.nsIn K mainGlobals "sum" = some none)
    (z_ValueError : PySem.W.nsIn K mainGlobals "ValueError" = some none)
    (z_LookupError : PySem.W.nsIn K mainGlobals "LookupError" = some none)
    (z_ArithmeticError : PySem.W.nsIn K mainGlobals "ArithmeticError" = some none)
    (xhd_InvalidCounts : PySem.W.hasDictIn K x_InvalidCounts = true)
    (xty_InvalidCounts : PySem.W.typeIn K (.ref x_InvalidCounts) = some (.type "type"))
    (xbe_InvalidCounts : PySem.W.mroIn K x_InvalidCounts (.type "BaseException") = some true)
    (xm_InvalidCounts_InvalidCounts : PySem.W.mroIn K x_InvalidCounts (.ref x_InvalidCounts) = some true)
    (xm_NotCounts_InvalidCounts : PySem.W.mroIn K x_NotCounts (.ref x_InvalidCounts) = some false)
    (xm_InvalidTick_InvalidCounts : PySem.W.mroIn K x_InvalidTick (.ref x_InvalidCounts) = some false)
    (xm_InvalidNumber_InvalidCounts : PySem.W.mroIn K x_InvalidNumber (.ref x_InvalidCounts) = some false)
    (xm_InvalidText_InvalidCounts : PySem.W.mroIn K x_InvalidText (.ref x_InvalidCounts) = some false)
    (xm_InvalidStay_InvalidCounts : PySem.W.mroIn K x_InvalidStay (.ref x_InvalidCounts) = some false)
    (xm_InvalidHistory_InvalidCounts : PySem.W.mroIn K x_InvalidHistory (.ref x_InvalidCounts) = some false)
    (xm_InvalidName_InvalidCounts : PySem.W.mroIn K x_InvalidName (.ref x_InvalidCounts) = some false)
    (xm_InvalidLength_InvalidCounts : PySem.W.mroIn K x_InvalidLength (.ref x_InvalidCounts) = some false)
    (xm_InvalidDoors_InvalidCounts : PySem.W.mroIn K x_InvalidDoors (.ref x_InvalidCounts) = some false)
    (xm_InvalidDeed_InvalidCounts : PySem.W.mroIn K x_InvalidDeed (.ref x_InvalidCounts) = some false)
    (xm_InvalidCommand_InvalidCounts : PySem.W.mroIn K x_InvalidCommand (.ref x_InvalidCounts) = some false)
    (xm_Impossible_InvalidCounts : PySem.W.mroIn K x_Impossible (.ref x_InvalidCounts) = some false)
    (xm_NotKnown_InvalidCounts : PySem.W.mroIn K x_NotKnown (.ref x_InvalidCounts) = some false)
    (xm_LimitBroken_InvalidCounts : PySem.W.mroIn K x_LimitBroken (.ref x_InvalidCounts) = some false)
    (xm_NothingToUndo_InvalidCounts : PySem.W.mroIn K x_NothingToUndo (.ref x_InvalidCounts) = some false)
    (xm_TooMany_InvalidCounts : PySem.W.mroIn K x_TooMany (.ref x_InvalidCounts) = some false)
    (xhd_NotCounts : PySem.W.hasDictIn K x_NotCounts = true)
    (xty_NotCounts : PySem.W.typeIn K (.ref x_NotCounts) = some (.type "type"))
    (xbe_NotCounts : PySem.W.mroIn K x_NotCounts (.type "BaseException") = some true)
    (xm_InvalidCounts_NotCounts : PySem.W.mroIn K x_InvalidCounts (.ref x_NotCounts) = some false)
    (xm_NotCounts_NotCounts : PySem.W.mroIn K x_NotCounts (.ref x_NotCounts) = some true)
    (xm_InvalidTick_NotCounts : PySem.W.mroIn K x_InvalidTick (.ref x_NotCounts) = some false)
    (xm_InvalidNumber_NotCounts : PySem.W.mroIn K x_InvalidNumber (.ref x_NotCounts) = some false)
    (xm_InvalidText_NotCounts : PySem.W.mroIn K x_InvalidText (.ref x_NotCounts) = some false)
    (xm_InvalidStay_NotCounts : PySem.W.mroIn K x_InvalidStay (.ref x_NotCounts) = some false)
    (xm_InvalidHistory_NotCounts : PySem.W.mroIn K x_InvalidHistory (.ref x_NotCounts) = some false)
    (xm_InvalidName_NotCounts : PySem.W.mroIn K x_InvalidName (.ref x_NotCounts) = some false)
    (xm_InvalidLength_NotCounts : PySem.W.mroIn K x_InvalidLength (.ref x_NotCounts) = some false)
    (xm_InvalidDoors_NotCounts : PySem.W.mroIn K x_InvalidDoors (.ref x_NotCounts) = some false)
    (xm_InvalidDeed_NotCounts : PySem.W.mroIn K x_InvalidDeed (.ref x_NotCounts) = some false)
    (xm_InvalidCommand_NotCounts : PySem.W.mroIn K x_InvalidCommand (.ref x_NotCounts) = some false)
    (xm_Impossible_NotCounts : PySem.W.mroIn K x_Impossible (.ref x_NotCounts) = some false)
    (xm_NotKnown_NotCounts : PySem.W.mroIn K x_NotKnown (.ref x_NotCounts) = some false)
    (xm_LimitBroken_NotCounts : PySem.W.mroIn K x_LimitBroken (.ref x_NotCounts) = some false)
    (xm_NothingToUndo_NotCounts : PySem.W.mroIn K x_NothingToUndo (.ref x_NotCounts) = some false)
    (xm_TooMany_NotCounts : PySem.W.mroIn K x_TooMany (.ref x_NotCounts) = some false)
    (xhd_InvalidTick : PySem.W.hasDictIn K x_InvalidTick = true)
    (xty_InvalidTick : PySem.W.typeIn K (.ref x_InvalidTick) = some (.type "type"))
    (xbe_InvalidTick : PySem.W.mroIn K x_InvalidTick (.type "BaseException") = some true)
    (xm_InvalidCounts_InvalidTick : PySem.W.mroIn K x_InvalidCounts (.ref x_InvalidTick) = some false)
    (xm_NotCounts_InvalidTick : PySem.W.mroIn K x_NotCounts (.ref x_InvalidTick) = some false)
    (xm_InvalidTick_InvalidTick : PySem.W.mroIn K x_InvalidTick (.ref x_InvalidTick) = some true)
    (xm_InvalidNumber_InvalidTick : PySem.W.mroIn K x_InvalidNumber (.ref x_InvalidTick) = some false)
    (xm_InvalidText_InvalidTick : PySem.W.mroIn K x_InvalidText (.ref x_InvalidTick) = some false)
    (xm_InvalidStay_InvalidTick : PySem.W.mroIn K x_InvalidStay (.ref x_InvalidTick) = some false)
    (xm_InvalidHistory_InvalidTick : PySem.W.mroIn K x_InvalidHistory (.ref x_InvalidTick) = some false)
    (xm_InvalidName_InvalidTick : PySem.W.mroIn K x_InvalidName (.ref x_InvalidTick) = some false)
    (xm_InvalidLength_InvalidTick : PySem.W.mroIn K x_InvalidLength (.ref x_InvalidTick) = some false)
    (xm_InvalidDoors_InvalidTick : PySem.W.mroIn K x_InvalidDoors (.ref x_InvalidTick) = some false)
    (xm_InvalidDeed_InvalidTick : PySem.W.mroIn K x_InvalidDeed (.ref x_InvalidTick) = some false)
    (xm_InvalidCommand_InvalidTick : PySem.W.mroIn K x_InvalidCommand (.ref x_InvalidTick) = some false)
    (xm_Impossible_InvalidTick : PySem.W.mroIn K x_Impossible (.ref x_InvalidTick) = some false)
    (xm_NotKnown_InvalidTick : PySem.W.mroIn K x_NotKnown (.ref x_InvalidTick) = some false)
    (xm_LimitBroken_InvalidTick : PySem.W.mroIn K x_LimitBroken (.ref x_InvalidTick) = some false)
    (xm_NothingToUndo_InvalidTick : PySem.W.mroIn K x_NothingToUndo (.ref x_InvalidTick) = some false)
    (xm_TooMany_InvalidTick : PySem.W.mroIn K x_TooMany (.ref x_InvalidTick) = some false)
    (xhd_InvalidNumber : PySem.W.hasDictIn K x_InvalidNumber = true)
    (xty_InvalidNumber : PySem.W.typeIn K (.ref x_InvalidNumber) = some (.type "type"))
    (xbe_InvalidNumber : PySem.W.mroIn K x_InvalidNumber (.type "BaseException") = some true)
    (xm_InvalidCounts_InvalidNumber : PySem.W.mroIn K x_InvalidCounts (.ref x_InvalidNumber) = some false)
    (xm_NotCounts_InvalidNumber : PySem.W.mroIn K x_NotCounts (.ref x_InvalidNumber) = some false)
    (xm_InvalidTick_InvalidNumber : PySem.W.mroIn K x_InvalidTick (.ref x_InvalidNumber) = some false)
    (xm_InvalidNumber_InvalidNumber : PySem.W.mroIn K x_InvalidNumber (.ref x_InvalidNumber) = some true)
    (xm_InvalidText_InvalidNumber : PySem.W.mroIn K x_InvalidText (.ref x_InvalidNumber) = some false)
    (xm_InvalidStay_InvalidNumber : PySem.W.mroIn K x_InvalidStay (.ref x_InvalidNumber) = some false)
    (xm_InvalidHistory_InvalidNumber : PySem.W.mroIn K x_InvalidHistory (.ref x_InvalidNumber) = some false)
    (xm_InvalidName_InvalidNumber : PySem.W.mroIn K x_InvalidName (.ref x_InvalidNumber) = some false)
    (xm_InvalidLength_InvalidNumber : PySem.W.mroIn K x_InvalidLength (.ref x_InvalidNumber) = some false)
    (xm_InvalidDoors_InvalidNumber : PySem.W.mroIn K x_InvalidDoors (.ref x_InvalidNumber) = some false)
    (xm_InvalidDeed_InvalidNumber : PySem.W.mroIn K x_InvalidDeed (.ref x_InvalidNumber) = some false)
    (xm_InvalidCommand_InvalidNumber : PySem.W.mroIn K x_InvalidCommand (.ref x_InvalidNumber) = some false)
    (xm_Impossible_InvalidNumber : PySem.W.mroIn K x_Impossible (.ref x_InvalidNumber) = some false)
    (xm_NotKnown_InvalidNumber : PySem.W.mroIn K x_NotKnown (.ref x_InvalidNumber) = some false)
    (xm_LimitBroken_InvalidNumber : PySem.W.mroIn K x_LimitBroken (.ref x_InvalidNumber) = some false)
    (xm_NothingToUndo_InvalidNumber : PySem.W.mroIn K x_NothingToUndo (.ref x_InvalidNumber) = some false)
    (xm_TooMany_InvalidNumber : PySem.W.mroIn K x_TooMany (.ref x_InvalidNumber) = some false)
    (xhd_InvalidText : PySem.W.hasDictIn K x_InvalidText = true)
    (xty_InvalidText : PySem.W.typeIn K (.ref x_InvalidText) = some (.type "type"))
    (xbe_InvalidText : PySem.W.mroIn K x_InvalidText (.type "BaseException") = some true)
    (xm_InvalidCounts_InvalidText : PySem.W.mroIn K x_InvalidCounts (.ref x_InvalidText) = some false)
    (xm_NotCounts_InvalidText : PySem.W.mroIn K x_NotCounts (.ref x_InvalidText) = some false)
    (xm_InvalidTick_InvalidText : PySem.W.mroIn K x_InvalidTick (.ref x_InvalidText) = some false)
    (xm_InvalidNumber_InvalidText : PySem.W.mroIn K x_InvalidNumber (.ref x_InvalidText) = some false)
    (xm_InvalidText_InvalidText : PySem.W.mroIn K x_InvalidText (.ref x_InvalidText) = some true)
    (xm_InvalidStay_InvalidText : PySem.W.mroIn K x_InvalidStay (.ref x_InvalidText) = some false)
    (xm_InvalidHistory_InvalidText : PySem.W.mroIn K x_InvalidHistory (.ref x_InvalidText) = some false)
    (xm_InvalidName_InvalidText : PySem.W.mroIn K x_InvalidName (.ref x_InvalidText) = some false)
    (xm_InvalidLength_InvalidText : PySem.W.mroIn K x_InvalidLength (.ref x_InvalidText) = some false)
    (xm_InvalidDoors_InvalidText : PySem.W.mroIn K x_InvalidDoors (.ref x_InvalidText) = some false)
    (xm_InvalidDeed_InvalidText : PySem.W.mroIn K x_InvalidDeed (.ref x_InvalidText) = some false)
    (xm_InvalidCommand_InvalidText : PySem.W.mroIn K x_InvalidCommand (.ref x_InvalidText) = some false)
    (xm_Impossible_InvalidText : PySem.W.mroIn K x_Impossible (.ref x_InvalidText) = some false)
    (xm_NotKnown_InvalidText : PySem.W.mroIn K x_NotKnown (.ref x_InvalidText) = some false)
    (xm_LimitBroken_InvalidText : PySem.W.mroIn K x_LimitBroken (.ref x_InvalidText) = some false)
    (xm_NothingToUndo_InvalidText : PySem.W.mroIn K x_NothingToUndo (.ref x_InvalidText) = some false)
    (xm_TooMany_InvalidText : PySem.W.mroIn K x_TooMany (.ref x_InvalidText) = some false)
    (xhd_InvalidStay : PySem.W.hasDictIn K x_InvalidStay = true)
    (xty_InvalidStay : PySem.W.typeIn K (.ref x_InvalidStay) = some (.type "type"))
    (xbe_InvalidStay : PySem.W.mroIn K x_InvalidStay (.type "BaseException") = some true)
    (xm_InvalidCounts_InvalidStay : PySem.W.mroIn K x_InvalidCounts (.ref x_InvalidStay) = some false)
    (xm_NotCounts_InvalidStay : PySem.W.mroIn K x_NotCounts (.ref x_InvalidStay) = some false)
    (xm_InvalidTick_InvalidStay : PySem.W.mroIn K x_InvalidTick (.ref x_InvalidStay) = some false)
    (xm_InvalidNumber_InvalidStay : PySem.W.mroIn K x_InvalidNumber (.ref x_InvalidStay) = some false)
    (xm_InvalidText_InvalidStay : PySem.W.mroIn K x_InvalidText (.ref x_InvalidStay) = some false)
    (xm_InvalidStay_InvalidStay : PySem.W.mroIn K x_InvalidStay (.ref x_InvalidStay) = some true)
    (xm_InvalidHistory_InvalidStay : PySem.W.mroIn K x_InvalidHistory (.ref x_InvalidStay) = some false)
    (xm_InvalidName_InvalidStay : PySem.W.mroIn K x_InvalidName (.ref x_InvalidStay) = some false)
    (xm_InvalidLength_InvalidStay : PySem.W.mroIn K x_InvalidLength (.ref x_InvalidStay) = some false)
    (xm_InvalidDoors_InvalidStay : PySem.W.mroIn K x_InvalidDoors (.ref x_InvalidStay) = some false)
    (xm_InvalidDeed_InvalidStay : PySem.W.mroIn K x_InvalidDeed (.ref x_InvalidStay) = some false)
    (xm_InvalidCommand_InvalidStay : PySem.W.mroIn K x_InvalidCommand (.ref x_InvalidStay) = some false)
    (xm_Impossible_InvalidStay : PySem.W.mroIn K x_Impossible (.ref x_InvalidStay) = some false)
    (xm_NotKnown_InvalidStay : PySem.W.mroIn K x_NotKnown (.ref x_InvalidStay) = some false)
    (xm_LimitBroken_InvalidStay : PySem.W.mroIn K x_LimitBroken (.ref x_InvalidStay) = some false)
    (xm_NothingToUndo_InvalidStay : PySem.W.mroIn K x_NothingToUndo (.ref x_InvalidStay) = some false)
    (xm_TooMany_InvalidStay : PySem.W.mroIn K x_TooMany (.ref x_InvalidStay) = some false)
    (xhd_InvalidHistory : PySem.W.hasDictIn K x_InvalidHistory = true)
    (xty_InvalidHistory : PySem.W.typeIn K (.ref x_InvalidHistory) = some (.type "type"))
    (xbe_InvalidHistory : PySem.W.mroIn K x_InvalidHistory (.type "BaseException") = some true)
    (xm_InvalidCounts_InvalidHistory : PySem.W.mroIn K x_InvalidCounts (.ref x_InvalidHistory) = some false)
    (xm_NotCounts_InvalidHistory : PySem.W.mroIn K x_NotCounts (.ref x_InvalidHistory) = some false)
    (xm_InvalidTick_InvalidHistory : PySem.W.mroIn K x_InvalidTick (.ref x_InvalidHistory) = some false)
    (xm_InvalidNumber_InvalidHistory : PySem.W.mroIn K x_InvalidNumber (.ref x_InvalidHistory) = some false)
    (xm_InvalidText_InvalidHistory : PySem.W.mroIn K x_InvalidText (.ref x_InvalidHistory) = some false)
    (xm_InvalidStay_InvalidHistory : PySem.W.mroIn K x_InvalidStay (.ref x_InvalidHistory) = some false)
    (xm_InvalidHistory_InvalidHistory : PySem.W.mroIn K x_InvalidHistory (.ref x_InvalidHistory) = some true)
    (xm_InvalidName_InvalidHistory : PySem.W.mroIn K x_InvalidName (.ref x_InvalidHistory) = some false)
    (xm_InvalidLength_InvalidHistory : PySem.W.mroIn K x_InvalidLength (.ref x_InvalidHistory) = some false)
    (xm_InvalidDoors_InvalidHistory : PySem.W.mroIn K x_InvalidDoors (.ref x_InvalidHistory) = some false)
    (xm_InvalidDeed_InvalidHistory : PySem.W.mroIn K x_InvalidDeed (.ref x_InvalidHistory) = some false)
    (xm_InvalidCommand_InvalidHistory : PySem.W.mroIn K x_InvalidCommand (.ref x_InvalidHistory) = some false)
    (xm_Impossible_InvalidHistory : PySem.W.mroIn K x_Impossible (.ref x_InvalidHistory) = some false)
    (xm_NotKnown_InvalidHistory : PySem.W.mroIn K x_NotKnown (.ref x_InvalidHistory) = some false)
    (xm_LimitBroken_InvalidHistory : PySem.W.mroIn K x_LimitBroken (.ref x_InvalidHistory) = some false)
    (xm_NothingToUndo_InvalidHistory : PySem.W.mroIn K x_NothingToUndo (.ref x_InvalidHistory) = some false)
    (xm_TooMany_InvalidHistory : PySem.W.mroIn K x_TooMany (.ref x_InvalidHistory) = some false)
    (xhd_InvalidName : PySem.W.hasDictIn K x_InvalidName = true)
    (xty_InvalidName : PySem.W.typeIn K (.ref x_InvalidName) = some (.type "type"))
    (xbe_InvalidName : PySem.W.mroIn K x_InvalidName (.type "BaseException") = some true)
    (xm_InvalidCounts_InvalidName : PySem.W.mroIn K x_InvalidCounts (.ref x_InvalidName) = some false)
    (xm_NotCounts_InvalidName : PySem.W.mroIn K x_NotCounts (.ref x_InvalidName) = some false)
    (xm_InvalidTick_InvalidName : PySem.W.mroIn K x_InvalidTick (.ref x_InvalidName) = some false)
    (xm_InvalidNumber_InvalidName : PySem.W.mroIn K x_InvalidNumber (.ref x_InvalidName) = some false)
    (xm_InvalidText_InvalidName : PySem.W.mroIn K x_InvalidText (.ref x_InvalidName) = some false)
    (xm_InvalidStay_InvalidName : PySem.W.mroIn K x_InvalidStay (.ref x_InvalidName) = some false)
    (xm_InvalidHistory_InvalidName : PySem.W.mroIn K x_InvalidHistory (.ref x_InvalidName) = some false)
    (xm_InvalidName_InvalidName : PySem.W.mroIn K x_InvalidName (.ref x_InvalidName) = some true)
    (xm_InvalidLength_InvalidName : PySem.W.mroIn K x_InvalidLength (.ref x_InvalidName) = some false)
    (xm_InvalidDoors_InvalidName : PySem.W.mroIn K x_InvalidDoors (.ref x_InvalidName) = some false)
    (xm_InvalidDeed_InvalidName : PySem.W.mroIn K x_InvalidDeed (.ref x_InvalidName) = some false)
    (xm_InvalidCommand_InvalidName : PySem.W.mroIn K x_InvalidCommand (.ref x_InvalidName) = some false)
    (xm_Impossible_InvalidName : PySem.W.mroIn K x_Impossible (.ref x_InvalidName) = some false)
    (xm_NotKnown_InvalidName : PySem.W.mroIn K x_NotKnown (.ref x_InvalidName) = some false)
    (xm_LimitBroken_InvalidName : PySem.W.mroIn K x_LimitBroken (.ref x_InvalidName) = some false)
    (xm_NothingToUndo_InvalidName : PySem.W.mroIn K x_NothingToUndo (.ref x_InvalidName) = some false)
    (xm_TooMany_InvalidName : PySem.W.mroIn K x_TooMany (.ref x_InvalidName) = some false)
    (xhd_InvalidLength : PySem.W.hasDictIn K x_InvalidLength = true)
    (xty_InvalidLength : PySem.W.typeIn K (.ref x_InvalidLength) = some (.type "type"))
    (xbe_InvalidLength : PySem.W.mroIn K x_InvalidLength (.type "BaseException") = some true)
    (xm_InvalidCounts_InvalidLength : PySem.W.mroIn K x_InvalidCounts (.ref x_InvalidLength) = some false)
    (xm_NotCounts_InvalidLength : PySem.W.mroIn K x_NotCounts (.ref x_InvalidLength) = some false)
    (xm_InvalidTick_InvalidLength : PySem.W.mroIn K x_InvalidTick (.ref x_InvalidLength) = some false)
    (xm_InvalidNumber_InvalidLength : PySem.W.mroIn K x_InvalidNumber (.ref x_InvalidLength) = some false)
    (xm_InvalidText_InvalidLength : PySem.W.mroIn K x_InvalidText (.ref x_InvalidLength) = some false)
    (xm_InvalidStay_InvalidLength : PySem.W.mroIn K x_InvalidStay (.ref x_InvalidLength) = some false)
    (xm_InvalidHistory_InvalidLength : PySem.W.mroIn K x_InvalidHistory (.ref x_InvalidLength) = some false)
    (xm_InvalidName_InvalidLength : PySem.W.mroIn K x_InvalidName (.ref x_InvalidLength) = some false)
    (xm_InvalidLength_InvalidLength : PySem.W.mroIn K x_InvalidLength (.ref x_InvalidLength) = some true)
    (xm_InvalidDoors_InvalidLength : PySem.W.mroIn K x_InvalidDoors (.ref x_InvalidLength) = some false)
    (xm_InvalidDeed_InvalidLength : PySem.W.mroIn K x_InvalidDeed (.ref x_InvalidLength) = some false)
    (xm_InvalidCommand_InvalidLength : PySem.W.mroIn K x_InvalidCommand (.ref x_InvalidLength) = some false)
    (xm_Impossible_InvalidLength : PySem.W.mroIn K x_Impossible (.ref x_InvalidLength) = some false)
    (xm_NotKnown_InvalidLength : PySem.W.mroIn K x_NotKnown (.ref x_InvalidLength) = some false)
    (xm_LimitBroken_InvalidLength : PySem.W.mroIn K x_LimitBroken (.ref x_InvalidLength) = some false)
    (xm_NothingToUndo_InvalidLength : PySem.W.mroIn K x_NothingToUndo (.ref x_InvalidLength) = some false)
    (xm_TooMany_InvalidLength : PySem.W.mroIn K x_TooMany (.ref x_InvalidLength) = some false)
    (xhd_InvalidDoors : PySem.W.hasDictIn K x_InvalidDoors = true)
    (xty_InvalidDoors : PySem.W.typeIn K (.ref x_InvalidDoors) = some (.type "type"))
    (xbe_InvalidDoors : PySem.W.mroIn K x_InvalidDoors (.type "BaseException") = some true)
    (xm_InvalidCounts_InvalidDoors : PySem.W.mroIn K x_InvalidCounts (.ref x_InvalidDoors) = some false)
    (xm_NotCounts_InvalidDoors : PySem.W.mroIn K x_NotCounts (.ref x_InvalidDoors) = some false)
    (xm_InvalidTick_InvalidDoors : PySem.W.mroIn K x_InvalidTick (.ref x_InvalidDoors) = some false)
    (xm_InvalidNumber_InvalidDoors : PySem.W.mroIn K x_InvalidNumber (.ref x_InvalidDoors) = some false)
    (xm_InvalidText_InvalidDoors : PySem.W.mroIn K x_InvalidText (.ref x_InvalidDoors) = some false)
    (xm_InvalidStay_InvalidDoors : PySem.W.mroIn K x_InvalidStay (.ref x_InvalidDoors) = some false)
    (xm_InvalidHistory_InvalidDoors : PySem.W.mroIn K x_InvalidHistory (.ref x_InvalidDoors) = some false)
    (xm_InvalidName_InvalidDoors : PySem.W.mroIn K x_InvalidName (.ref x_InvalidDoors) = some false)
    (xm_InvalidLength_InvalidDoors : PySem.W.mroIn K x_InvalidLength (.ref x_InvalidDoors) = some false)
    (xm_InvalidDoors_InvalidDoors : PySem.W.mroIn K x_InvalidDoors (.ref x_InvalidDoors) = some true)
    (xm_InvalidDeed_InvalidDoors : PySem.W.mroIn K x_InvalidDeed (.ref x_InvalidDoors) = some false)
    (xm_InvalidCommand_InvalidDoors : PySem.W.mroIn K x_InvalidCommand (.ref x_InvalidDoors) = some false)
    (xm_Impossible_InvalidDoors : PySem.W.mroIn K x_Impossible (.ref x_InvalidDoors) = some false)
    (xm_NotKnown_InvalidDoors : PySem.W.mroIn K x_NotKnown (.ref x_InvalidDoors) = some false)
    (xm_LimitBroken_InvalidDoors : PySem.W.mroIn K x_LimitBroken (.ref x_InvalidDoors) = some false)
    (xm_NothingToUndo_InvalidDoors : PySem.W.mroIn K x_NothingToUndo (.ref x_InvalidDoors) = some false)
    (xm_TooMany_InvalidDoors : PySem.W.mroIn K x_TooMany (.ref x_InvalidDoors) = some false)
    (xhd_InvalidDeed : PySem.W.hasDictIn K x_InvalidDeed = true)
    (xty_InvalidDeed : PySem.W.typeIn K (.ref x_InvalidDeed) = some (.type "type"))
    (xbe_InvalidDeed : PySem.W.mroIn K x_InvalidDeed (.type "BaseException") = some true)
    (xm_InvalidCounts_InvalidDeed : PySem.W.mroIn K x_InvalidCounts (.ref x_InvalidDeed) = some false)
    (xm_NotCounts_InvalidDeed : PySem.W.mroIn K x_NotCounts (.ref x_InvalidDeed) = some false)
    (xm_InvalidTick_InvalidDeed : PySem.W.mroIn K x_InvalidTick (.ref x_InvalidDeed) = some false)
    (xm_InvalidNumber_InvalidDeed : PySem.W.mroIn K x_InvalidNumber (.ref x_InvalidDeed) = some false)
    (xm_InvalidText_InvalidDeed : PySem.W.mroIn K x_InvalidText (.ref x_InvalidDeed) = some false)
    (xm_InvalidStay_InvalidDeed : PySem.W.mroIn K x_InvalidStay (.ref x_InvalidDeed) = some false)
    (xm_InvalidHistory_InvalidDeed : PySem.W.mroIn K x_InvalidHistory (.ref x_InvalidDeed) = some false)
    (xm_InvalidName_InvalidDeed : PySem.W.mroIn K x_InvalidName (.ref x_InvalidDeed) = some false)
    (xm_InvalidLength_InvalidDeed : PySem.W.mroIn K x_InvalidLength (.ref x_InvalidDeed) = some false)
    (xm_InvalidDoors_InvalidDeed : PySem.W.mroIn K x_InvalidDoors (.ref x_InvalidDeed) = some false)
    (xm_InvalidDeed_InvalidDeed : PySem.W.mroIn K x_InvalidDeed (.ref x_InvalidDeed) = some true)
    (xm_InvalidCommand_InvalidDeed : PySem.W.mroIn K x_InvalidCommand (.ref x_InvalidDeed) = some false)
    (xm_Impossible_InvalidDeed : PySem.W.mroIn K x_Impossible (.ref x_InvalidDeed) = some false)
    (xm_NotKnown_InvalidDeed : PySem.W.mroIn K x_NotKnown (.ref x_InvalidDeed) = some false)
    (xm_LimitBroken_InvalidDeed : PySem.W.mroIn K x_LimitBroken (.ref x_InvalidDeed) = some false)
    (xm_NothingToUndo_InvalidDeed : PySem.W.mroIn K x_NothingToUndo (.ref x_InvalidDeed) = some false)
    (xm_TooMany_InvalidDeed : PySem.W.mroIn K x_TooMany (.ref x_InvalidDeed) = some false)
    (xhd_InvalidCommand : PySem.W.hasDictIn K x_InvalidCommand = true)
    (xty_InvalidCommand : PySem.W.typeIn K (.ref x_InvalidCommand) = some (.type "type"))
    (xbe_InvalidCommand : PySem.W.mroIn K x_InvalidCommand (.type "BaseException") = some true)
    (xm_InvalidCounts_InvalidCommand : PySem.W.mroIn K x_InvalidCounts (.ref x_InvalidCommand) = some false)
    (xm_NotCounts_InvalidCommand : PySem.W.mroIn K x_NotCounts (.ref x_InvalidCommand) = some false)
    (xm_InvalidTick_InvalidCommand : PySem.W.mroIn K x_InvalidTick (.ref x_InvalidCommand) = some false)
    (xm_InvalidNumber_InvalidCommand : PySem.W.mroIn K x_InvalidNumber (.ref x_InvalidCommand) = some false)
    (xm_InvalidText_InvalidCommand : PySem.W.mroIn K x_InvalidText (.ref x_InvalidCommand) = some false)
    (xm_InvalidStay_InvalidCommand : PySem.W.mroIn K x_InvalidStay (.ref x_InvalidCommand) = some false)
    (xm_InvalidHistory_InvalidCommand : PySem.W.mroIn K x_InvalidHistory (.ref x_InvalidCommand) = some false)
    (xm_InvalidName_InvalidCommand : PySem.W.mroIn K x_InvalidName (.ref x_InvalidCommand) = some false)
    (xm_InvalidLength_InvalidCommand : PySem.W.mroIn K x_InvalidLength (.ref x_InvalidCommand) = some false)
    (xm_InvalidDoors_InvalidCommand : PySem.W.mroIn K x_InvalidDoors (.ref x_InvalidCommand) = some false)
    (xm_InvalidDeed_InvalidCommand : PySem.W.mroIn K x_InvalidDeed (.ref x_InvalidCommand) = some false)
    (xm_InvalidCommand_InvalidCommand : PySem.W.mroIn K x_InvalidCommand (.ref x_InvalidCommand) = some true)
    (xm_Impossible_InvalidCommand : PySem.W.mroIn K x_Impossible (.ref x_InvalidCommand) = some false)
    (xm_NotKnown_InvalidCommand : PySem.W.mroIn K x_NotKnown (.ref x_InvalidCommand) = some false)
    (xm_LimitBroken_InvalidCommand : PySem.W.mroIn K x_LimitBroken (.ref x_InvalidCommand) = some false)
    (xm_NothingToUndo_InvalidCommand : PySem.W.mroIn K x_NothingToUndo (.ref x_InvalidCommand) = some false)
    (xm_TooMany_InvalidCommand : PySem.W.mroIn K x_TooMany (.ref x_InvalidCommand) = some false)
    (xhd_Impossible : PySem.W.hasDictIn K x_Impossible = true)
    (xty_Impossible : PySem.W.typeIn K (.ref x_Impossible) = some (.type "type"))
    (xbe_Impossible : PySem.W.mroIn K x_Impossible (.type "BaseException") = some true)
    (xm_InvalidCounts_Impossible : PySem.W.mroIn K x_InvalidCounts (.ref x_Impossible) = some false)
    (xm_NotCounts_Impossible : PySem.W.mroIn K x_NotCounts (.ref x_Impossible) = some false)
    (xm_InvalidTick_Impossible : PySem.W.mroIn K x_InvalidTick (.ref x_Impossible) = some false)
    (xm_InvalidNumber_Impossible : PySem.W.mroIn K x_InvalidNumber (.ref x_Impossible) = some false)
    (xm_InvalidText_Impossible : PySem.W.mroIn K x_InvalidText (.ref x_Impossible) = some false)
    (xm_InvalidStay_Impossible : PySem.W.mroIn K x_InvalidStay (.ref x_Impossible) = some false)
    (xm_InvalidHistory_Impossible : PySem.W.mroIn K x_InvalidHistory (.ref x_Impossible) = some false)
    (xm_InvalidName_Impossible : PySem.W.mroIn K x_InvalidName (.ref x_Impossible) = some false)
    (xm_InvalidLength_Impossible : PySem.W.mroIn K x_InvalidLength (.ref x_Impossible) = some false)
    (xm_InvalidDoors_Impossible : PySem.W.mroIn K x_InvalidDoors (.ref x_Impossible) = some false)
    (xm_InvalidDeed_Impossible : PySem.W.mroIn K x_InvalidDeed (.ref x_Impossible) = some false)
    (xm_InvalidCommand_Impossible : PySem.W.mroIn K x_InvalidCommand (.ref x_Impossible) = some false)
    (xm_Impossible_Impossible : PySem.W.mroIn K x_Impossible (.ref x_Impossible) = some true)
    (xm_NotKnown_Impossible : PySem.W.mroIn K x_NotKnown (.ref x_Impossible) = some false)
    (xm_LimitBroken_Impossible : PySem.W.mroIn K x_LimitBroken (.ref x_Impossible) = some false)
    (xm_NothingToUndo_Impossible : PySem.W.mroIn K x_NothingToUndo (.ref x_Impossible) = some false)
    (xm_TooMany_Impossible : PySem.W.mroIn K x_TooMany (.ref x_Impossible) = some false)
    (xhd_NotKnown : PySem.W.hasDictIn K x_NotKnown = true)
    (xty_NotKnown : PySem.W.typeIn K (.ref x_NotKnown) = some (.type "type"))
    (xbe_NotKnown : PySem.W.mroIn K x_NotKnown (.type "BaseException") = some true)
    (xm_InvalidCounts_NotKnown : PySem.W.mroIn K x_InvalidCounts (.ref x_NotKnown) = some false)
    (xm_NotCounts_NotKnown : PySem.W.mroIn K x_NotCounts (.ref x_NotKnown) = some false)
    (xm_InvalidTick_NotKnown : PySem.W.mroIn K x_InvalidTick (.ref x_NotKnown) = some false)
    (xm_InvalidNumber_NotKnown : PySem.W.mroIn K x_InvalidNumber (.ref x_NotKnown) = some false)
    (xm_InvalidText_NotKnown : PySem.W.mroIn K x_InvalidText (.ref x_NotKnown) = some false)
    (xm_InvalidStay_NotKnown : PySem.W.mroIn K x_InvalidStay (.ref x_NotKnown) = some false)
    (xm_InvalidHistory_NotKnown : PySem.W.mroIn K x_InvalidHistory (.ref x_NotKnown) = some false)
    (xm_InvalidName_NotKnown : PySem.W.mroIn K x_InvalidName (.ref x_NotKnown) = some false)
    (xm_InvalidLength_NotKnown : PySem.W.mroIn K x_InvalidLength (.ref x_NotKnown) = some false)
    (xm_InvalidDoors_NotKnown : PySem.W.mroIn K x_InvalidDoors (.ref x_NotKnown) = some false)
    (xm_InvalidDeed_NotKnown : PySem.W.mroIn K x_InvalidDeed (.ref x_NotKnown) = some false)
    (xm_InvalidCommand_NotKnown : PySem.W.mroIn K x_InvalidCommand (.ref x_NotKnown) = some false)
    (xm_Impossible_NotKnown : PySem.W.mroIn K x_Impossible (.ref x_NotKnown) = some false)
    (xm_NotKnown_NotKnown : PySem.W.mroIn K x_NotKnown (.ref x_NotKnown) = some true)
    (xm_LimitBroken_NotKnown : PySem.W.mroIn K x_LimitBroken (.ref x_NotKnown) = some false)
    (xm_NothingToUndo_NotKnown : PySem.W.mroIn K x_NothingToUndo (.ref x_NotKnown) = some false)
    (xm_TooMany_NotKnown : PySem.W.mroIn K x_TooMany (.ref x_NotKnown) = some false)
    (xhd_LimitBroken : PySem.W.hasDictIn K x_LimitBroken = true)
    (xty_LimitBroken : PySem.W.typeIn K (.ref x_LimitBroken) = some (.type "type"))
    (xbe_LimitBroken : PySem.W.mroIn K x_LimitBroken (.type "BaseException") = some true)
    (xm_InvalidCounts_LimitBroken : PySem.W.mroIn K x_InvalidCounts (.ref x_LimitBroken) = some false)
    (xm_NotCounts_LimitBroken : PySem.W.mroIn K x_NotCounts (.ref x_LimitBroken) = some false)
    (xm_InvalidTick_LimitBroken : PySem.W.mroIn K x_InvalidTick (.ref x_LimitBroken) = some false)
    (xm_InvalidNumber_LimitBroken : PySem.W.mroIn K x_InvalidNumber (.ref x_LimitBroken) = some false)
    (xm_InvalidText_LimitBroken : PySem.W.mroIn K x_InvalidText (.ref x_LimitBroken) = some false)
    (xm_InvalidStay_LimitBroken : PySem.W.mroIn K x_InvalidStay (.ref x_LimitBroken) = some false)
    (xm_InvalidHistory_LimitBroken : PySem.W.mroIn K x_InvalidHistory (.ref x_LimitBroken) = some false)
    (xm_InvalidName_LimitBroken : PySem.W.mroIn K x_InvalidName (.ref x_LimitBroken) = some false)
    (xm_InvalidLength_LimitBroken : PySem.W.mroIn K x_InvalidLength (.ref x_LimitBroken) = some false)
    (xm_InvalidDoors_LimitBroken : PySem.W.mroIn K x_InvalidDoors (.ref x_LimitBroken) = some false)
    (xm_InvalidDeed_LimitBroken : PySem.W.mroIn K x_InvalidDeed (.ref x_LimitBroken) = some false)
    (xm_InvalidCommand_LimitBroken : PySem.W.mroIn K x_InvalidCommand (.ref x_LimitBroken) = some false)
    (xm_Impossible_LimitBroken : PySem.W.mroIn K x_Impossible (.ref x_LimitBroken) = some false)
    (xm_NotKnown_LimitBroken : PySem.W.mroIn K x_NotKnown (.ref x_LimitBroken) = some false)
    (xm_LimitBroken_LimitBroken : PySem.W.mroIn K x_LimitBroken (.ref x_LimitBroken) = some true)
    (xm_NothingToUndo_LimitBroken : PySem.W.mroIn K x_NothingToUndo (.ref x_LimitBroken) = some false)
    (xm_TooMany_LimitBroken : PySem.W.mroIn K x_TooMany (.ref x_LimitBroken) = some false)
    (xhd_NothingToUndo : PySem.W.hasDictIn K x_NothingToUndo = true)
    (xty_NothingToUndo : PySem.W.typeIn K (.ref x_NothingToUndo) = some (.type "type"))
    (xbe_NothingToUndo : PySem.W.mroIn K x_NothingToUndo (.type "BaseException") = some true)
    (xm_InvalidCounts_NothingToUndo : PySem.W.mroIn K x_InvalidCounts (.ref x_NothingToUndo) = some false)
    (xm_NotCounts_NothingToUndo : PySem.W.mroIn K x_NotCounts (.ref x_NothingToUndo) = some false)
    (xm_InvalidTick_NothingToUndo : PySem.W.mroIn K x_InvalidTick (.ref x_NothingToUndo) = some false)
    (xm_InvalidNumber_NothingToUndo : PySem.W.mroIn K x_InvalidNumber (.ref x_NothingToUndo) = some false)
    (xm_InvalidText_NothingToUndo : PySem.W.mroIn K x_InvalidText (.ref x_NothingToUndo) = some false)
    (xm_InvalidStay_NothingToUndo : PySem.W.mroIn K x_InvalidStay (.ref x_NothingToUndo) = some false)
    (xm_InvalidHistory_NothingToUndo : PySem.W.mroIn K x_InvalidHistory (.ref x_NothingToUndo) = some false)
    (xm_InvalidName_NothingToUndo : PySem.W.mroIn K x_InvalidName (.ref x_NothingToUndo) = some false)
    (xm_InvalidLength_NothingToUndo : PySem.W.mroIn K x_InvalidLength (.ref x_NothingToUndo) = some false)
    (xm_InvalidDoors_NothingToUndo : PySem.W.mroIn K x_InvalidDoors (.ref x_NothingToUndo) = some false)
    (xm_InvalidDeed_NothingToUndo : PySem.W.mroIn K x_InvalidDeed (.ref x_NothingToUndo) = some false)
    (xm_InvalidCommand_NothingToUndo : PySem.W.mroIn K x_InvalidCommand (.ref x_NothingToUndo) = some false)
    (xm_Impossible_NothingToUndo : PySem.W.mroIn K x_Impossible (.ref x_NothingToUndo) = some false)
    (xm_NotKnown_NothingToUndo : PySem.W.mroIn K x_NotKnown (.ref x_NothingToUndo) = some false)
    (xm_LimitBroken_NothingToUndo : PySem.W.mroIn K x_LimitBroken (.ref x_NothingToUndo) = some false)
    (xm_NothingToUndo_NothingToUndo : PySem.W.mroIn K x_NothingToUndo (.ref x_NothingToUndo) = some true)
    (xm_TooMany_NothingToUndo : PySem.W.mroIn K x_TooMany (.ref x_NothingToUndo) = some false)
    (xhd_TooMany : PySem.W.hasDictIn K x_TooMany = true)
    (xty_TooMany : PySem.W.typeIn K (.ref x_TooMany) = some (.type "type"))
    (xbe_TooMany : PySem.W.mroIn K x_TooMany (.type "BaseException") = some true)
    (xm_InvalidCounts_TooMany : PySem.W.mroIn K x_InvalidCounts (.ref x_TooMany) = some false)
    (xm_NotCounts_TooMany : PySem.W.mroIn K x_NotCounts (.ref x_TooMany) = some false)
    (xm_InvalidTick_TooMany : PySem.W.mroIn K x_InvalidTick (.ref x_TooMany) = some false)
    (xm_InvalidNumber_TooMany : PySem.W.mroIn K x_InvalidNumber (.ref x_TooMany) = some false)
    (xm_InvalidText_TooMany : PySem.W.mroIn K x_InvalidText (.ref x_TooMany) = some false)
    (xm_InvalidStay_TooMany : PySem.W.mroIn K x_InvalidStay (.ref x_TooMany) = some false)
    (xm_InvalidHistory_TooMany : PySem.W.mroIn K x_InvalidHistory (.ref x_TooMany) = some false)
    (xm_InvalidName_TooMany : PySem.W.mroIn K x_InvalidName (.ref x_TooMany) = some false)
    (xm_InvalidLength_TooMany : PySem.W.mroIn K x_InvalidLength (.ref x_TooMany) = some false)
    (xm_InvalidDoors_TooMany : PySem.W.mroIn K x_InvalidDoors (.ref x_TooMany) = some false)
    (xm_InvalidDeed_TooMany : PySem.W.mroIn K x_InvalidDeed (.ref x_TooMany) = some false)
    (xm_InvalidCommand_TooMany : PySem.W.mroIn K x_InvalidCommand (.ref x_TooMany) = some false)
    (xm_Impossible_TooMany : PySem.W.mroIn K x_Impossible (.ref x_TooMany) = some false)
    (xm_NotKnown_TooMany : PySem.W.mroIn K x_NotKnown (.ref x_TooMany) = some false)
    (xm_LimitBroken_TooMany : PySem.W.mroIn K x_LimitBroken (.ref x_TooMany) = some false)
    (xm_NothingToUndo_TooMany : PySem.W.mroIn K x_NothingToUndo (.ref x_TooMany) = some false)
    (xm_TooMany_TooMany : PySem.W.mroIn K x_TooMany (.ref x_TooMany) = some true)
    (xhd_CountError : PySem.W.hasDictIn K x_CountError = true)
    (xty_CountError : PySem.W.typeIn K (.ref x_CountError) = some (.type "type"))
    (xm_InvalidCounts_CountError : PySem.W.mroIn K x_InvalidCounts (.ref x_CountError) = some true)
    (xm_NotCounts_CountError : PySem.W.mroIn K x_NotCounts (.ref x_CountError) = some true)
    (xm_InvalidTick_CountError : PySem.W.mroIn K x_InvalidTick (.ref x_CountError) = some true)
    (xm_InvalidNumber_CountError : PySem.W.mroIn K x_InvalidNumber (.ref x_CountError) = some true)
    (xm_InvalidText_CountError : PySem.W.mroIn K x_InvalidText (.ref x_CountError) = some true)
    (xm_InvalidStay_CountError : PySem.W.mroIn K x_InvalidStay (.ref x_CountError) = some true)
    (xm_InvalidHistory_CountError : PySem.W.mroIn K x_InvalidHistory (.ref x_CountError) = some true)
    (xm_InvalidName_CountError : PySem.W.mroIn K x_InvalidName (.ref x_CountError) = some true)
    (xm_InvalidLength_CountError : PySem.W.mroIn K x_InvalidLength (.ref x_CountError) = some true)
    (xm_InvalidDoors_CountError : PySem.W.mroIn K x_InvalidDoors (.ref x_CountError) = some true)
    (xm_InvalidDeed_CountError : PySem.W.mroIn K x_InvalidDeed (.ref x_CountError) = some true)
    (xm_InvalidCommand_CountError : PySem.W.mroIn K x_InvalidCommand (.ref x_CountError) = some true)
    (xm_Impossible_CountError : PySem.W.mroIn K x_Impossible (.ref x_CountError) = some false)
    (xm_NotKnown_CountError : PySem.W.mroIn K x_NotKnown (.ref x_CountError) = some false)
    (xm_LimitBroken_CountError : PySem.W.mroIn K x_LimitBroken (.ref x_CountError) = some false)
    (xm_NothingToUndo_CountError : PySem.W.mroIn K x_NothingToUndo (.ref x_CountError) = some false)
    (xm_TooMany_CountError : PySem.W.mroIn K x_TooMany (.ref x_CountError) = some false)
    (xhd_SearchError : PySem.W.hasDictIn K x_SearchError = true)
    (xty_SearchError : PySem.W.typeIn K (.ref x_SearchError) = some (.type "type"))
    (xm_InvalidCounts_SearchError : PySem.W.mroIn K x_InvalidCounts (.ref x_SearchError) = some false)
    (xm_NotCounts_SearchError : PySem.W.mroIn K x_NotCounts (.ref x_SearchError) = some false)
    (xm_InvalidTick_SearchError : PySem.W.mroIn K x_InvalidTick (.ref x_SearchError) = some false)
    (xm_InvalidNumber_SearchError : PySem.W.mroIn K x_InvalidNumber (.ref x_SearchError) = some false)
    (xm_InvalidText_SearchError : PySem.W.mroIn K x_InvalidText (.ref x_SearchError) = some false)
    (xm_InvalidStay_SearchError : PySem.W.mroIn K x_InvalidStay (.ref x_SearchError) = some false)
    (xm_InvalidHistory_SearchError : PySem.W.mroIn K x_InvalidHistory (.ref x_SearchError) = some false)
    (xm_InvalidName_SearchError : PySem.W.mroIn K x_InvalidName (.ref x_SearchError) = some false)
    (xm_InvalidLength_SearchError : PySem.W.mroIn K x_InvalidLength (.ref x_SearchError) = some false)
    (xm_InvalidDoors_SearchError : PySem.W.mroIn K x_InvalidDoors (.ref x_SearchError) = some false)
    (xm_InvalidDeed_SearchError : PySem.W.mroIn K x_InvalidDeed (.ref x_SearchError) = some false)
    (xm_InvalidCommand_SearchError : PySem.W.mroIn K x_InvalidCommand (.ref x_SearchError) = some false)
    (xm_Impossible_SearchError : PySem.W.mroIn K x_Impossible (.ref x_SearchError) = some true)
    (xm_NotKnown_SearchError : PySem.W.mroIn K x_NotKnown (.ref x_SearchError) = some true)
    (xm_LimitBroken_SearchError : PySem.W.mroIn K x_LimitBroken (.ref x_SearchError) = some true)
    (xm_NothingToUndo_SearchError : PySem.W.mroIn K x_NothingToUndo (.ref x_SearchError) = some true)
    (xm_TooMany_SearchError : PySem.W.mroIn K x_TooMany (.ref x_SearchError) = some false)
    (xhd_LimitError : PySem.W.hasDictIn K x_LimitError = true)
    (xty_LimitError : PySem.W.typeIn K (.ref x_LimitError) = some (.type "type"))
    (xm_InvalidCounts_LimitError : PySem.W.mroIn K x_InvalidCounts (.ref x_LimitError) = some false)
    (xm_NotCounts_LimitError : PySem.W.mroIn K x_NotCounts (.ref x_LimitError) = some false)
    (xm_InvalidTick_LimitError : PySem.W.mroIn K x_InvalidTick (.ref x_LimitError) = some false)
    (xm_InvalidNumber_LimitError : PySem.W.mroIn K x_InvalidNumber (.ref x_LimitError) = some false)
    (xm_InvalidText_LimitError : PySem.W.mroIn K x_InvalidText (.ref x_LimitError) = some false)
    (xm_InvalidStay_LimitError : PySem.W.mroIn K x_InvalidStay (.ref x_LimitError) = some false)
    (xm_InvalidHistory_LimitError : PySem.W.mroIn K x_InvalidHistory (.ref x_LimitError) = some false)
    (xm_InvalidName_LimitError : PySem.W.mroIn K x_InvalidName (.ref x_LimitError) = some false)
    (xm_InvalidLength_LimitError : PySem.W.mroIn K x_InvalidLength (.ref x_LimitError) = some false)
    (xm_InvalidDoors_LimitError : PySem.W.mroIn K x_InvalidDoors (.ref x_LimitError) = some false)
    (xm_InvalidDeed_LimitError : PySem.W.mroIn K x_InvalidDeed (.ref x_LimitError) = some false)
    (xm_InvalidCommand_LimitError : PySem.W.mroIn K x_InvalidCommand (.ref x_LimitError) = some false)
    (xm_Impossible_LimitError : PySem.W.mroIn K x_Impossible (.ref x_LimitError) = some false)
    (xm_NotKnown_LimitError : PySem.W.mroIn K x_NotKnown (.ref x_LimitError) = some false)
    (xm_LimitBroken_LimitError : PySem.W.mroIn K x_LimitBroken (.ref x_LimitError) = some false)
    (xm_NothingToUndo_LimitError : PySem.W.mroIn K x_NothingToUndo (.ref x_LimitError) = some false)
    (xm_TooMany_LimitError : PySem.W.mroIn K x_TooMany (.ref x_LimitError) = some true)
    (xm_InvalidCounts_ValueError : PySem.W.mroIn K x_InvalidCounts (.type "ValueError") = some true)
    (xm_InvalidCounts_LookupError : PySem.W.mroIn K x_InvalidCounts (.type "LookupError") = some false)
    (xm_InvalidCounts_ArithmeticError : PySem.W.mroIn K x_InvalidCounts (.type "ArithmeticError") = some false)
    (xsa_InvalidCounts : PySem.W.findIn K (.ref x_InvalidCounts) "__setattr__" = some (some (.builtin "object.__setattr__")))
    (xk_InvalidCounts : PySem.W.keepIn K (.ref x_InvalidCounts) = true)
    (xga_InvalidCounts : PySem.W.findIn K (.ref x_InvalidCounts) "__getattribute__" = some (some (.builtin "BaseException.__getattribute__")))
    (xgg_InvalidCounts : PySem.W.findIn K (.ref x_InvalidCounts) "__getattr__" = some none)
    (xha_InvalidCounts : PySem.W.findIn K (.ref x_InvalidCounts) "__class__" = some (some (.builtin "object.__class__")))
    (xmr_InvalidCounts : PySem.W.mroIn K x_InvalidCounts (.type "object") = some true)
    (xn_InvalidCounts_tick : PySem.W.findIn K (.ref x_InvalidCounts) "tick" = some none)
    (xm_NotCounts_ValueError : PySem.W.mroIn K x_NotCounts (.type "ValueError") = some true)
    (xm_NotCounts_LookupError : PySem.W.mroIn K x_NotCounts (.type "LookupError") = some false)
    (xm_NotCounts_ArithmeticError : PySem.W.mroIn K x_NotCounts (.type "ArithmeticError") = some false)
    (xsa_NotCounts : PySem.W.findIn K (.ref x_NotCounts) "__setattr__" = some (some (.builtin "object.__setattr__")))
    (xk_NotCounts : PySem.W.keepIn K (.ref x_NotCounts) = true)
    (xga_NotCounts : PySem.W.findIn K (.ref x_NotCounts) "__getattribute__" = some (some (.builtin "BaseException.__getattribute__")))
    (xgg_NotCounts : PySem.W.findIn K (.ref x_NotCounts) "__getattr__" = some none)
    (xha_NotCounts : PySem.W.findIn K (.ref x_NotCounts) "__class__" = some (some (.builtin "object.__class__")))
    (xmr_NotCounts : PySem.W.mroIn K x_NotCounts (.type "object") = some true)
    (xn_NotCounts_value : PySem.W.findIn K (.ref x_NotCounts) "value" = some none)
    (xm_InvalidTick_ValueError : PySem.W.mroIn K x_InvalidTick (.type "ValueError") = some true)
    (xm_InvalidTick_LookupError : PySem.W.mroIn K x_InvalidTick (.type "LookupError") = some false)
    (xm_InvalidTick_ArithmeticError : PySem.W.mroIn K x_InvalidTick (.type "ArithmeticError") = some false)
    (xsa_InvalidTick : PySem.W.findIn K (.ref x_InvalidTick) "__setattr__" = some (some (.builtin "object.__setattr__")))
    (xk_InvalidTick : PySem.W.keepIn K (.ref x_InvalidTick) = true)
    (xga_InvalidTick : PySem.W.findIn K (.ref x_InvalidTick) "__getattribute__" = some (some (.builtin "BaseException.__getattribute__")))
    (xgg_InvalidTick : PySem.W.findIn K (.ref x_InvalidTick) "__getattr__" = some none)
    (xha_InvalidTick : PySem.W.findIn K (.ref x_InvalidTick) "__class__" = some (some (.builtin "object.__class__")))
    (xmr_InvalidTick : PySem.W.mroIn K x_InvalidTick (.type "object") = some true)
    (xn_InvalidTick_tick : PySem.W.findIn K (.ref x_InvalidTick) "tick" = some none)
    (xm_InvalidNumber_ValueError : PySem.W.mroIn K x_InvalidNumber (.type "ValueError") = some true)
    (xm_InvalidNumber_LookupError : PySem.W.mroIn K x_InvalidNumber (.type "LookupError") = some false)
    (xm_InvalidNumber_ArithmeticError : PySem.W.mroIn K x_InvalidNumber (.type "ArithmeticError") = some false)
    (xsa_InvalidNumber : PySem.W.findIn K (.ref x_InvalidNumber) "__setattr__" = some (some (.builtin "object.__setattr__")))
    (xk_InvalidNumber : PySem.W.keepIn K (.ref x_InvalidNumber) = true)
    (xga_InvalidNumber : PySem.W.findIn K (.ref x_InvalidNumber) "__getattribute__" = some (some (.builtin "BaseException.__getattribute__")))
    (xgg_InvalidNumber : PySem.W.findIn K (.ref x_InvalidNumber) "__getattr__" = some none)
    (xha_InvalidNumber : PySem.W.findIn K (.ref x_InvalidNumber) "__class__" = some (some (.builtin "object.__class__")))
    (xmr_InvalidNumber : PySem.W.mroIn K x_InvalidNumber (.type "object") = some true)
    (xn_InvalidNumber_number : PySem.W.findIn K (.ref x_InvalidNumber) "number" = some none)
    (xm_InvalidText_ValueError : PySem.W.mroIn K x_InvalidText (.type "ValueError") = some true)
    (xm_InvalidText_LookupError : PySem.W.mroIn K x_InvalidText (.type "LookupError") = some false)
    (xm_InvalidText_ArithmeticError : PySem.W.mroIn K x_InvalidText (.type "ArithmeticError") = some false)
    (xsa_InvalidText : PySem.W.findIn K (.ref x_InvalidText) "__setattr__" = some (some (.builtin "object.__setattr__")))
    (xk_InvalidText : PySem.W.keepIn K (.ref x_InvalidText) = true)
    (xga_InvalidText : PySem.W.findIn K (.ref x_InvalidText) "__getattribute__" = some (some (.builtin "BaseException.__getattribute__")))
    (xgg_InvalidText : PySem.W.findIn K (.ref x_InvalidText) "__getattr__" = some none)
    (xha_InvalidText : PySem.W.findIn K (.ref x_InvalidText) "__class__" = some (some (.builtin "object.__class__")))
    (xmr_InvalidText : PySem.W.mroIn K x_InvalidText (.type "object") = some true)
    (xn_InvalidText_text : PySem.W.findIn K (.ref x_InvalidText) "text" = some none)
    (xm_InvalidStay_ValueError : PySem.W.mroIn K x_InvalidStay (.type "ValueError") = some true)
    (xm_InvalidStay_LookupError : PySem.W.mroIn K x_InvalidStay (.type "LookupError") = some false)
    (xm_InvalidStay_ArithmeticError : PySem.W.mroIn K x_InvalidStay (.type "ArithmeticError") = some false)
    (xsa_InvalidStay : PySem.W.findIn K (.ref x_InvalidStay) "__setattr__" = some (some (.builtin "object.__setattr__")))
    (xk_InvalidStay : PySem.W.keepIn K (.ref x_InvalidStay) = true)
    (xga_InvalidStay : PySem.W.findIn K (.ref x_InvalidStay) "__getattribute__" = some (some (.builtin "BaseException.__getattribute__")))
    (xgg_InvalidStay : PySem.W.findIn K (.ref x_InvalidStay) "__getattr__" = some none)
    (xha_InvalidStay : PySem.W.findIn K (.ref x_InvalidStay) "__class__" = some (some (.builtin "object.__class__")))
    (xmr_InvalidStay : PySem.W.mroIn K x_InvalidStay (.type "object") = some true)
    (xn_InvalidStay_index : PySem.W.findIn K (.ref x_InvalidStay) "index" = some none)
    (xm_InvalidHistory_ValueError : PySem.W.mroIn K x_InvalidHistory (.type "ValueError") = some true)
    (xm_InvalidHistory_LookupError : PySem.W.mroIn K x_InvalidHistory (.type "LookupError") = some false)
    (xm_InvalidHistory_ArithmeticError : PySem.W.mroIn K x_InvalidHistory (.type "ArithmeticError") = some false)
    (xsa_InvalidHistory : PySem.W.findIn K (.ref x_InvalidHistory) "__setattr__" = some (some (.builtin "object.__setattr__")))
    (xk_InvalidHistory : PySem.W.keepIn K (.ref x_InvalidHistory) = true)
    (xga_InvalidHistory : PySem.W.findIn K (.ref x_InvalidHistory) "__getattribute__" = some (some (.builtin "BaseException.__getattribute__")))
    (xgg_InvalidHistory : PySem.W.findIn K (.ref x_InvalidHistory) "__getattr__" = some none)
    (xha_InvalidHistory : PySem.W.findIn K (.ref x_InvalidHistory) "__class__" = some (some (.builtin "object.__class__")))
    (xmr_InvalidHistory : PySem.W.mroIn K x_InvalidHistory (.type "object") = some true)
    (xn_InvalidHistory_history : PySem.W.findIn K (.ref x_InvalidHistory) "history" = some none)
    (xm_InvalidName_ValueError : PySem.W.mroIn K x_InvalidName (.type "ValueError") = some true)
    (xm_InvalidName_LookupError : PySem.W.mroIn K x_InvalidName (.type "LookupError") = some false)
    (xm_InvalidName_ArithmeticError : PySem.W.mroIn K x_InvalidName (.type "ArithmeticError") = some false)
    (xsa_InvalidName : PySem.W.findIn K (.ref x_InvalidName) "__setattr__" = some (some (.builtin "object.__setattr__")))
    (xk_InvalidName : PySem.W.keepIn K (.ref x_InvalidName) = true)
    (xga_InvalidName : PySem.W.findIn K (.ref x_InvalidName) "__getattribute__" = some (some (.builtin "BaseException.__getattribute__")))
    (xgg_InvalidName : PySem.W.findIn K (.ref x_InvalidName) "__getattr__" = some none)
    (xha_InvalidName : PySem.W.findIn K (.ref x_InvalidName) "__class__" = some (some (.builtin "object.__class__")))
    (xmr_InvalidName : PySem.W.mroIn K x_InvalidName (.type "object") = some true)
    (xn_InvalidName_name : PySem.W.findIn K (.ref x_InvalidName) "name" = some none)
    (xm_InvalidLength_ValueError : PySem.W.mroIn K x_InvalidLength (.type "ValueError") = some true)
    (xm_InvalidLength_LookupError : PySem.W.mroIn K x_InvalidLength (.type "LookupError") = some false)
    (xm_InvalidLength_ArithmeticError : PySem.W.mroIn K x_InvalidLength (.type "ArithmeticError") = some false)
    (xsa_InvalidLength : PySem.W.findIn K (.ref x_InvalidLength) "__setattr__" = some (some (.builtin "object.__setattr__")))
    (xk_InvalidLength : PySem.W.keepIn K (.ref x_InvalidLength) = true)
    (xga_InvalidLength : PySem.W.findIn K (.ref x_InvalidLength) "__getattribute__" = some (some (.builtin "BaseException.__getattribute__")))
    (xgg_InvalidLength : PySem.W.findIn K (.ref x_InvalidLength) "__getattr__" = some none)
    (xha_InvalidLength : PySem.W.findIn K (.ref x_InvalidLength) "__class__" = some (some (.builtin "object.__class__")))
    (xmr_InvalidLength : PySem.W.mroIn K x_InvalidLength (.type "object") = some true)
    (xn_InvalidLength_length : PySem.W.findIn K (.ref x_InvalidLength) "length" = some none)
    (xm_InvalidDoors_ValueError : PySem.W.mroIn K x_InvalidDoors (.type "ValueError") = some true)
    (xm_InvalidDoors_LookupError : PySem.W.mroIn K x_InvalidDoors (.type "LookupError") = some false)
    (xm_InvalidDoors_ArithmeticError : PySem.W.mroIn K x_InvalidDoors (.type "ArithmeticError") = some false)
    (xsa_InvalidDoors : PySem.W.findIn K (.ref x_InvalidDoors) "__setattr__" = some (some (.builtin "object.__setattr__")))
    (xk_InvalidDoors : PySem.W.keepIn K (.ref x_InvalidDoors) = true)
    (xga_InvalidDoors : PySem.W.findIn K (.ref x_InvalidDoors) "__getattribute__" = some (some (.builtin "BaseException.__getattribute__")))
    (xgg_InvalidDoors : PySem.W.findIn K (.ref x_InvalidDoors) "__getattr__" = some none)
    (xha_InvalidDoors : PySem.W.findIn K (.ref x_InvalidDoors) "__class__" = some (some (.builtin "object.__class__")))
    (xmr_InvalidDoors : PySem.W.mroIn K x_InvalidDoors (.type "object") = some true)
    (xn_InvalidDoors_index : PySem.W.findIn K (.ref x_InvalidDoors) "index" = some none)
    (xm_InvalidDeed_ValueError : PySem.W.mroIn K x_InvalidDeed (.type "ValueError") = some true)
    (xm_InvalidDeed_LookupError : PySem.W.mroIn K x_InvalidDeed (.type "LookupError") = some false)
    (xm_InvalidDeed_ArithmeticError : PySem.W.mroIn K x_InvalidDeed (.type "ArithmeticError") = some false)
    (xsa_InvalidDeed : PySem.W.findIn K (.ref x_InvalidDeed) "__setattr__" = some (some (.builtin "object.__setattr__")))
    (xk_InvalidDeed : PySem.W.keepIn K (.ref x_InvalidDeed) = true)
    (xga_InvalidDeed : PySem.W.findIn K (.ref x_InvalidDeed) "__getattribute__" = some (some (.builtin "BaseException.__getattribute__")))
    (xgg_InvalidDeed : PySem.W.findIn K (.ref x_InvalidDeed) "__getattr__" = some none)
    (xha_InvalidDeed : PySem.W.findIn K (.ref x_InvalidDeed) "__class__" = some (some (.builtin "object.__class__")))
    (xmr_InvalidDeed : PySem.W.mroIn K x_InvalidDeed (.type "object") = some true)
    (xn_InvalidDeed_index : PySem.W.findIn K (.ref x_InvalidDeed) "index" = some none)
    (xm_InvalidCommand_ValueError : PySem.W.mroIn K x_InvalidCommand (.type "ValueError") = some true)
    (xm_InvalidCommand_LookupError : PySem.W.mroIn K x_InvalidCommand (.type "LookupError") = some false)
    (xm_InvalidCommand_ArithmeticError : PySem.W.mroIn K x_InvalidCommand (.type "ArithmeticError") = some false)
    (xsa_InvalidCommand : PySem.W.findIn K (.ref x_InvalidCommand) "__setattr__" = some (some (.builtin "object.__setattr__")))
    (xk_InvalidCommand : PySem.W.keepIn K (.ref x_InvalidCommand) = true)
    (xga_InvalidCommand : PySem.W.findIn K (.ref x_InvalidCommand) "__getattribute__" = some (some (.builtin "BaseException.__getattribute__")))
    (xgg_InvalidCommand : PySem.W.findIn K (.ref x_InvalidCommand) "__getattr__" = some none)
    (xha_InvalidCommand : PySem.W.findIn K (.ref x_InvalidCommand) "__class__" = some (some (.builtin "object.__class__")))
    (xmr_InvalidCommand : PySem.W.mroIn K x_InvalidCommand (.type "object") = some true)
    (xn_InvalidCommand_command : PySem.W.findIn K (.ref x_InvalidCommand) "command" = some none)
    (xm_Impossible_ValueError : PySem.W.mroIn K x_Impossible (.type "ValueError") = some false)
    (xm_Impossible_LookupError : PySem.W.mroIn K x_Impossible (.type "LookupError") = some true)
    (xm_Impossible_ArithmeticError : PySem.W.mroIn K x_Impossible (.type "ArithmeticError") = some false)
    (xsa_Impossible : PySem.W.findIn K (.ref x_Impossible) "__setattr__" = some (some (.builtin "object.__setattr__")))
    (xk_Impossible : PySem.W.keepIn K (.ref x_Impossible) = true)
    (xga_Impossible : PySem.W.findIn K (.ref x_Impossible) "__getattribute__" = some (some (.builtin "BaseException.__getattribute__")))
    (xgg_Impossible : PySem.W.findIn K (.ref x_Impossible) "__getattr__" = some none)
    (xha_Impossible : PySem.W.findIn K (.ref x_Impossible) "__class__" = some (some (.builtin "object.__class__")))
    (xmr_Impossible : PySem.W.mroIn K x_Impossible (.type "object") = some true)
    (xn_Impossible_word : PySem.W.findIn K (.ref x_Impossible) "word" = some none)
    (xn_Impossible_tick : PySem.W.findIn K (.ref x_Impossible) "tick" = some none)
    (xm_NotKnown_ValueError : PySem.W.mroIn K x_NotKnown (.type "ValueError") = some false)
    (xm_NotKnown_LookupError : PySem.W.mroIn K x_NotKnown (.type "LookupError") = some true)
    (xm_NotKnown_ArithmeticError : PySem.W.mroIn K x_NotKnown (.type "ArithmeticError") = some false)
    (xsa_NotKnown : PySem.W.findIn K (.ref x_NotKnown) "__setattr__" = some (some (.builtin "object.__setattr__")))
    (xk_NotKnown : PySem.W.keepIn K (.ref x_NotKnown) = true)
    (xga_NotKnown : PySem.W.findIn K (.ref x_NotKnown) "__getattribute__" = some (some (.builtin "BaseException.__getattribute__")))
    (xgg_NotKnown : PySem.W.findIn K (.ref x_NotKnown) "__getattr__" = some none)
    (xha_NotKnown : PySem.W.findIn K (.ref x_NotKnown) "__class__" = some (some (.builtin "object.__class__")))
    (xmr_NotKnown : PySem.W.mroIn K x_NotKnown (.type "object") = some true)
    (xn_NotKnown_stay : PySem.W.findIn K (.ref x_NotKnown) "stay" = some none)
    (xm_LimitBroken_ValueError : PySem.W.mroIn K x_LimitBroken (.type "ValueError") = some false)
    (xm_LimitBroken_LookupError : PySem.W.mroIn K x_LimitBroken (.type "LookupError") = some true)
    (xm_LimitBroken_ArithmeticError : PySem.W.mroIn K x_LimitBroken (.type "ArithmeticError") = some false)
    (xsa_LimitBroken : PySem.W.findIn K (.ref x_LimitBroken) "__setattr__" = some (some (.builtin "object.__setattr__")))
    (xk_LimitBroken : PySem.W.keepIn K (.ref x_LimitBroken) = true)
    (xga_LimitBroken : PySem.W.findIn K (.ref x_LimitBroken) "__getattribute__" = some (some (.builtin "BaseException.__getattribute__")))
    (xgg_LimitBroken : PySem.W.findIn K (.ref x_LimitBroken) "__getattr__" = some none)
    (xha_LimitBroken : PySem.W.findIn K (.ref x_LimitBroken) "__class__" = some (some (.builtin "object.__class__")))
    (xmr_LimitBroken : PySem.W.mroIn K x_LimitBroken (.type "object") = some true)
    (xi_LimitBroken : PySem.W.findIn K (.ref x_LimitBroken) "__init__" = some (some (.builtin "LookupError.__init__")))
    (xm_NothingToUndo_ValueError : PySem.W.mroIn K x_NothingToUndo (.type "ValueError") = some false)
    (xm_NothingToUndo_LookupError : PySem.W.mroIn K x_NothingToUndo (.type "LookupError") = some true)
    (xm_NothingToUndo_ArithmeticError : PySem.W.mroIn K x_NothingToUndo (.type "ArithmeticError") = some false)
    (xsa_NothingToUndo : PySem.W.findIn K (.ref x_NothingToUndo) "__setattr__" = some (some (.builtin "object.__setattr__")))
    (xk_NothingToUndo : PySem.W.keepIn K (.ref x_NothingToUndo) = true)
    (xga_NothingToUndo : PySem.W.findIn K (.ref x_NothingToUndo) "__getattribute__" = some (some (.builtin "BaseException.__getattribute__")))
    (xgg_NothingToUndo : PySem.W.findIn K (.ref x_NothingToUndo) "__getattr__" = some none)
    (xha_NothingToUndo : PySem.W.findIn K (.ref x_NothingToUndo) "__class__" = some (some (.builtin "object.__class__")))
    (xmr_NothingToUndo : PySem.W.mroIn K x_NothingToUndo (.type "object") = some true)
    (xi_NothingToUndo : PySem.W.findIn K (.ref x_NothingToUndo) "__init__" = some (some (.builtin "LookupError.__init__")))
    (xm_TooMany_ValueError : PySem.W.mroIn K x_TooMany (.type "ValueError") = some false)
    (xm_TooMany_LookupError : PySem.W.mroIn K x_TooMany (.type "LookupError") = some false)
    (xm_TooMany_ArithmeticError : PySem.W.mroIn K x_TooMany (.type "ArithmeticError") = some true)
    (xsa_TooMany : PySem.W.findIn K (.ref x_TooMany) "__setattr__" = some (some (.builtin "object.__setattr__")))
    (xk_TooMany : PySem.W.keepIn K (.ref x_TooMany) = true)
    (xga_TooMany : PySem.W.findIn K (.ref x_TooMany) "__getattribute__" = some (some (.builtin "BaseException.__getattribute__")))
    (xgg_TooMany : PySem.W.findIn K (.ref x_TooMany) "__getattr__" = some none)
    (xha_TooMany : PySem.W.findIn K (.ref x_TooMany) "__class__" = some (some (.builtin "object.__class__")))
    (xmr_TooMany : PySem.W.mroIn K x_TooMany (.type "object") = some true)
    (xn_TooMany_limit : PySem.W.findIn K (.ref x_TooMany) "limit" = some none)
    (xq_InvalidCounts : PySem.W.excInitIn K x_InvalidCounts [.type "ValueError", .type "Exception", .type "BaseException", .type "object"] "ValueError.__new__" = true)
    (xo_InvalidCounts : PySem.W.excOver K x_InvalidCounts [.type "ValueError", .type "Exception", .type "BaseException", .type "object"] = true)
    (xq_NotCounts : PySem.W.excInitIn K x_NotCounts [.type "ValueError", .type "Exception", .type "BaseException", .type "object"] "ValueError.__new__" = true)
    (xo_NotCounts : PySem.W.excOver K x_NotCounts [.type "ValueError", .type "Exception", .type "BaseException", .type "object"] = true)
    (xq_InvalidTick : PySem.W.excInitIn K x_InvalidTick [.type "ValueError", .type "Exception", .type "BaseException", .type "object"] "ValueError.__new__" = true)
    (xo_InvalidTick : PySem.W.excOver K x_InvalidTick [.type "ValueError", .type "Exception", .type "BaseException", .type "object"] = true)
    (xq_InvalidNumber : PySem.W.excInitIn K x_InvalidNumber [.type "ValueError", .type "Exception", .type "BaseException", .type "object"] "ValueError.__new__" = true)
    (xo_InvalidNumber : PySem.W.excOver K x_InvalidNumber [.type "ValueError", .type "Exception", .type "BaseException", .type "object"] = true)
    (xq_InvalidText : PySem.W.excInitIn K x_InvalidText [.type "ValueError", .type "Exception", .type "BaseException", .type "object"] "ValueError.__new__" = true)
    (xo_InvalidText : PySem.W.excOver K x_InvalidText [.type "ValueError", .type "Exception", .type "BaseException", .type "object"] = true)
    (xq_InvalidStay : PySem.W.excInitIn K x_InvalidStay [.type "ValueError", .type "Exception", .type "BaseException", .type "object"] "ValueError.__new__" = true)
    (xo_InvalidStay : PySem.W.excOver K x_InvalidStay [.type "ValueError", .type "Exception", .type "BaseException", .type "object"] = true)
    (xq_InvalidHistory : PySem.W.excInitIn K x_InvalidHistory [.type "ValueError", .type "Exception", .type "BaseException", .type "object"] "ValueError.__new__" = true)
    (xo_InvalidHistory : PySem.W.excOver K x_InvalidHistory [.type "ValueError", .type "Exception", .type "BaseException", .type "object"] = true)
    (xq_InvalidName : PySem.W.excInitIn K x_InvalidName [.type "ValueError", .type "Exception", .type "BaseException", .type "object"] "ValueError.__new__" = true)
    (xo_InvalidName : PySem.W.excOver K x_InvalidName [.type "ValueError", .type "Exception", .type "BaseException", .type "object"] = true)
    (xq_InvalidLength : PySem.W.excInitIn K x_InvalidLength [.type "ValueError", .type "Exception", .type "BaseException", .type "object"] "ValueError.__new__" = true)
    (xo_InvalidLength : PySem.W.excOver K x_InvalidLength [.type "ValueError", .type "Exception", .type "BaseException", .type "object"] = true)
    (xq_InvalidDoors : PySem.W.excInitIn K x_InvalidDoors [.type "ValueError", .type "Exception", .type "BaseException", .type "object"] "ValueError.__new__" = true)
    (xo_InvalidDoors : PySem.W.excOver K x_InvalidDoors [.type "ValueError", .type "Exception", .type "BaseException", .type "object"] = true)
    (xq_InvalidDeed : PySem.W.excInitIn K x_InvalidDeed [.type "ValueError", .type "Exception", .type "BaseException", .type "object"] "ValueError.__new__" = true)
    (xo_InvalidDeed : PySem.W.excOver K x_InvalidDeed [.type "ValueError", .type "Exception", .type "BaseException", .type "object"] = true)
    (xq_InvalidCommand : PySem.W.excInitIn K x_InvalidCommand [.type "ValueError", .type "Exception", .type "BaseException", .type "object"] "ValueError.__new__" = true)
    (xo_InvalidCommand : PySem.W.excOver K x_InvalidCommand [.type "ValueError", .type "Exception", .type "BaseException", .type "object"] = true)
    (xq_Impossible : PySem.W.excInitIn K x_Impossible [.type "LookupError", .type "Exception", .type "BaseException", .type "object"] "LookupError.__new__" = true)
    (xo_Impossible : PySem.W.excOver K x_Impossible [.type "LookupError", .type "Exception", .type "BaseException", .type "object"] = true)
    (xq_NotKnown : PySem.W.excInitIn K x_NotKnown [.type "LookupError", .type "Exception", .type "BaseException", .type "object"] "LookupError.__new__" = true)
    (xo_NotKnown : PySem.W.excOver K x_NotKnown [.type "LookupError", .type "Exception", .type "BaseException", .type "object"] = true)
    (xq_LimitBroken : PySem.W.excInitIn K x_LimitBroken [.type "LookupError", .type "Exception", .type "BaseException", .type "object"] "LookupError.__new__" = true)
    (xo_LimitBroken : PySem.W.excOver K x_LimitBroken [.type "LookupError", .type "Exception", .type "BaseException", .type "object"] = true)
    (xq_NothingToUndo : PySem.W.excInitIn K x_NothingToUndo [.type "LookupError", .type "Exception", .type "BaseException", .type "object"] "LookupError.__new__" = true)
    (xo_NothingToUndo : PySem.W.excOver K x_NothingToUndo [.type "LookupError", .type "Exception", .type "BaseException", .type "object"] = true)
    (xq_TooMany : PySem.W.excInitIn K x_TooMany [.type "ArithmeticError", .type "Exception", .type "BaseException", .type "object"] "ArithmeticError.__new__" = true)
    (xo_TooMany : PySem.W.excOver K x_TooMany [.type "ArithmeticError", .type "Exception", .type "BaseException", .type "object"] = true)
    : ∃ fd : FuncData, (∀ (s : Shared) (v : Value), BindsTo s fd ⟨[v], []⟩ [("_law_cells", v)])  ∧ ∀ base : Heap, K.In base → base.Ns mainGlobals mg → ∃ ca, FnG Pg w K mg base 6 fa fd ["_law_cells"] (spF K ca [] F_law) := by
  have e := hfa.symm.trans (PySem.W.mg_of X G a_law)
  cases e
  have F_eInvalidCounts := fun_mk (st := s_eInvalidCounts) l_eInvalidCounts c_eInvalidCounts k_eInvalidCounts
  have F_eNotCounts := fun_mk (st := s_eNotCounts) l_eNotCounts c_eNotCounts k_eNotCounts
  have F_eInvalidTick := fun_mk (st := s_eInvalidTick) l_eInvalidTick c_eInvalidTick k_eInvalidTick
  have F_eInvalidNumber := fun_mk (st := s_eInvalidNumber) l_eInvalidNumber c_eInvalidNumber k_eInvalidNumber
  have F_eInvalidText := fun_mk (st := s_eInvalidText) l_eInvalidText c_eInvalidText k_eInvalidText
  have F_eInvalidStay := fun_mk (st := s_eInvalidStay) l_eInvalidStay c_eInvalidStay k_eInvalidStay
  have F_eInvalidHistory := fun_mk (st := s_eInvalidHistory) l_eInvalidHistory c_eInvalidHistory k_eInvalidHistory
  have F_eInvalidName := fun_mk (st := s_eInvalidName) l_eInvalidName c_eInvalidName k_eInvalidName
  have F_eInvalidLength := fun_mk (st := s_eInvalidLength) l_eInvalidLength c_eInvalidLength k_eInvalidLength
  have F_eInvalidDoors := fun_mk (st := s_eInvalidDoors) l_eInvalidDoors c_eInvalidDoors k_eInvalidDoors
  have F_eInvalidDeed := fun_mk (st := s_eInvalidDeed) l_eInvalidDeed c_eInvalidDeed k_eInvalidDeed
  have F_eInvalidCommand := fun_mk (st := s_eInvalidCommand) l_eInvalidCommand c_eInvalidCommand k_eInvalidCommand
  have F_eImpossible := fun_mk (st := s_eImpossible) l_eImpossible c_eImpossible k_eImpossible
  have F_eNotKnown := fun_mk (st := s_eNotKnown) l_eNotKnown c_eNotKnown k_eNotKnown
  have F_eTooMany := fun_mk (st := s_eTooMany) l_eTooMany c_eTooMany k_eTooMany
  have F_ii := fun_mk (st := s_ii) l_ii c_ii k_ii
  have F_cl := fun_mk (st := s_cl) l_cl c_cl k_cl
  have F_inu := fun_mk (st := s_inu) l_inu c_inu k_inu
  have F_cn := fun_mk (st := s_cn) l_cn c_cn k_cn
  have F_ini := fun_mk (st := s_ini) l_ini c_ini k_ini
  have F_cell := fun_mk (st := s_cell) l_cell c_cell k_cell
  have F_pool := fun_mk (st := s_pool) l_pool c_pool k_pool
  have F_draw := fun_mk (st := s_draw) l_draw c_draw k_draw
  have F_error := fun_mk (st := s_error) l_error c_error k_error
  have F_made := fun_mk (st := s_made) l_made c_made k_made
  have F_fields := fun_mk (st := s_fields) l_fields c_fields k_fields
  have F_right := fun_mk (st := s_right) l_right c_right k_right
  have F_law := fun_mk (st := s_law) l_law c_law k_law
  let ca0 : Str → Option Addr := fun c => List.lookup c ([("Counts", C), ("InvalidCounts", x_InvalidCounts), ("NotCounts", x_NotCounts), ("InvalidTick", x_InvalidTick), ("InvalidNumber", x_InvalidNumber), ("InvalidText", x_InvalidText), ("InvalidStay", x_InvalidStay), ("InvalidHistory", x_InvalidHistory), ("InvalidName", x_InvalidName), ("InvalidLength", x_InvalidLength), ("InvalidDoors", x_InvalidDoors), ("InvalidDeed", x_InvalidDeed), ("InvalidCommand", x_InvalidCommand), ("Impossible", x_Impossible), ("NotKnown", x_NotKnown), ("LimitBroken", x_LimitBroken), ("NothingToUndo", x_NothingToUndo), ("TooMany", x_TooMany)] : List (Str × Addr))
  have CX_C : ca0 "Counts" = some C := by kernel_rfl
  have CX_InvalidCounts : ca0 "InvalidCounts" = some x_InvalidCounts := by kernel_rfl
  have EX_InvalidCounts : ExnC K x_InvalidCounts := ⟨xhd_InvalidCounts, xga_InvalidCounts, xgg_InvalidCounts, xbe_InvalidCounts, xha_InvalidCounts, hn, tk, xmr_InvalidCounts⟩
  have CX_NotCounts : ca0 "NotCounts" = some x_NotCounts := by kernel_rfl
  have EX_NotCounts : ExnC K x_NotCounts := ⟨xhd_NotCounts, xga_NotCounts, xgg_NotCounts, xbe_NotCounts, xha_NotCounts, hn, tk, xmr_NotCounts⟩
  have CX_InvalidTick : ca0 "InvalidTick" = some x_InvalidTick := by kernel_rfl
  have EX_InvalidTick : ExnC K x_InvalidTick := ⟨xhd_InvalidTick, xga_InvalidTick, xgg_InvalidTick, xbe_InvalidTick, xha_InvalidTick, hn, tk, xmr_InvalidTick⟩
  have CX_InvalidNumber : ca0 "InvalidNumber" = some x_InvalidNumber := by kernel_rfl
  have EX_InvalidNumber : ExnC K x_InvalidNumber := ⟨xhd_InvalidNumber, xga_InvalidNumber, xgg_InvalidNumber, xbe_InvalidNumber, xha_InvalidNumber, hn, tk, xmr_InvalidNumber⟩
  have CX_InvalidText : ca0 "InvalidText" = some x_InvalidText := by kernel_rfl
  have EX_InvalidText : ExnC K x_InvalidText := ⟨xhd_InvalidText, xga_InvalidText, xgg_InvalidText, xbe_InvalidText, xha_InvalidText, hn, tk, xmr_InvalidText⟩
  have CX_InvalidStay : ca0 "InvalidStay" = some x_InvalidStay := by kernel_rfl
  have EX_InvalidStay : ExnC K x_InvalidStay := ⟨xhd_InvalidStay, xga_InvalidStay, xgg_InvalidStay, xbe_InvalidStay, xha_InvalidStay, hn, tk, xmr_InvalidStay⟩
  have CX_InvalidHistory : ca0 "InvalidHistory" = some x_InvalidHistory := by kernel_rfl
  have EX_InvalidHistory : ExnC K x_InvalidHistory := ⟨xhd_InvalidHistory, xga_InvalidHistory, xgg_InvalidHistory, xbe_InvalidHistory, xha_InvalidHistory, hn, tk, xmr_InvalidHistory⟩
  have CX_InvalidName : ca0 "InvalidName" = some x_InvalidName := by kernel_rfl
  have EX_InvalidName : ExnC K x_InvalidName := ⟨xhd_InvalidName, xga_InvalidName, xgg_InvalidName, xbe_InvalidName, xha_InvalidName, hn, tk, xmr_InvalidName⟩
  have CX_InvalidLength : ca0 "InvalidLength" = some x_InvalidLength := by kernel_rfl
  have EX_InvalidLength : ExnC K x_InvalidLength := ⟨xhd_InvalidLength, xga_InvalidLength, xgg_InvalidLength, xbe_InvalidLength, xha_InvalidLength, hn, tk, xmr_InvalidLength⟩
  have CX_InvalidDoors : ca0 "InvalidDoors" = some x_InvalidDoors := by kernel_rfl
  have EX_InvalidDoors : ExnC K x_InvalidDoors := ⟨xhd_InvalidDoors, xga_InvalidDoors, xgg_InvalidDoors, xbe_InvalidDoors, xha_InvalidDoors, hn, tk, xmr_InvalidDoors⟩
  have CX_InvalidDeed : ca0 "InvalidDeed" = some x_InvalidDeed := by kernel_rfl
  have EX_InvalidDeed : ExnC K x_InvalidDeed := ⟨xhd_InvalidDeed, xga_InvalidDeed, xgg_InvalidDeed, xbe_InvalidDeed, xha_InvalidDeed, hn, tk, xmr_InvalidDeed⟩
  have CX_InvalidCommand : ca0 "InvalidCommand" = some x_InvalidCommand := by kernel_rfl
  have EX_InvalidCommand : ExnC K x_InvalidCommand := ⟨xhd_InvalidCommand, xga_InvalidCommand, xgg_InvalidCommand, xbe_InvalidCommand, xha_InvalidCommand, hn, tk, xmr_InvalidCommand⟩
  have CX_Impossible : ca0 "Impossible" = some x_Impossible := by kernel_rfl
  have EX_Impossible : ExnC K x_Impossible := ⟨xhd_Impossible, xga_Impossible, xgg_Impossible, xbe_Impossible, xha_Impossible, hn, tk, xmr_Impossible⟩
  have CX_NotKnown : ca0 "NotKnown" = some x_NotKnown := by kernel_rfl
  have EX_NotKnown : ExnC K x_NotKnown := ⟨xhd_NotKnown, xga_NotKnown, xgg_NotKnown, xbe_NotKnown, xha_NotKnown, hn, tk, xmr_NotKnown⟩
  have CX_LimitBroken : ca0 "LimitBroken" = some x_LimitBroken := by kernel_rfl
  have EX_LimitBroken : ExnC K x_LimitBroken := ⟨xhd_LimitBroken, xga_LimitBroken, xgg_LimitBroken, xbe_LimitBroken, xha_LimitBroken, hn, tk, xmr_LimitBroken⟩
  have CX_NothingToUndo : ca0 "NothingToUndo" = some x_NothingToUndo := by kernel_rfl
  have EX_NothingToUndo : ExnC K x_NothingToUndo := ⟨xhd_NothingToUndo, xga_NothingToUndo, xgg_NothingToUndo, xbe_NothingToUndo, xha_NothingToUndo, hn, tk, xmr_NothingToUndo⟩
  have CX_TooMany : ca0 "TooMany" = some x_TooMany := by kernel_rfl
  have EX_TooMany : ExnC K x_TooMany := ⟨xhd_TooMany, xga_TooMany, xgg_TooMany, xbe_TooMany, xha_TooMany, hn, tk, xmr_TooMany⟩
  have T : ∀ base : Heap, Txt K mg base [] ca0 C ⟨x_InvalidCounts, x_NotCounts, x_InvalidTick, x_InvalidNumber, x_InvalidText, x_InvalidStay, x_InvalidHistory, x_InvalidName, x_InvalidLength, x_InvalidDoors, x_InvalidDeed, x_InvalidCommand, x_Impossible, x_NotKnown, x_LimitBroken, x_NothingToUndo, x_TooMany, x_CountError, x_SearchError, x_LimitError⟩ := fun base  => {
    free := fun x hx => by
      simp only [List.mem_cons, List.not_mem_nil, or_false] at hx
      rcases hx with rfl | rfl | rfl | rfl | rfl | rfl | rfl | rfl | rfl | rfl | rfl | rfl | rfl | rfl | rfl | rfl | rfl | rfl | rfl | rfl
      · exact PySem.W.mg_none_of X G z_isinstance
      · exact PySem.W.mg_none_of X G z_len
      · exact PySem.W.mg_none_of X G z_int
      · exact PySem.W.mg_none_of X G z_bool
      · exact PySem.W.mg_none_of X G z_tuple
      · exact PySem.W.mg_none_of X G z_list
      · exact PySem.W.mg_none_of X G z_str
      · exact PySem.W.mg_none_of X G z_enumerate
      · exact PySem.W.mg_none_of X G z_zip
      · exact PySem.W.mg_none_of X G z_range
      · exact PySem.W.mg_none_of X G z_min
      · exact PySem.W.mg_none_of X G z_max
      · exact PySem.W.mg_none_of X G z_repr
      · exact PySem.W.mg_none_of X G z_all
      · exact PySem.W.mg_none_of X G z_divmod
      · exact PySem.W.mg_none_of X G z_abs
      · exact PySem.W.mg_none_of X G z_sum
      · exact PySem.W.mg_none_of X G z_ValueError
      · exact PySem.W.mg_none_of X G z_LookupError
      · exact PySem.W.mg_none_of X G z_ArithmeticError
    caC := CX_C
    mgC := PySem.W.mg_of X G aC
    clC := ⟨pg, hd, po, sa⟩
    rdC := ⟨rd, ga⟩
    oCC := ⟨⟨⟨pg, hd, po, sa⟩, ha, hn, tk, mr⟩, fun T hT => by
        simp only [List.mem_cons, List.not_mem_nil, or_false] at hT
        rcases hT with rfl | rfl | rfl | rfl | rfl | rfl
        · exact kit_bt (by decide +kernel) bt_bool
        · exact kit_bt (by decide +kernel) bt_int
        · exact kit_bt (by decide +kernel) bt_str
        · exact kit_bt (by decide +kernel) bt_tuple
        · exact kit_bt (by decide +kernel) bt_list
        · exact kit_bt (by decide +kernel) bt_dict
      , me_of hd ty⟩
    cx_InvalidCounts := CX_InvalidCounts
    xb_InvalidCounts := oxb_V ⟨xq_InvalidCounts, xo_InvalidCounts, xhd_InvalidCounts, xsa_InvalidCounts, xbe_InvalidCounts, xty_InvalidCounts, xk_InvalidCounts⟩
    xn_InvalidCounts_tick := xn_InvalidCounts_tick
    cx_NotCounts := CX_NotCounts
    xb_NotCounts := oxb_V ⟨xq_NotCounts, xo_NotCounts, xhd_NotCounts, xsa_NotCounts, xbe_NotCounts, xty_NotCounts, xk_NotCounts⟩
    xn_NotCounts_value := xn_NotCounts_value
    cx_InvalidTick := CX_InvalidTick
    xb_InvalidTick := oxb_V ⟨xq_InvalidTick, xo_InvalidTick, xhd_InvalidTick, xsa_InvalidTick, xbe_InvalidTick, xty_InvalidTick, xk_InvalidTick⟩
    xn_InvalidTick_tick := xn_InvalidTick_tick
    cx_InvalidNumber := CX_InvalidNumber
    xb_InvalidNumber := oxb_V ⟨xq_InvalidNumber, xo_InvalidNumber, xhd_InvalidNumber, xsa_InvalidNumber, xbe_InvalidNumber, xty_InvalidNumber, xk_InvalidNumber⟩
    xn_InvalidNumber_number := xn_InvalidNumber_number
    cx_InvalidText := CX_InvalidText
    xb_InvalidText := oxb_V ⟨xq_InvalidText, xo_InvalidText, xhd_InvalidText, xsa_InvalidText, xbe_InvalidText, xty_InvalidText, xk_InvalidText⟩
    xn_InvalidText_text := xn_InvalidText_text
    cx_InvalidStay := CX_InvalidStay
    xb_InvalidStay := oxb_V ⟨xq_InvalidStay, xo_InvalidStay, xhd_InvalidStay, xsa_InvalidStay, xbe_InvalidStay, xty_InvalidStay, xk_InvalidStay⟩
    xn_InvalidStay_index := xn_InvalidStay_index
    cx_InvalidHistory := CX_InvalidHistory
    xb_InvalidHistory := oxb_V ⟨xq_InvalidHistory, xo_InvalidHistory, xhd_InvalidHistory, xsa_InvalidHistory, xbe_InvalidHistory, xty_InvalidHistory, xk_InvalidHistory⟩
    xn_InvalidHistory_history := xn_InvalidHistory_history
    cx_InvalidName := CX_InvalidName
    xb_InvalidName := oxb_V ⟨xq_InvalidName, xo_InvalidName, xhd_InvalidName, xsa_InvalidName, xbe_InvalidName, xty_InvalidName, xk_InvalidName⟩
    xn_InvalidName_name := xn_InvalidName_name
    cx_InvalidLength := CX_InvalidLength
    xb_InvalidLength := oxb_V ⟨xq_InvalidLength, xo_InvalidLength, xhd_InvalidLength, xsa_InvalidLength, xbe_InvalidLength, xty_InvalidLength, xk_InvalidLength⟩
    xn_InvalidLength_length := xn_InvalidLength_length
    cx_InvalidDoors := CX_InvalidDoors
    xb_InvalidDoors := oxb_V ⟨xq_InvalidDoors, xo_InvalidDoors, xhd_InvalidDoors, xsa_InvalidDoors, xbe_InvalidDoors, xty_InvalidDoors, xk_InvalidDoors⟩
    xn_InvalidDoors_index := xn_InvalidDoors_index
    cx_InvalidDeed := CX_InvalidDeed
    xb_InvalidDeed := oxb_V ⟨xq_InvalidDeed, xo_InvalidDeed, xhd_InvalidDeed, xsa_InvalidDeed, xbe_InvalidDeed, xty_InvalidDeed, xk_InvalidDeed⟩
    xn_InvalidDeed_index := xn_InvalidDeed_index
    cx_InvalidCommand := CX_InvalidCommand
    xb_InvalidCommand := oxb_V ⟨xq_InvalidCommand, xo_InvalidCommand, xhd_InvalidCommand, xsa_InvalidCommand, xbe_InvalidCommand, xty_InvalidCommand, xk_InvalidCommand⟩
    xn_InvalidCommand_command := xn_InvalidCommand_command
    cx_Impossible := CX_Impossible
    xb_Impossible := oxb_L ⟨xq_Impossible, xo_Impossible, xhd_Impossible, xsa_Impossible, xbe_Impossible, xty_Impossible, xk_Impossible⟩
    xn_Impossible_word := xn_Impossible_word
    xn_Impossible_tick := xn_Impossible_tick
    cx_NotKnown := CX_NotKnown
    xb_NotKnown := oxb_L ⟨xq_NotKnown, xo_NotKnown, xhd_NotKnown, xsa_NotKnown, xbe_NotKnown, xty_NotKnown, xk_NotKnown⟩
    xn_NotKnown_stay := xn_NotKnown_stay
    cx_LimitBroken := CX_LimitBroken
    xb_LimitBroken := oxb_L ⟨xq_LimitBroken, xo_LimitBroken, xhd_LimitBroken, xsa_LimitBroken, xbe_LimitBroken, xty_LimitBroken, xk_LimitBroken⟩
    xc0_LimitBroken := ox0_L xq_LimitBroken xk_LimitBroken xi_LimitBroken
    cx_NothingToUndo := CX_NothingToUndo
    xb_NothingToUndo := oxb_L ⟨xq_NothingToUndo, xo_NothingToUndo, xhd_NothingToUndo, xsa_NothingToUndo, xbe_NothingToUndo, xty_NothingToUndo, xk_NothingToUndo⟩
    xc0_NothingToUndo := ox0_L xq_NothingToUndo xk_NothingToUndo xi_NothingToUndo
    cx_TooMany := CX_TooMany
    xb_TooMany := oxb_A ⟨xq_TooMany, xo_TooMany, xhd_TooMany, xsa_TooMany, xbe_TooMany, xty_TooMany, xk_TooMany⟩
    xn_TooMany_limit := xn_TooMany_limit
    mx_InvalidCounts := PySem.W.mg_of X G xa_InvalidCounts
    is_InvalidCounts := (fun c k h => lookup_all (P := fun c k => ∃ D, ca0 c = some D ∧ ExnC K D ∧ PySem.W.kitOne K (.ref D) (.ref x_InvalidCounts) = some k) (.cons ⟨x_InvalidCounts, CX_InvalidCounts, EX_InvalidCounts, kit_ref xhd_InvalidCounts xty_InvalidCounts xm_InvalidCounts_InvalidCounts xm_InvalidCounts_InvalidCounts⟩ (.cons ⟨x_NotCounts, CX_NotCounts, EX_NotCounts, kit_ref xhd_InvalidCounts xty_InvalidCounts xm_NotCounts_NotCounts xm_NotCounts_InvalidCounts⟩ (.cons ⟨x_InvalidTick, CX_InvalidTick, EX_InvalidTick, kit_ref xhd_InvalidCounts xty_InvalidCounts xm_InvalidTick_InvalidTick xm_InvalidTick_InvalidCounts⟩ (.cons ⟨x_InvalidNumber, CX_InvalidNumber, EX_InvalidNumber, kit_ref xhd_InvalidCounts xty_InvalidCounts xm_InvalidNumber_InvalidNumber xm_InvalidNumber_InvalidCounts⟩ (.cons ⟨x_InvalidText, CX_InvalidText, EX_InvalidText, kit_ref xhd_InvalidCounts xty_InvalidCounts xm_InvalidText_InvalidText xm_InvalidText_InvalidCounts⟩ (.cons ⟨x_InvalidStay, CX_InvalidStay, EX_InvalidStay, kit_ref xhd_InvalidCounts xty_InvalidCounts xm_InvalidStay_InvalidStay xm_InvalidStay_InvalidCounts⟩ (.cons ⟨x_InvalidHistory, CX_InvalidHistory, EX_InvalidHistory, kit_ref xhd_InvalidCounts xty_InvalidCounts xm_InvalidHistory_InvalidHistory xm_InvalidHistory_InvalidCounts⟩ (.cons ⟨x_InvalidName, CX_InvalidName, EX_InvalidName, kit_ref xhd_InvalidCounts xty_InvalidCounts xm_InvalidName_InvalidName xm_InvalidName_InvalidCounts⟩ (.cons ⟨x_InvalidLength, CX_InvalidLength, EX_InvalidLength, kit_ref xhd_InvalidCounts xty_InvalidCounts xm_InvalidLength_InvalidLength xm_InvalidLength_InvalidCounts⟩ (.cons ⟨x_InvalidDoors, CX_InvalidDoors, EX_InvalidDoors, kit_ref xhd_InvalidCounts xty_InvalidCounts xm_InvalidDoors_InvalidDoors xm_InvalidDoors_InvalidCounts⟩ (.cons ⟨x_InvalidDeed, CX_InvalidDeed, EX_InvalidDeed, kit_ref xhd_InvalidCounts xty_InvalidCounts xm_InvalidDeed_InvalidDeed xm_InvalidDeed_InvalidCounts⟩ (.cons ⟨x_InvalidCommand, CX_InvalidCommand, EX_InvalidCommand, kit_ref xhd_InvalidCounts xty_InvalidCounts xm_InvalidCommand_InvalidCommand xm_InvalidCommand_InvalidCounts⟩ (.cons ⟨x_Impossible, CX_Impossible, EX_Impossible, kit_ref xhd_InvalidCounts xty_InvalidCounts xm_Impossible_Impossible xm_Impossible_InvalidCounts⟩ (.cons ⟨x_NotKnown, CX_NotKnown, EX_NotKnown, kit_ref xhd_InvalidCounts xty_InvalidCounts xm_NotKnown_NotKnown xm_NotKnown_InvalidCounts⟩ (.cons ⟨x_LimitBroken, CX_LimitBroken, EX_LimitBroken, kit_ref xhd_InvalidCounts xty_InvalidCounts xm_LimitBroken_LimitBroken xm_LimitBroken_InvalidCounts⟩ (.cons ⟨x_NothingToUndo, CX_NothingToUndo, EX_NothingToUndo, kit_ref xhd_InvalidCounts xty_InvalidCounts xm_NothingToUndo_NothingToUndo xm_NothingToUndo_InvalidCounts⟩ (.cons ⟨x_TooMany, CX_TooMany, EX_TooMany, kit_ref xhd_InvalidCounts xty_InvalidCounts xm_TooMany_TooMany xm_TooMany_InvalidCounts⟩ .nil))))))))))))))))) h)
    mx_NotCounts := PySem.W.mg_of X G xa_NotCounts
    is_NotCounts := (fun c k h => lookup_all (P := fun c k => ∃ D, ca0 c = some D ∧ ExnC K D ∧ PySem.W.kitOne K (.ref D) (.ref x_NotCounts) = some k) (.cons ⟨x_InvalidCounts, CX_InvalidCounts, EX_InvalidCounts, kit_ref xhd_NotCounts xty_NotCounts xm_InvalidCounts_InvalidCounts xm_InvalidCounts_NotCounts⟩ (.cons ⟨x_NotCounts, CX_NotCounts, EX_NotCounts, kit_ref xhd_NotCounts xty_NotCounts xm_NotCounts_NotCounts xm_NotCounts_NotCounts⟩ (.cons ⟨x_InvalidTick, CX_InvalidTick, EX_InvalidTick, kit_ref xhd_NotCounts xty_NotCounts xm_InvalidTick_InvalidTick xm_InvalidTick_NotCounts⟩ (.cons ⟨x_InvalidNumber, CX_InvalidNumber, EX_InvalidNumber, kit_ref xhd_NotCounts xty_NotCounts xm_InvalidNumber_InvalidNumber xm_InvalidNumber_NotCounts⟩ (.cons ⟨x_InvalidText, CX_InvalidText, EX_InvalidText, kit_ref xhd_NotCounts xty_NotCounts xm_InvalidText_InvalidText xm_InvalidText_NotCounts⟩ (.cons ⟨x_InvalidStay, CX_InvalidStay, EX_InvalidStay, kit_ref xhd_NotCounts xty_NotCounts xm_InvalidStay_InvalidStay xm_InvalidStay_NotCounts⟩ (.cons ⟨x_InvalidHistory, CX_InvalidHistory, EX_InvalidHistory, kit_ref xhd_NotCounts xty_NotCounts xm_InvalidHistory_InvalidHistory xm_InvalidHistory_NotCounts⟩ (.cons ⟨x_InvalidName, CX_InvalidName, EX_InvalidName, kit_ref xhd_NotCounts xty_NotCounts xm_InvalidName_InvalidName xm_InvalidName_NotCounts⟩ (.cons ⟨x_InvalidLength, CX_InvalidLength, EX_InvalidLength, kit_ref xhd_NotCounts xty_NotCounts xm_InvalidLength_InvalidLength xm_InvalidLength_NotCounts⟩ (.cons ⟨x_InvalidDoors, CX_InvalidDoors, EX_InvalidDoors, kit_ref xhd_NotCounts xty_NotCounts xm_InvalidDoors_InvalidDoors xm_InvalidDoors_NotCounts⟩ (.cons ⟨x_InvalidDeed, CX_InvalidDeed, EX_InvalidDeed, kit_ref xhd_NotCounts xty_NotCounts xm_InvalidDeed_InvalidDeed xm_InvalidDeed_NotCounts⟩ (.cons ⟨x_InvalidCommand, CX_InvalidCommand, EX_InvalidCommand, kit_ref xhd_NotCounts xty_NotCounts xm_InvalidCommand_InvalidCommand xm_InvalidCommand_NotCounts⟩ (.cons ⟨x_Impossible, CX_Impossible, EX_Impossible, kit_ref xhd_NotCounts xty_NotCounts xm_Impossible_Impossible xm_Impossible_NotCounts⟩ (.cons ⟨x_NotKnown, CX_NotKnown, EX_NotKnown, kit_ref xhd_NotCounts xty_NotCounts xm_NotKnown_NotKnown xm_NotKnown_NotCounts⟩ (.cons ⟨x_LimitBroken, CX_LimitBroken, EX_LimitBroken, kit_ref xhd_NotCounts xty_NotCounts xm_LimitBroken_LimitBroken xm_LimitBroken_NotCounts⟩ (.cons ⟨x_NothingToUndo, CX_NothingToUndo, EX_NothingToUndo, kit_ref xhd_NotCounts xty_NotCounts xm_NothingToUndo_NothingToUndo xm_NothingToUndo_NotCounts⟩ (.cons ⟨x_TooMany, CX_TooMany, EX_TooMany, kit_ref xhd_NotCounts xty_NotCounts xm_TooMany_TooMany xm_TooMany_NotCounts⟩ .nil))))))))))))))))) h)
    mx_InvalidTick := PySem.W.mg_of X G xa_InvalidTick
    is_InvalidTick := (fun c k h => lookup_all (P := fun c k => ∃ D, ca0 c = some D ∧ ExnC K D ∧ PySem.W.kitOne K (.ref D) (.ref x_InvalidTick) = some k) (.cons ⟨x_InvalidCounts, CX_InvalidCounts, EX_InvalidCounts, kit_ref xhd_InvalidTick xty_InvalidTick xm_InvalidCounts_InvalidCounts xm_InvalidCounts_InvalidTick⟩ (.cons ⟨x_NotCounts, CX_NotCounts, EX_NotCounts, kit_ref xhd_InvalidTick xty_InvalidTick xm_NotCounts_NotCounts xm_NotCounts_InvalidTick⟩ (.cons ⟨x_InvalidTick, CX_InvalidTick, EX_InvalidTick, kit_ref xhd_InvalidTick xty_InvalidTick xm_InvalidTick_InvalidTick xm_InvalidTick_InvalidTick⟩ (.cons ⟨x_InvalidNumber, CX_InvalidNumber, EX_InvalidNumber, kit_ref xhd_InvalidTick xty_InvalidTick xm_InvalidNumber_InvalidNumber xm_InvalidNumber_InvalidTick⟩ (.cons ⟨x_InvalidText, CX_InvalidText, EX_InvalidText, kit_ref xhd_InvalidTick xty_InvalidTick xm_InvalidText_InvalidText xm_InvalidText_InvalidTick⟩ (.cons ⟨x_InvalidStay, CX_InvalidStay, EX_InvalidStay, kit_ref xhd_InvalidTick xty_InvalidTick xm_InvalidStay_InvalidStay xm_InvalidStay_InvalidTick⟩ (.cons ⟨x_InvalidHistory, CX_InvalidHistory, EX_InvalidHistory, kit_ref xhd_InvalidTick xty_InvalidTick xm_InvalidHistory_InvalidHistory xm_InvalidHistory_InvalidTick⟩ (.cons ⟨x_InvalidName, CX_InvalidName, EX_InvalidName, kit_ref xhd_InvalidTick xty_InvalidTick xm_InvalidName_InvalidName xm_InvalidName_InvalidTick⟩ (.cons ⟨x_InvalidLength, CX_InvalidLength, EX_InvalidLength, kit_ref xhd_InvalidTick xty_InvalidTick xm_InvalidLength_InvalidLength xm_InvalidLength_InvalidTick⟩ (.cons ⟨x_InvalidDoors, CX_InvalidDoors, EX_InvalidDoors, kit_ref xhd_InvalidTick xty_InvalidTick xm_InvalidDoors_InvalidDoors xm_InvalidDoors_InvalidTick⟩ (.cons ⟨x_InvalidDeed, CX_InvalidDeed, EX_InvalidDeed, kit_ref xhd_InvalidTick xty_InvalidTick xm_InvalidDeed_InvalidDeed xm_InvalidDeed_InvalidTick⟩ (.cons ⟨x_InvalidCommand, CX_InvalidCommand, EX_InvalidCommand, kit_ref xhd_InvalidTick xty_InvalidTick xm_InvalidCommand_InvalidCommand xm_InvalidCommand_InvalidTick⟩ (.cons ⟨x_Impossible, CX_Impossible, EX_Impossible, kit_ref xhd_InvalidTick xty_InvalidTick xm_Impossible_Impossible xm_Impossible_InvalidTick⟩ (.cons ⟨x_NotKnown, CX_NotKnown, EX_NotKnown, kit_ref xhd_InvalidTick xty_InvalidTick xm_NotKnown_NotKnown xm_NotKnown_InvalidTick⟩ (.cons ⟨x_LimitBroken, CX_LimitBroken, EX_LimitBroken, kit_ref xhd_InvalidTick xty_InvalidTick xm_LimitBroken_LimitBroken xm_LimitBroken_InvalidTick⟩ (.cons ⟨x_NothingToUndo, CX_NothingToUndo, EX_NothingToUndo, kit_ref xhd_InvalidTick xty_InvalidTick xm_NothingToUndo_NothingToUndo xm_NothingToUndo_InvalidTick⟩ (.cons ⟨x_TooMany, CX_TooMany, EX_TooMany, kit_ref xhd_InvalidTick xty_InvalidTick xm_TooMany_TooMany xm_TooMany_InvalidTick⟩ .nil))))))))))))))))) h)
    mx_InvalidNumber := PySem.W.mg_of X G xa_InvalidNumber
    is_InvalidNumber := (fun c k h => lookup_all (P := fun c k => ∃ D, ca0 c = some D ∧ ExnC K D ∧ PySem.W.kitOne K (.ref D) (.ref x_InvalidNumber) = some k) (.cons ⟨x_InvalidCounts, CX_InvalidCounts, EX_InvalidCounts, kit_ref xhd_InvalidNumber xty_InvalidNumber xm_InvalidCounts_InvalidCounts xm_InvalidCounts_InvalidNumber⟩ (.cons ⟨x_NotCounts, CX_NotCounts, EX_NotCounts, kit_ref xhd_InvalidNumber xty_InvalidNumber xm_NotCounts_NotCounts xm_NotCounts_InvalidNumber⟩ (.cons ⟨x_InvalidTick, CX_InvalidTick, EX_InvalidTick, kit_ref xhd_InvalidNumber xty_InvalidNumber xm_InvalidTick_InvalidTick xm_InvalidTick_InvalidNumber⟩ (.cons ⟨x_InvalidNumber, CX_InvalidNumber, EX_InvalidNumber, kit_ref xhd_InvalidNumber xty_InvalidNumber xm_InvalidNumber_InvalidNumber xm_InvalidNumber_InvalidNumber⟩ (.cons ⟨x_InvalidText, CX_InvalidText, EX_InvalidText, kit_ref xhd_InvalidNumber xty_InvalidNumber xm_InvalidText_InvalidText xm_InvalidText_InvalidNumber⟩ (.cons ⟨x_InvalidStay, CX_InvalidStay, EX_InvalidStay, kit_ref xhd_InvalidNumber xty_InvalidNumber xm_InvalidStay_InvalidStay xm_InvalidStay_InvalidNumber⟩ (.cons ⟨x_InvalidHistory, CX_InvalidHistory, EX_InvalidHistory, kit_ref xhd_InvalidNumber xty_InvalidNumber xm_InvalidHistory_InvalidHistory xm_InvalidHistory_InvalidNumber⟩ (.cons ⟨x_InvalidName, CX_InvalidName, EX_InvalidName, kit_ref xhd_InvalidNumber xty_InvalidNumber xm_InvalidName_InvalidName xm_InvalidName_InvalidNumber⟩ (.cons ⟨x_InvalidLength, CX_InvalidLength, EX_InvalidLength, kit_ref xhd_InvalidNumber xty_InvalidNumber xm_InvalidLength_InvalidLength xm_InvalidLength_InvalidNumber⟩ (.cons ⟨x_InvalidDoors, CX_InvalidDoors, EX_InvalidDoors, kit_ref xhd_InvalidNumber xty_InvalidNumber xm_InvalidDoors_InvalidDoors xm_InvalidDoors_InvalidNumber⟩ (.cons ⟨x_InvalidDeed, CX_InvalidDeed, EX_InvalidDeed, kit_ref xhd_InvalidNumber xty_InvalidNumber xm_InvalidDeed_InvalidDeed xm_InvalidDeed_InvalidNumber⟩ (.cons ⟨x_InvalidCommand, CX_InvalidCommand, EX_InvalidCommand, kit_ref xhd_InvalidNumber xty_InvalidNumber xm_InvalidCommand_InvalidCommand xm_InvalidCommand_InvalidNumber⟩ (.cons ⟨x_Impossible, CX_Impossible, EX_Impossible, kit_ref xhd_InvalidNumber xty_InvalidNumber xm_Impossible_Impossible xm_Impossible_InvalidNumber⟩ (.cons ⟨x_NotKnown, CX_NotKnown, EX_NotKnown, kit_ref xhd_InvalidNumber xty_InvalidNumber xm_NotKnown_NotKnown xm_NotKnown_InvalidNumber⟩ (.cons ⟨x_LimitBroken, CX_LimitBroken, EX_LimitBroken, kit_ref xhd_InvalidNumber xty_InvalidNumber xm_LimitBroken_LimitBroken xm_LimitBroken_InvalidNumber⟩ (.cons ⟨x_NothingToUndo, CX_NothingToUndo, EX_NothingToUndo, kit_ref xhd_InvalidNumber xty_InvalidNumber xm_NothingToUndo_NothingToUndo xm_NothingToUndo_InvalidNumber⟩ (.cons ⟨x_TooMany, CX_TooMany, EX_TooMany, kit_ref xhd_InvalidNumber xty_InvalidNumber xm_TooMany_TooMany xm_TooMany_InvalidNumber⟩ .nil))))))))))))))))) h)
    mx_InvalidText := PySem.W.mg_of X G xa_InvalidText
    is_InvalidText := (fun c k h => lookup_all (P := fun c k => ∃ D, ca0 c = some D ∧ ExnC K D ∧ PySem.W.kitOne K (.ref D) (.ref x_InvalidText) = some k) (.cons ⟨x_InvalidCounts, CX_InvalidCounts, EX_InvalidCounts, kit_ref xhd_InvalidText xty_InvalidText xm_InvalidCounts_InvalidCounts xm_InvalidCounts_InvalidText⟩ (.cons ⟨x_NotCounts, CX_NotCounts, EX_NotCounts, kit_ref xhd_InvalidText xty_InvalidText xm_NotCounts_NotCounts xm_NotCounts_InvalidText⟩ (.cons ⟨x_InvalidTick, CX_InvalidTick, EX_InvalidTick, kit_ref xhd_InvalidText xty_InvalidText xm_InvalidTick_InvalidTick xm_InvalidTick_InvalidText⟩ (.cons ⟨x_InvalidNumber, CX_InvalidNumber, EX_InvalidNumber, kit_ref xhd_InvalidText xty_InvalidText xm_InvalidNumber_InvalidNumber xm_InvalidNumber_InvalidText⟩ (.cons ⟨x_InvalidText, CX_InvalidText, EX_InvalidText, kit_ref xhd_InvalidText xty_InvalidText xm_InvalidText_InvalidText xm_InvalidText_InvalidText⟩ (.cons ⟨x_InvalidStay, CX_InvalidStay, EX_InvalidStay, kit_ref xhd_InvalidText xty_InvalidText xm_InvalidStay_InvalidStay xm_InvalidStay_InvalidText⟩ (.cons ⟨x_InvalidHistory, CX_InvalidHistory, EX_InvalidHistory, kit_ref xhd_InvalidText xty_InvalidText xm_InvalidHistory_InvalidHistory xm_InvalidHistory_InvalidText⟩ (.cons ⟨x_InvalidName, CX_InvalidName, EX_InvalidName, kit_ref xhd_InvalidText xty_InvalidText xm_InvalidName_InvalidName xm_InvalidName_InvalidText⟩ (.cons ⟨x_InvalidLength, CX_InvalidLength, EX_InvalidLength, kit_ref xhd_InvalidText xty_InvalidText xm_InvalidLength_InvalidLength xm_InvalidLength_InvalidText⟩ (.cons ⟨x_InvalidDoors, CX_InvalidDoors, EX_InvalidDoors, kit_ref xhd_InvalidText xty_InvalidText xm_InvalidDoors_InvalidDoors xm_InvalidDoors_InvalidText⟩ (.cons ⟨x_InvalidDeed, CX_InvalidDeed, EX_InvalidDeed, kit_ref xhd_InvalidText xty_InvalidText xm_InvalidDeed_InvalidDeed xm_InvalidDeed_InvalidText⟩ (.cons ⟨x_InvalidCommand, CX_InvalidCommand, EX_InvalidCommand, kit_ref xhd_InvalidText xty_InvalidText xm_InvalidCommand_InvalidCommand xm_InvalidCommand_InvalidText⟩ (.cons ⟨x_Impossible, CX_Impossible, EX_Impossible, kit_ref xhd_InvalidText xty_InvalidText xm_Impossible_Impossible xm_Impossible_InvalidText⟩ (.cons ⟨x_NotKnown, CX_NotKnown, EX_NotKnown, kit_ref xhd_InvalidText xty_InvalidText xm_NotKnown_NotKnown xm_NotKnown_InvalidText⟩ (.cons ⟨x_LimitBroken, CX_LimitBroken, EX_LimitBroken, kit_ref xhd_InvalidText xty_InvalidText xm_LimitBroken_LimitBroken xm_LimitBroken_InvalidText⟩ (.cons ⟨x_NothingToUndo, CX_NothingToUndo, EX_NothingToUndo, kit_ref xhd_InvalidText xty_InvalidText xm_NothingToUndo_NothingToUndo xm_NothingToUndo_InvalidText⟩ (.cons ⟨x_TooMany, CX_TooMany, EX_TooMany, kit_ref xhd_InvalidText xty_InvalidText xm_TooMany_TooMany xm_TooMany_InvalidText⟩ .nil))))))))))))))))) h)
    mx_InvalidStay := PySem.W.mg_of X G xa_InvalidStay
    is_InvalidStay := (fun c k h => lookup_all (P := fun c k => ∃ D, ca0 c = some D ∧ ExnC K D ∧ PySem.W.kitOne K (.ref D) (.ref x_InvalidStay) = some k) (.cons ⟨x_InvalidCounts, CX_InvalidCounts, EX_InvalidCounts, kit_ref xhd_InvalidStay xty_InvalidStay xm_InvalidCounts_InvalidCounts xm_InvalidCounts_InvalidStay⟩ (.cons ⟨x_NotCounts, CX_NotCounts, EX_NotCounts, kit_ref xhd_InvalidStay xty_InvalidStay xm_NotCounts_NotCounts xm_NotCounts_InvalidStay⟩ (.cons ⟨x_InvalidTick, CX_InvalidTick, EX_InvalidTick, kit_ref xhd_InvalidStay xty_InvalidStay xm_InvalidTick_InvalidTick xm_InvalidTick_InvalidStay⟩ (.cons ⟨x_InvalidNumber, CX_InvalidNumber, EX_InvalidNumber, kit_ref xhd_InvalidStay xty_InvalidStay xm_InvalidNumber_InvalidNumber xm_InvalidNumber_InvalidStay⟩ (.cons ⟨x_InvalidText, CX_InvalidText, EX_InvalidText, kit_ref xhd_InvalidStay xty_InvalidStay xm_InvalidText_InvalidText xm_InvalidText_InvalidStay⟩ (.cons ⟨x_InvalidStay, CX_InvalidStay, EX_InvalidStay, kit_ref xhd_InvalidStay xty_InvalidStay xm_InvalidStay_InvalidStay xm_InvalidStay_InvalidStay⟩ (.cons ⟨x_InvalidHistory, CX_InvalidHistory, EX_InvalidHistory, kit_ref xhd_InvalidStay xty_InvalidStay xm_InvalidHistory_InvalidHistory xm_InvalidHistory_InvalidStay⟩ (.cons ⟨x_InvalidName, CX_InvalidName, EX_InvalidName, kit_ref xhd_InvalidStay xty_InvalidStay xm_InvalidName_InvalidName xm_InvalidName_InvalidStay⟩ (.cons ⟨x_InvalidLength, CX_InvalidLength, EX_InvalidLength, kit_ref xhd_InvalidStay xty_InvalidStay xm_InvalidLength_InvalidLength xm_InvalidLength_InvalidStay⟩ (.cons ⟨x_InvalidDoors, CX_InvalidDoors, EX_InvalidDoors, kit_ref xhd_InvalidStay xty_InvalidStay xm_InvalidDoors_InvalidDoors xm_InvalidDoors_InvalidStay⟩ (.cons ⟨x_InvalidDeed, CX_InvalidDeed, EX_InvalidDeed, kit_ref xhd_InvalidStay xty_InvalidStay xm_InvalidDeed_InvalidDeed xm_InvalidDeed_InvalidStay⟩ (.cons ⟨x_InvalidCommand, CX_InvalidCommand, EX_InvalidCommand, kit_ref xhd_InvalidStay xty_InvalidStay xm_InvalidCommand_InvalidCommand xm_InvalidCommand_InvalidStay⟩ (.cons ⟨x_Impossible, CX_Impossible, EX_Impossible, kit_ref xhd_InvalidStay xty_InvalidStay xm_Impossible_Impossible xm_Impossible_InvalidStay⟩ (.cons ⟨x_NotKnown, CX_NotKnown, EX_NotKnown, kit_ref xhd_InvalidStay xty_InvalidStay xm_NotKnown_NotKnown xm_NotKnown_InvalidStay⟩ (.cons ⟨x_LimitBroken, CX_LimitBroken, EX_LimitBroken, kit_ref xhd_InvalidStay xty_InvalidStay xm_LimitBroken_LimitBroken xm_LimitBroken_InvalidStay⟩ (.cons ⟨x_NothingToUndo, CX_NothingToUndo, EX_NothingToUndo, kit_ref xhd_InvalidStay xty_InvalidStay xm_NothingToUndo_NothingToUndo xm_NothingToUndo_InvalidStay⟩ (.cons ⟨x_TooMany, CX_TooMany, EX_TooMany, kit_ref xhd_InvalidStay xty_InvalidStay xm_TooMany_TooMany xm_TooMany_InvalidStay⟩ .nil))))))))))))))))) h)
    mx_InvalidHistory := PySem.W.mg_of X G xa_InvalidHistory
    is_InvalidHistory := (fun c k h => lookup_all (P := fun c k => ∃ D, ca0 c = some D ∧ ExnC K D ∧ PySem.W.kitOne K (.ref D) (.ref x_InvalidHistory) = some k) (.cons ⟨x_InvalidCounts, CX_InvalidCounts, EX_InvalidCounts, kit_ref xhd_InvalidHistory xty_InvalidHistory xm_InvalidCounts_InvalidCounts xm_InvalidCounts_InvalidHistory⟩ (.cons ⟨x_NotCounts, CX_NotCounts, EX_NotCounts, kit_ref xhd_InvalidHistory xty_InvalidHistory xm_NotCounts_NotCounts xm_NotCounts_InvalidHistory⟩ (.cons ⟨x_InvalidTick, CX_InvalidTick, EX_InvalidTick, kit_ref xhd_InvalidHistory xty_InvalidHistory xm_InvalidTick_InvalidTick xm_InvalidTick_InvalidHistory⟩ (.cons ⟨x_InvalidNumber, CX_InvalidNumber, EX_InvalidNumber, kit_ref xhd_InvalidHistory xty_InvalidHistory xm_InvalidNumber_InvalidNumber xm_InvalidNumber_InvalidHistory⟩ (.cons ⟨x_InvalidText, CX_InvalidText, EX_InvalidText, kit_ref xhd_InvalidHistory xty_InvalidHistory xm_InvalidText_InvalidText xm_InvalidText_InvalidHistory⟩ (.cons ⟨x_InvalidStay, CX_InvalidStay, EX_InvalidStay, kit_ref xhd_InvalidHistory xty_InvalidHistory xm_InvalidStay_InvalidStay xm_InvalidStay_InvalidHistory⟩ (.cons ⟨x_InvalidHistory, CX_InvalidHistory, EX_InvalidHistory, kit_ref xhd_InvalidHistory xty_InvalidHistory xm_InvalidHistory_InvalidHistory xm_InvalidHistory_InvalidHistory⟩ (.cons ⟨x_InvalidName, CX_InvalidName, EX_InvalidName, kit_ref xhd_InvalidHistory xty_InvalidHistory xm_InvalidName_InvalidName xm_InvalidName_InvalidHistory⟩ (.cons ⟨x_InvalidLength, CX_InvalidLength, EX_InvalidLength, kit_ref xhd_InvalidHistory xty_InvalidHistory xm_InvalidLength_InvalidLength xm_InvalidLength_InvalidHistory⟩ (.cons ⟨x_InvalidDoors, CX_InvalidDoors, EX_InvalidDoors, kit_ref xhd_InvalidHistory xty_InvalidHistory xm_InvalidDoors_InvalidDoors xm_InvalidDoors_InvalidHistory⟩ (.cons ⟨x_InvalidDeed, CX_InvalidDeed, EX_InvalidDeed, kit_ref xhd_InvalidHistory xty_InvalidHistory xm_InvalidDeed_InvalidDeed xm_InvalidDeed_InvalidHistory⟩ (.cons ⟨x_InvalidCommand, CX_InvalidCommand, EX_InvalidCommand, kit_ref xhd_InvalidHistory xty_InvalidHistory xm_InvalidCommand_InvalidCommand xm_InvalidCommand_InvalidHistory⟩ (.cons ⟨x_Impossible, CX_Impossible, EX_Impossible, kit_ref xhd_InvalidHistory xty_InvalidHistory xm_Impossible_Impossible xm_Impossible_InvalidHistory⟩ (.cons ⟨x_NotKnown, CX_NotKnown, EX_NotKnown, kit_ref xhd_InvalidHistory xty_InvalidHistory xm_NotKnown_NotKnown xm_NotKnown_InvalidHistory⟩ (.cons ⟨x_LimitBroken, CX_LimitBroken, EX_LimitBroken, kit_ref xhd_InvalidHistory xty_InvalidHistory xm_LimitBroken_LimitBroken xm_LimitBroken_InvalidHistory⟩ (.cons ⟨x_NothingToUndo, CX_NothingToUndo, EX_NothingToUndo, kit_ref xhd_InvalidHistory xty_InvalidHistory xm_NothingToUndo_NothingToUndo xm_NothingToUndo_InvalidHistory⟩ (.cons ⟨x_TooMany, CX_TooMany, EX_TooMany, kit_ref xhd_InvalidHistory xty_InvalidHistory xm_TooMany_TooMany xm_TooMany_InvalidHistory⟩ .nil))))))))))))))))) h)
    mx_InvalidName := PySem.W.mg_of X G xa_InvalidName
    is_InvalidName := (fun c k h => lookup_all (P := fun c k => ∃ D, ca0 c = some D ∧ ExnC K D ∧ PySem.W.kitOne K (.ref D) (.ref x_InvalidName) = some k) (.cons ⟨x_InvalidCounts, CX_InvalidCounts, EX_InvalidCounts, kit_ref xhd_InvalidName xty_InvalidName xm_InvalidCounts_InvalidCounts xm_InvalidCounts_InvalidName⟩ (.cons ⟨x_NotCounts, CX_NotCounts, EX_NotCounts, kit_ref xhd_InvalidName xty_InvalidName xm_NotCounts_NotCounts xm_NotCounts_InvalidName⟩ (.cons ⟨x_InvalidTick, CX_InvalidTick, EX_InvalidTick, kit_ref xhd_InvalidName xty_InvalidName xm_InvalidTick_InvalidTick xm_InvalidTick_InvalidName⟩ (.cons ⟨x_InvalidNumber, CX_InvalidNumber, EX_InvalidNumber, kit_ref xhd_InvalidName xty_InvalidName xm_InvalidNumber_InvalidNumber xm_InvalidNumber_InvalidName⟩ (.cons ⟨x_InvalidText, CX_InvalidText, EX_InvalidText, kit_ref xhd_InvalidName xty_InvalidName xm_InvalidText_InvalidText xm_InvalidText_InvalidName⟩ (.cons ⟨x_InvalidStay, CX_InvalidStay, EX_InvalidStay, kit_ref xhd_InvalidName xty_InvalidName xm_InvalidStay_InvalidStay xm_InvalidStay_InvalidName⟩ (.cons ⟨x_InvalidHistory, CX_InvalidHistory, EX_InvalidHistory, kit_ref xhd_InvalidName xty_InvalidName xm_InvalidHistory_InvalidHistory xm_InvalidHistory_InvalidName⟩ (.cons ⟨x_InvalidName, CX_InvalidName, EX_InvalidName, kit_ref xhd_InvalidName xty_InvalidName xm_InvalidName_InvalidName xm_InvalidName_InvalidName⟩ (.cons ⟨x_InvalidLength, CX_InvalidLength, EX_InvalidLength, kit_ref xhd_InvalidName xty_InvalidName xm_InvalidLength_InvalidLength xm_InvalidLength_InvalidName⟩ (.cons ⟨x_InvalidDoors, CX_InvalidDoors, EX_InvalidDoors, kit_ref xhd_InvalidName xty_InvalidName xm_InvalidDoors_InvalidDoors xm_InvalidDoors_InvalidName⟩ (.cons ⟨x_InvalidDeed, CX_InvalidDeed, EX_InvalidDeed, kit_ref xhd_InvalidName xty_InvalidName xm_InvalidDeed_InvalidDeed xm_InvalidDeed_InvalidName⟩ (.cons ⟨x_InvalidCommand, CX_InvalidCommand, EX_InvalidCommand, kit_ref xhd_InvalidName xty_InvalidName xm_InvalidCommand_InvalidCommand xm_InvalidCommand_InvalidName⟩ (.cons ⟨x_Impossible, CX_Impossible, EX_Impossible, kit_ref xhd_InvalidName xty_InvalidName xm_Impossible_Impossible xm_Impossible_InvalidName⟩ (.cons ⟨x_NotKnown, CX_NotKnown, EX_NotKnown, kit_ref xhd_InvalidName xty_InvalidName xm_NotKnown_NotKnown xm_NotKnown_InvalidName⟩ (.cons ⟨x_LimitBroken, CX_LimitBroken, EX_LimitBroken, kit_ref xhd_InvalidName xty_InvalidName xm_LimitBroken_LimitBroken xm_LimitBroken_InvalidName⟩ (.cons ⟨x_NothingToUndo, CX_NothingToUndo, EX_NothingToUndo, kit_ref xhd_InvalidName xty_InvalidName xm_NothingToUndo_NothingToUndo xm_NothingToUndo_InvalidName⟩ (.cons ⟨x_TooMany, CX_TooMany, EX_TooMany, kit_ref xhd_InvalidName xty_InvalidName xm_TooMany_TooMany xm_TooMany_InvalidName⟩ .nil))))))))))))))))) h)
    mx_InvalidLength := PySem.W.mg_of X G xa_InvalidLength
    is_InvalidLength := (fun c k h => lookup_all (P := fun c k => ∃ D, ca0 c = some D ∧ ExnC K D ∧ PySem.W.kitOne K (.ref D) (.ref x_InvalidLength) = some k) (.cons ⟨x_InvalidCounts, CX_InvalidCounts, EX_InvalidCounts, kit_ref xhd_InvalidLength xty_InvalidLength xm_InvalidCounts_InvalidCounts xm_InvalidCounts_InvalidLength⟩ (.cons ⟨x_NotCounts, CX_NotCounts, EX_NotCounts, kit_ref xhd_InvalidLength xty_InvalidLength xm_NotCounts_NotCounts xm_NotCounts_InvalidLength⟩ (.cons ⟨x_InvalidTick, CX_InvalidTick, EX_InvalidTick, kit_ref xhd_InvalidLength xty_InvalidLength xm_InvalidTick_InvalidTick xm_InvalidTick_InvalidLength⟩ (.cons ⟨x_InvalidNumber, CX_InvalidNumber, EX_InvalidNumber, kit_ref xhd_InvalidLength xty_InvalidLength xm_InvalidNumber_InvalidNumber xm_InvalidNumber_InvalidLength⟩ (.cons ⟨x_InvalidText, CX_InvalidText, EX_InvalidText, kit_ref xhd_InvalidLength xty_InvalidLength xm_InvalidText_InvalidText xm_InvalidText_InvalidLength⟩ (.cons ⟨x_InvalidStay, CX_InvalidStay, EX_InvalidStay, kit_ref xhd_InvalidLength xty_InvalidLength xm_InvalidStay_InvalidStay xm_InvalidStay_InvalidLength⟩ (.cons ⟨x_InvalidHistory, CX_InvalidHistory, EX_InvalidHistory, kit_ref xhd_InvalidLength xty_InvalidLength xm_InvalidHistory_InvalidHistory xm_InvalidHistory_InvalidLength⟩ (.cons ⟨x_InvalidName, CX_InvalidName, EX_InvalidName, kit_ref xhd_InvalidLength xty_InvalidLength xm_InvalidName_InvalidName xm_InvalidName_InvalidLength⟩ (.cons ⟨x_InvalidLength, CX_InvalidLength, EX_InvalidLength, kit_ref xhd_InvalidLength xty_InvalidLength xm_InvalidLength_InvalidLength xm_InvalidLength_InvalidLength⟩ (.cons ⟨x_InvalidDoors, CX_InvalidDoors, EX_InvalidDoors, kit_ref xhd_InvalidLength xty_InvalidLength xm_InvalidDoors_InvalidDoors xm_InvalidDoors_InvalidLength⟩ (.cons ⟨x_InvalidDeed, CX_InvalidDeed, EX_InvalidDeed, kit_ref xhd_InvalidLength xty_InvalidLength xm_InvalidDeed_InvalidDeed xm_InvalidDeed_InvalidLength⟩ (.cons ⟨x_InvalidCommand, CX_InvalidCommand, EX_InvalidCommand, kit_ref xhd_InvalidLength xty_InvalidLength xm_InvalidCommand_InvalidCommand xm_InvalidCommand_InvalidLength⟩ (.cons ⟨x_Impossible, CX_Impossible, EX_Impossible, kit_ref xhd_InvalidLength xty_InvalidLength xm_Impossible_Impossible xm_Impossible_InvalidLength⟩ (.cons ⟨x_NotKnown, CX_NotKnown, EX_NotKnown, kit_ref xhd_InvalidLength xty_InvalidLength xm_NotKnown_NotKnown xm_NotKnown_InvalidLength⟩ (.cons ⟨x_LimitBroken, CX_LimitBroken, EX_LimitBroken, kit_ref xhd_InvalidLength xty_InvalidLength xm_LimitBroken_LimitBroken xm_LimitBroken_InvalidLength⟩ (.cons ⟨x_NothingToUndo, CX_NothingToUndo, EX_NothingToUndo, kit_ref xhd_InvalidLength xty_InvalidLength xm_NothingToUndo_NothingToUndo xm_NothingToUndo_InvalidLength⟩ (.cons ⟨x_TooMany, CX_TooMany, EX_TooMany, kit_ref xhd_InvalidLength xty_InvalidLength xm_TooMany_TooMany xm_TooMany_InvalidLength⟩ .nil))))))))))))))))) h)
    mx_InvalidDoors := PySem.W.mg_of X G xa_InvalidDoors
    is_InvalidDoors := (fun c k h => lookup_all (P := fun c k => ∃ D, ca0 c = some D ∧ ExnC K D ∧ PySem.W.kitOne K (.ref D) (.ref x_InvalidDoors) = some k) (.cons ⟨x_InvalidCounts, CX_InvalidCounts, EX_InvalidCounts, kit_ref xhd_InvalidDoors xty_InvalidDoors xm_InvalidCounts_InvalidCounts xm_InvalidCounts_InvalidDoors⟩ (.cons ⟨x_NotCounts, CX_NotCounts, EX_NotCounts, kit_ref xhd_InvalidDoors xty_InvalidDoors xm_NotCounts_NotCounts xm_NotCounts_InvalidDoors⟩ (.cons ⟨x_InvalidTick, CX_InvalidTick, EX_InvalidTick, kit_ref xhd_InvalidDoors xty_InvalidDoors xm_InvalidTick_InvalidTick xm_InvalidTick_InvalidDoors⟩ (.cons ⟨x_InvalidNumber, CX_InvalidNumber, EX_InvalidNumber, kit_ref xhd_InvalidDoors xty_InvalidDoors xm_InvalidNumber_InvalidNumber xm_InvalidNumber_InvalidDoors⟩ (.cons ⟨x_InvalidText, CX_InvalidText, EX_InvalidText, kit_ref xhd_InvalidDoors xty_InvalidDoors xm_InvalidText_InvalidText xm_InvalidText_InvalidDoors⟩ (.cons ⟨x_InvalidStay, CX_InvalidStay, EX_InvalidStay, kit_ref xhd_InvalidDoors xty_InvalidDoors xm_InvalidStay_InvalidStay xm_InvalidStay_InvalidDoors⟩ (.cons ⟨x_InvalidHistory, CX_InvalidHistory, EX_InvalidHistory, kit_ref xhd_InvalidDoors xty_InvalidDoors xm_InvalidHistory_InvalidHistory xm_InvalidHistory_InvalidDoors⟩ (.cons ⟨x_InvalidName, CX_InvalidName, EX_InvalidName, kit_ref xhd_InvalidDoors xty_InvalidDoors xm_InvalidName_InvalidName xm_InvalidName_InvalidDoors⟩ (.cons ⟨x_InvalidLength, CX_InvalidLength, EX_InvalidLength, kit_ref xhd_InvalidDoors xty_InvalidDoors xm_InvalidLength_InvalidLength xm_InvalidLength_InvalidDoors⟩ (.cons ⟨x_InvalidDoors, CX_InvalidDoors, EX_InvalidDoors, kit_ref xhd_InvalidDoors xty_InvalidDoors xm_InvalidDoors_InvalidDoors xm_InvalidDoors_InvalidDoors⟩ (.cons ⟨x_InvalidDeed, CX_InvalidDeed, EX_InvalidDeed, kit_ref xhd_InvalidDoors xty_InvalidDoors xm_InvalidDeed_InvalidDeed xm_InvalidDeed_InvalidDoors⟩ (.cons ⟨x_InvalidCommand, CX_InvalidCommand, EX_InvalidCommand, kit_ref xhd_InvalidDoors xty_InvalidDoors xm_InvalidCommand_InvalidCommand xm_InvalidCommand_InvalidDoors⟩ (.cons ⟨x_Impossible, CX_Impossible, EX_Impossible, kit_ref xhd_InvalidDoors xty_InvalidDoors xm_Impossible_Impossible xm_Impossible_InvalidDoors⟩ (.cons ⟨x_NotKnown, CX_NotKnown, EX_NotKnown, kit_ref xhd_InvalidDoors xty_InvalidDoors xm_NotKnown_NotKnown xm_NotKnown_InvalidDoors⟩ (.cons ⟨x_LimitBroken, CX_LimitBroken, EX_LimitBroken, kit_ref xhd_InvalidDoors xty_InvalidDoors xm_LimitBroken_LimitBroken xm_LimitBroken_InvalidDoors⟩ (.cons ⟨x_NothingToUndo, CX_NothingToUndo, EX_NothingToUndo, kit_ref xhd_InvalidDoors xty_InvalidDoors xm_NothingToUndo_NothingToUndo xm_NothingToUndo_InvalidDoors⟩ (.cons ⟨x_TooMany, CX_TooMany, EX_TooMany, kit_ref xhd_InvalidDoors xty_InvalidDoors xm_TooMany_TooMany xm_TooMany_InvalidDoors⟩ .nil))))))))))))))))) h)
    mx_InvalidDeed := PySem.W.mg_of X G xa_InvalidDeed
    is_InvalidDeed := (fun c k h => lookup_all (P := fun c k => ∃ D, ca0 c = some D ∧ ExnC K D ∧ PySem.W.kitOne K (.ref D) (.ref x_InvalidDeed) = some k) (.cons ⟨x_InvalidCounts, CX_InvalidCounts, EX_InvalidCounts, kit_ref xhd_InvalidDeed xty_InvalidDeed xm_InvalidCounts_InvalidCounts xm_InvalidCounts_InvalidDeed⟩ (.cons ⟨x_NotCounts, CX_NotCounts, EX_NotCounts, kit_ref xhd_InvalidDeed xty_InvalidDeed xm_NotCounts_NotCounts xm_NotCounts_InvalidDeed⟩ (.cons ⟨x_InvalidTick, CX_InvalidTick, EX_InvalidTick, kit_ref xhd_InvalidDeed xty_InvalidDeed xm_InvalidTick_InvalidTick xm_InvalidTick_InvalidDeed⟩ (.cons ⟨x_InvalidNumber, CX_InvalidNumber, EX_InvalidNumber, kit_ref xhd_InvalidDeed xty_InvalidDeed xm_InvalidNumber_InvalidNumber xm_InvalidNumber_InvalidDeed⟩ (.cons ⟨x_InvalidText, CX_InvalidText, EX_InvalidText, kit_ref xhd_InvalidDeed xty_InvalidDeed xm_InvalidText_InvalidText xm_InvalidText_InvalidDeed⟩ (.cons ⟨x_InvalidStay, CX_InvalidStay, EX_InvalidStay, kit_ref xhd_InvalidDeed xty_InvalidDeed xm_InvalidStay_InvalidStay xm_InvalidStay_InvalidDeed⟩ (.cons ⟨x_InvalidHistory, CX_InvalidHistory, EX_InvalidHistory, kit_ref xhd_InvalidDeed xty_InvalidDeed xm_InvalidHistory_InvalidHistory xm_InvalidHistory_InvalidDeed⟩ (.cons ⟨x_InvalidName, CX_InvalidName, EX_InvalidName, kit_ref xhd_InvalidDeed xty_InvalidDeed xm_InvalidName_InvalidName xm_InvalidName_InvalidDeed⟩ (.cons ⟨x_InvalidLength, CX_InvalidLength, EX_InvalidLength, kit_ref xhd_InvalidDeed xty_InvalidDeed xm_InvalidLength_InvalidLength xm_InvalidLength_InvalidDeed⟩ (.cons ⟨x_InvalidDoors, CX_InvalidDoors, EX_InvalidDoors, kit_ref xhd_InvalidDeed xty_InvalidDeed xm_InvalidDoors_InvalidDoors xm_InvalidDoors_InvalidDeed⟩ (.cons ⟨x_InvalidDeed, CX_InvalidDeed, EX_InvalidDeed, kit_ref xhd_InvalidDeed xty_InvalidDeed xm_InvalidDeed_InvalidDeed xm_InvalidDeed_InvalidDeed⟩ (.cons ⟨x_InvalidCommand, CX_InvalidCommand, EX_InvalidCommand, kit_ref xhd_InvalidDeed xty_InvalidDeed xm_InvalidCommand_InvalidCommand xm_InvalidCommand_InvalidDeed⟩ (.cons ⟨x_Impossible, CX_Impossible, EX_Impossible, kit_ref xhd_InvalidDeed xty_InvalidDeed xm_Impossible_Impossible xm_Impossible_InvalidDeed⟩ (.cons ⟨x_NotKnown, CX_NotKnown, EX_NotKnown, kit_ref xhd_InvalidDeed xty_InvalidDeed xm_NotKnown_NotKnown xm_NotKnown_InvalidDeed⟩ (.cons ⟨x_LimitBroken, CX_LimitBroken, EX_LimitBroken, kit_ref xhd_InvalidDeed xty_InvalidDeed xm_LimitBroken_LimitBroken xm_LimitBroken_InvalidDeed⟩ (.cons ⟨x_NothingToUndo, CX_NothingToUndo, EX_NothingToUndo, kit_ref xhd_InvalidDeed xty_InvalidDeed xm_NothingToUndo_NothingToUndo xm_NothingToUndo_InvalidDeed⟩ (.cons ⟨x_TooMany, CX_TooMany, EX_TooMany, kit_ref xhd_InvalidDeed xty_InvalidDeed xm_TooMany_TooMany xm_TooMany_InvalidDeed⟩ .nil))))))))))))))))) h)
    mx_InvalidCommand := PySem.W.mg_of X G xa_InvalidCommand
    is_InvalidCommand := (fun c k h => lookup_all (P := fun c k => ∃ D, ca0 c = some D ∧ ExnC K D ∧ PySem.W.kitOne K (.ref D) (.ref x_InvalidCommand) = some k) (.cons ⟨x_InvalidCounts, CX_InvalidCounts, EX_InvalidCounts, kit_ref xhd_InvalidCommand xty_InvalidCommand xm_InvalidCounts_InvalidCounts xm_InvalidCounts_InvalidCommand⟩ (.cons ⟨x_NotCounts, CX_NotCounts, EX_NotCounts, kit_ref xhd_InvalidCommand xty_InvalidCommand xm_NotCounts_NotCounts xm_NotCounts_InvalidCommand⟩ (.cons ⟨x_InvalidTick, CX_InvalidTick, EX_InvalidTick, kit_ref xhd_InvalidCommand xty_InvalidCommand xm_InvalidTick_InvalidTick xm_InvalidTick_InvalidCommand⟩ (.cons ⟨x_InvalidNumber, CX_InvalidNumber, EX_InvalidNumber, kit_ref xhd_InvalidCommand xty_InvalidCommand xm_InvalidNumber_InvalidNumber xm_InvalidNumber_InvalidCommand⟩ (.cons ⟨x_InvalidText, CX_InvalidText, EX_InvalidText, kit_ref xhd_InvalidCommand xty_InvalidCommand xm_InvalidText_InvalidText xm_InvalidText_InvalidCommand⟩ (.cons ⟨x_InvalidStay, CX_InvalidStay, EX_InvalidStay, kit_ref xhd_InvalidCommand xty_InvalidCommand xm_InvalidStay_InvalidStay xm_InvalidStay_InvalidCommand⟩ (.cons ⟨x_InvalidHistory, CX_InvalidHistory, EX_InvalidHistory, kit_ref xhd_InvalidCommand xty_InvalidCommand xm_InvalidHistory_InvalidHistory xm_InvalidHistory_InvalidCommand⟩ (.cons ⟨x_InvalidName, CX_InvalidName, EX_InvalidName, kit_ref xhd_InvalidCommand xty_InvalidCommand xm_InvalidName_InvalidName xm_InvalidName_InvalidCommand⟩ (.cons ⟨x_InvalidLength, CX_InvalidLength, EX_InvalidLength, kit_ref xhd_InvalidCommand xty_InvalidCommand xm_InvalidLength_InvalidLength xm_InvalidLength_InvalidCommand⟩ (.cons ⟨x_InvalidDoors, CX_InvalidDoors, EX_InvalidDoors, kit_ref xhd_InvalidCommand xty_InvalidCommand xm_InvalidDoors_InvalidDoors xm_InvalidDoors_InvalidCommand⟩ (.cons ⟨x_InvalidDeed, CX_InvalidDeed, EX_InvalidDeed, kit_ref xhd_InvalidCommand xty_InvalidCommand xm_InvalidDeed_InvalidDeed xm_InvalidDeed_InvalidCommand⟩ (.cons ⟨x_InvalidCommand, CX_InvalidCommand, EX_InvalidCommand, kit_ref xhd_InvalidCommand xty_InvalidCommand xm_InvalidCommand_InvalidCommand xm_InvalidCommand_InvalidCommand⟩ (.cons ⟨x_Impossible, CX_Impossible, EX_Impossible, kit_ref xhd_InvalidCommand xty_InvalidCommand xm_Impossible_Impossible xm_Impossible_InvalidCommand⟩ (.cons ⟨x_NotKnown, CX_NotKnown, EX_NotKnown, kit_ref xhd_InvalidCommand xty_InvalidCommand xm_NotKnown_NotKnown xm_NotKnown_InvalidCommand⟩ (.cons ⟨x_LimitBroken, CX_LimitBroken, EX_LimitBroken, kit_ref xhd_InvalidCommand xty_InvalidCommand xm_LimitBroken_LimitBroken xm_LimitBroken_InvalidCommand⟩ (.cons ⟨x_NothingToUndo, CX_NothingToUndo, EX_NothingToUndo, kit_ref xhd_InvalidCommand xty_InvalidCommand xm_NothingToUndo_NothingToUndo xm_NothingToUndo_InvalidCommand⟩ (.cons ⟨x_TooMany, CX_TooMany, EX_TooMany, kit_ref xhd_InvalidCommand xty_InvalidCommand xm_TooMany_TooMany xm_TooMany_InvalidCommand⟩ .nil))))))))))))))))) h)
    mx_Impossible := PySem.W.mg_of X G xa_Impossible
    is_Impossible := (fun c k h => lookup_all (P := fun c k => ∃ D, ca0 c = some D ∧ ExnC K D ∧ PySem.W.kitOne K (.ref D) (.ref x_Impossible) = some k) (.cons ⟨x_InvalidCounts, CX_InvalidCounts, EX_InvalidCounts, kit_ref xhd_Impossible xty_Impossible xm_InvalidCounts_InvalidCounts xm_InvalidCounts_Impossible⟩ (.cons ⟨x_NotCounts, CX_NotCounts, EX_NotCounts, kit_ref xhd_Impossible xty_Impossible xm_NotCounts_NotCounts xm_NotCounts_Impossible⟩ (.cons ⟨x_InvalidTick, CX_InvalidTick, EX_InvalidTick, kit_ref xhd_Impossible xty_Impossible xm_InvalidTick_InvalidTick xm_InvalidTick_Impossible⟩ (.cons ⟨x_InvalidNumber, CX_InvalidNumber, EX_InvalidNumber, kit_ref xhd_Impossible xty_Impossible xm_InvalidNumber_InvalidNumber xm_InvalidNumber_Impossible⟩ (.cons ⟨x_InvalidText, CX_InvalidText, EX_InvalidText, kit_ref xhd_Impossible xty_Impossible xm_InvalidText_InvalidText xm_InvalidText_Impossible⟩ (.cons ⟨x_InvalidStay, CX_InvalidStay, EX_InvalidStay, kit_ref xhd_Impossible xty_Impossible xm_InvalidStay_InvalidStay xm_InvalidStay_Impossible⟩ (.cons ⟨x_InvalidHistory, CX_InvalidHistory, EX_InvalidHistory, kit_ref xhd_Impossible xty_Impossible xm_InvalidHistory_InvalidHistory xm_InvalidHistory_Impossible⟩ (.cons ⟨x_InvalidName, CX_InvalidName, EX_InvalidName, kit_ref xhd_Impossible xty_Impossible xm_InvalidName_InvalidName xm_InvalidName_Impossible⟩ (.cons ⟨x_InvalidLength, CX_InvalidLength, EX_InvalidLength, kit_ref xhd_Impossible xty_Impossible xm_InvalidLength_InvalidLength xm_InvalidLength_Impossible⟩ (.cons ⟨x_InvalidDoors, CX_InvalidDoors, EX_InvalidDoors, kit_ref xhd_Impossible xty_Impossible xm_InvalidDoors_InvalidDoors xm_InvalidDoors_Impossible⟩ (.cons ⟨x_InvalidDeed, CX_InvalidDeed, EX_InvalidDeed, kit_ref xhd_Impossible xty_Impossible xm_InvalidDeed_InvalidDeed xm_InvalidDeed_Impossible⟩ (.cons ⟨x_InvalidCommand, CX_InvalidCommand, EX_InvalidCommand, kit_ref xhd_Impossible xty_Impossible xm_InvalidCommand_InvalidCommand xm_InvalidCommand_Impossible⟩ (.cons ⟨x_Impossible, CX_Impossible, EX_Impossible, kit_ref xhd_Impossible xty_Impossible xm_Impossible_Impossible xm_Impossible_Impossible⟩ (.cons ⟨x_NotKnown, CX_NotKnown, EX_NotKnown, kit_ref xhd_Impossible xty_Impossible xm_NotKnown_NotKnown xm_NotKnown_Impossible⟩ (.cons ⟨x_LimitBroken, CX_LimitBroken, EX_LimitBroken, kit_ref xhd_Impossible xty_Impossible xm_LimitBroken_LimitBroken xm_LimitBroken_Impossible⟩ (.cons ⟨x_NothingToUndo, CX_NothingToUndo, EX_NothingToUndo, kit_ref xhd_Impossible xty_Impossible xm_NothingToUndo_NothingToUndo xm_NothingToUndo_Impossible⟩ (.cons ⟨x_TooMany, CX_TooMany, EX_TooMany, kit_ref xhd_Impossible xty_Impossible xm_TooMany_TooMany xm_TooMany_Impossible⟩ .nil))))))))))))))))) h)
    mx_NotKnown := PySem.W.mg_of X G xa_NotKnown
    is_NotKnown := (fun c k h => lookup_all (P := fun c k => ∃ D, ca0 c = some D ∧ ExnC K D ∧ PySem.W.kitOne K (.ref D) (.ref x_NotKnown) = some k) (.cons ⟨x_InvalidCounts, CX_InvalidCounts, EX_InvalidCounts, kit_ref xhd_NotKnown xty_NotKnown xm_InvalidCounts_InvalidCounts xm_InvalidCounts_NotKnown⟩ (.cons ⟨x_NotCounts, CX_NotCounts, EX_NotCounts, kit_ref xhd_NotKnown xty_NotKnown xm_NotCounts_NotCounts xm_NotCounts_NotKnown⟩ (.cons ⟨x_InvalidTick, CX_InvalidTick, EX_InvalidTick, kit_ref xhd_NotKnown xty_NotKnown xm_InvalidTick_InvalidTick xm_InvalidTick_NotKnown⟩ (.cons ⟨x_InvalidNumber, CX_InvalidNumber, EX_InvalidNumber, kit_ref xhd_NotKnown xty_NotKnown xm_InvalidNumber_InvalidNumber xm_InvalidNumber_NotKnown⟩ (.cons ⟨x_InvalidText, CX_InvalidText, EX_InvalidText, kit_ref xhd_NotKnown xty_NotKnown xm_InvalidText_InvalidText xm_InvalidText_NotKnown⟩ (.cons ⟨x_InvalidStay, CX_InvalidStay, EX_InvalidStay, kit_ref xhd_NotKnown xty_NotKnown xm_InvalidStay_InvalidStay xm_InvalidStay_NotKnown⟩ (.cons ⟨x_InvalidHistory, CX_InvalidHistory, EX_InvalidHistory, kit_ref xhd_NotKnown xty_NotKnown xm_InvalidHistory_InvalidHistory xm_InvalidHistory_NotKnown⟩ (.cons ⟨x_InvalidName, CX_InvalidName, EX_InvalidName, kit_ref xhd_NotKnown xty_NotKnown xm_InvalidName_InvalidName xm_InvalidName_NotKnown⟩ (.cons ⟨x_InvalidLength, CX_InvalidLength, EX_InvalidLength, kit_ref xhd_NotKnown xty_NotKnown xm_InvalidLength_InvalidLength xm_InvalidLength_NotKnown⟩ (.cons ⟨x_InvalidDoors, CX_InvalidDoors, EX_InvalidDoors, kit_ref xhd_NotKnown xty_NotKnown xm_InvalidDoors_InvalidDoors xm_InvalidDoors_NotKnown⟩ (.cons ⟨x_InvalidDeed, CX_InvalidDeed, EX_InvalidDeed, kit_ref xhd_NotKnown xty_NotKnown xm_InvalidDeed_InvalidDeed xm_InvalidDeed_NotKnown⟩ (.cons ⟨x_InvalidCommand, CX_InvalidCommand, EX_InvalidCommand, kit_ref xhd_NotKnown xty_NotKnown xm_InvalidCommand_InvalidCommand xm_InvalidCommand_NotKnown⟩ (.cons ⟨x_Impossible, CX_Impossible, EX_Impossible, kit_ref xhd_NotKnown xty_NotKnown xm_Impossible_Impossible xm_Impossible_NotKnown⟩ (.cons ⟨x_NotKnown, CX_NotKnown, EX_NotKnown, kit_ref xhd_NotKnown xty_NotKnown xm_NotKnown_NotKnown xm_NotKnown_NotKnown⟩ (.cons ⟨x_LimitBroken, CX_LimitBroken, EX_LimitBroken, kit_ref xhd_NotKnown xty_NotKnown xm_LimitBroken_LimitBroken xm_LimitBroken_NotKnown⟩ (.cons ⟨x_NothingToUndo, CX_NothingToUndo, EX_NothingToUndo, kit_ref xhd_NotKnown xty_NotKnown xm_NothingToUndo_NothingToUndo xm_NothingToUndo_NotKnown⟩ (.cons ⟨x_TooMany, CX_TooMany, EX_TooMany, kit_ref xhd_NotKnown xty_NotKnown xm_TooMany_TooMany xm_TooMany_NotKnown⟩ .nil))))))))))))))))) h)
    mx_LimitBroken := PySem.W.mg_of X G xa_LimitBroken
    is_LimitBroken := (fun c k h => lookup_all (P := fun c k => ∃ D, ca0 c = some D ∧ ExnC K D ∧ PySem.W.kitOne K (.ref D) (.ref x_LimitBroken) = some k) (.cons ⟨x_InvalidCounts, CX_InvalidCounts, EX_InvalidCounts, kit_ref xhd_LimitBroken xty_LimitBroken xm_InvalidCounts_InvalidCounts xm_InvalidCounts_LimitBroken⟩ (.cons ⟨x_NotCounts, CX_NotCounts, EX_NotCounts, kit_ref xhd_LimitBroken xty_LimitBroken xm_NotCounts_NotCounts xm_NotCounts_LimitBroken⟩ (.cons ⟨x_InvalidTick, CX_InvalidTick, EX_InvalidTick, kit_ref xhd_LimitBroken xty_LimitBroken xm_InvalidTick_InvalidTick xm_InvalidTick_LimitBroken⟩ (.cons ⟨x_InvalidNumber, CX_InvalidNumber, EX_InvalidNumber, kit_ref xhd_LimitBroken xty_LimitBroken xm_InvalidNumber_InvalidNumber xm_InvalidNumber_LimitBroken⟩ (.cons ⟨x_InvalidText, CX_InvalidText, EX_InvalidText, kit_ref xhd_LimitBroken xty_LimitBroken xm_InvalidText_InvalidText xm_InvalidText_LimitBroken⟩ (.cons ⟨x_InvalidStay, CX_InvalidStay, EX_InvalidStay, kit_ref xhd_LimitBroken xty_LimitBroken xm_InvalidStay_InvalidStay xm_InvalidStay_LimitBroken⟩ (.cons ⟨x_InvalidHistory, CX_InvalidHistory, EX_InvalidHistory, kit_ref xhd_LimitBroken xty_LimitBroken xm_InvalidHistory_InvalidHistory xm_InvalidHistory_LimitBroken⟩ (.cons ⟨x_InvalidName, CX_InvalidName, EX_InvalidName, kit_ref xhd_LimitBroken xty_LimitBroken xm_InvalidName_InvalidName xm_InvalidName_LimitBroken⟩ (.cons ⟨x_InvalidLength, CX_InvalidLength, EX_InvalidLength, kit_ref xhd_LimitBroken xty_LimitBroken xm_InvalidLength_InvalidLength xm_InvalidLength_LimitBroken⟩ (.cons ⟨x_InvalidDoors, CX_InvalidDoors, EX_InvalidDoors, kit_ref xhd_LimitBroken xty_LimitBroken xm_InvalidDoors_InvalidDoors xm_InvalidDoors_LimitBroken⟩ (.cons ⟨x_InvalidDeed, CX_InvalidDeed, EX_InvalidDeed, kit_ref xhd_LimitBroken xty_LimitBroken xm_InvalidDeed_InvalidDeed xm_InvalidDeed_LimitBroken⟩ (.cons ⟨x_InvalidCommand, CX_InvalidCommand, EX_InvalidCommand, kit_ref xhd_LimitBroken xty_LimitBroken xm_InvalidCommand_InvalidCommand xm_InvalidCommand_LimitBroken⟩ (.cons ⟨x_Impossible, CX_Impossible, EX_Impossible, kit_ref xhd_LimitBroken xty_LimitBroken xm_Impossible_Impossible xm_Impossible_LimitBroken⟩ (.cons ⟨x_NotKnown, CX_NotKnown, EX_NotKnown, kit_ref xhd_LimitBroken xty_LimitBroken xm_NotKnown_NotKnown xm_NotKnown_LimitBroken⟩ (.cons ⟨x_LimitBroken, CX_LimitBroken, EX_LimitBroken, kit_ref xhd_LimitBroken xty_LimitBroken xm_LimitBroken_LimitBroken xm_LimitBroken_LimitBroken⟩ (.cons ⟨x_NothingToUndo, CX_NothingToUndo, EX_NothingToUndo, kit_ref xhd_LimitBroken xty_LimitBroken xm_NothingToUndo_NothingToUndo xm_NothingToUndo_LimitBroken⟩ (.cons ⟨x_TooMany, CX_TooMany, EX_TooMany, kit_ref xhd_LimitBroken xty_LimitBroken xm_TooMany_TooMany xm_TooMany_LimitBroken⟩ .nil))))))))))))))))) h)
    mx_NothingToUndo := PySem.W.mg_of X G xa_NothingToUndo
    is_NothingToUndo := (fun c k h => lookup_all (P := fun c k => ∃ D, ca0 c = some D ∧ ExnC K D ∧ PySem.W.kitOne K (.ref D) (.ref x_NothingToUndo) = some k) (.cons ⟨x_InvalidCounts, CX_InvalidCounts, EX_InvalidCounts, kit_ref xhd_NothingToUndo xty_NothingToUndo xm_InvalidCounts_InvalidCounts xm_InvalidCounts_NothingToUndo⟩ (.cons ⟨x_NotCounts, CX_NotCounts, EX_NotCounts, kit_ref xhd_NothingToUndo xty_NothingToUndo xm_NotCounts_NotCounts xm_NotCounts_NothingToUndo⟩ (.cons ⟨x_InvalidTick, CX_InvalidTick, EX_InvalidTick, kit_ref xhd_NothingToUndo xty_NothingToUndo xm_InvalidTick_InvalidTick xm_InvalidTick_NothingToUndo⟩ (.cons ⟨x_InvalidNumber, CX_InvalidNumber, EX_InvalidNumber, kit_ref xhd_NothingToUndo xty_NothingToUndo xm_InvalidNumber_InvalidNumber xm_InvalidNumber_NothingToUndo⟩ (.cons ⟨x_InvalidText, CX_InvalidText, EX_InvalidText, kit_ref xhd_NothingToUndo xty_NothingToUndo xm_InvalidText_InvalidText xm_InvalidText_NothingToUndo⟩ (.cons ⟨x_InvalidStay, CX_InvalidStay, EX_InvalidStay, kit_ref xhd_NothingToUndo xty_NothingToUndo xm_InvalidStay_InvalidStay xm_InvalidStay_NothingToUndo⟩ (.cons ⟨x_InvalidHistory, CX_InvalidHistory, EX_InvalidHistory, kit_ref xhd_NothingToUndo xty_NothingToUndo xm_InvalidHistory_InvalidHistory xm_InvalidHistory_NothingToUndo⟩ (.cons ⟨x_InvalidName, CX_InvalidName, EX_InvalidName, kit_ref xhd_NothingToUndo xty_NothingToUndo xm_InvalidName_InvalidName xm_InvalidName_NothingToUndo⟩ (.cons ⟨x_InvalidLength, CX_InvalidLength, EX_InvalidLength, kit_ref xhd_NothingToUndo xty_NothingToUndo xm_InvalidLength_InvalidLength xm_InvalidLength_NothingToUndo⟩ (.cons ⟨x_InvalidDoors, CX_InvalidDoors, EX_InvalidDoors, kit_ref xhd_NothingToUndo xty_NothingToUndo xm_InvalidDoors_InvalidDoors xm_InvalidDoors_NothingToUndo⟩ (.cons ⟨x_InvalidDeed, CX_InvalidDeed, EX_InvalidDeed, kit_ref xhd_NothingToUndo xty_NothingToUndo xm_InvalidDeed_InvalidDeed xm_InvalidDeed_NothingToUndo⟩ (.cons ⟨x_InvalidCommand, CX_InvalidCommand, EX_InvalidCommand, kit_ref xhd_NothingToUndo xty_NothingToUndo xm_InvalidCommand_InvalidCommand xm_InvalidCommand_NothingToUndo⟩ (.cons ⟨x_Impossible, CX_Impossible, EX_Impossible, kit_ref xhd_NothingToUndo xty_NothingToUndo xm_Impossible_Impossible xm_Impossible_NothingToUndo⟩ (.cons ⟨x_NotKnown, CX_NotKnown, EX_NotKnown, kit_ref xhd_NothingToUndo xty_NothingToUndo xm_NotKnown_NotKnown xm_NotKnown_NothingToUndo⟩ (.cons ⟨x_LimitBroken, CX_LimitBroken, EX_LimitBroken, kit_ref xhd_NothingToUndo xty_NothingToUndo xm_LimitBroken_LimitBroken xm_LimitBroken_NothingToUndo⟩ (.cons ⟨x_NothingToUndo, CX_NothingToUndo, EX_NothingToUndo, kit_ref xhd_NothingToUndo xty_NothingToUndo xm_NothingToUndo_NothingToUndo xm_NothingToUndo_NothingToUndo⟩ (.cons ⟨x_TooMany, CX_TooMany, EX_TooMany, kit_ref xhd_NothingToUndo xty_NothingToUndo xm_TooMany_TooMany xm_TooMany_NothingToUndo⟩ .nil))))))))))))))))) h)
    mx_TooMany := PySem.W.mg_of X G xa_TooMany
    is_TooMany := (fun c k h => lookup_all (P := fun c k => ∃ D, ca0 c = some D ∧ ExnC K D ∧ PySem.W.kitOne K (.ref D) (.ref x_TooMany) = some k) (.cons ⟨x_InvalidCounts, CX_InvalidCounts, EX_InvalidCounts, kit_ref xhd_TooMany xty_TooMany xm_InvalidCounts_InvalidCounts xm_InvalidCounts_TooMany⟩ (.cons ⟨x_NotCounts, CX_NotCounts, EX_NotCounts, kit_ref xhd_TooMany xty_TooMany xm_NotCounts_NotCounts xm_NotCounts_TooMany⟩ (.cons ⟨x_InvalidTick, CX_InvalidTick, EX_InvalidTick, kit_ref xhd_TooMany xty_TooMany xm_InvalidTick_InvalidTick xm_InvalidTick_TooMany⟩ (.cons ⟨x_InvalidNumber, CX_InvalidNumber, EX_InvalidNumber, kit_ref xhd_TooMany xty_TooMany xm_InvalidNumber_InvalidNumber xm_InvalidNumber_TooMany⟩ (.cons ⟨x_InvalidText, CX_InvalidText, EX_InvalidText, kit_ref xhd_TooMany xty_TooMany xm_InvalidText_InvalidText xm_InvalidText_TooMany⟩ (.cons ⟨x_InvalidStay, CX_InvalidStay, EX_InvalidStay, kit_ref xhd_TooMany xty_TooMany xm_InvalidStay_InvalidStay xm_InvalidStay_TooMany⟩ (.cons ⟨x_InvalidHistory, CX_InvalidHistory, EX_InvalidHistory, kit_ref xhd_TooMany xty_TooMany xm_InvalidHistory_InvalidHistory xm_InvalidHistory_TooMany⟩ (.cons ⟨x_InvalidName, CX_InvalidName, EX_InvalidName, kit_ref xhd_TooMany xty_TooMany xm_InvalidName_InvalidName xm_InvalidName_TooMany⟩ (.cons ⟨x_InvalidLength, CX_InvalidLength, EX_InvalidLength, kit_ref xhd_TooMany xty_TooMany xm_InvalidLength_InvalidLength xm_InvalidLength_TooMany⟩ (.cons ⟨x_InvalidDoors, CX_InvalidDoors, EX_InvalidDoors, kit_ref xhd_TooMany xty_TooMany xm_InvalidDoors_InvalidDoors xm_InvalidDoors_TooMany⟩ (.cons ⟨x_InvalidDeed, CX_InvalidDeed, EX_InvalidDeed, kit_ref xhd_TooMany xty_TooMany xm_InvalidDeed_InvalidDeed xm_InvalidDeed_TooMany⟩ (.cons ⟨x_InvalidCommand, CX_InvalidCommand, EX_InvalidCommand, kit_ref xhd_TooMany xty_TooMany xm_InvalidCommand_InvalidCommand xm_InvalidCommand_TooMany⟩ (.cons ⟨x_Impossible, CX_Impossible, EX_Impossible, kit_ref xhd_TooMany xty_TooMany xm_Impossible_Impossible xm_Impossible_TooMany⟩ (.cons ⟨x_NotKnown, CX_NotKnown, EX_NotKnown, kit_ref xhd_TooMany xty_TooMany xm_NotKnown_NotKnown xm_NotKnown_TooMany⟩ (.cons ⟨x_LimitBroken, CX_LimitBroken, EX_LimitBroken, kit_ref xhd_TooMany xty_TooMany xm_LimitBroken_LimitBroken xm_LimitBroken_TooMany⟩ (.cons ⟨x_NothingToUndo, CX_NothingToUndo, EX_NothingToUndo, kit_ref xhd_TooMany xty_TooMany xm_NothingToUndo_NothingToUndo xm_NothingToUndo_TooMany⟩ (.cons ⟨x_TooMany, CX_TooMany, EX_TooMany, kit_ref xhd_TooMany xty_TooMany xm_TooMany_TooMany xm_TooMany_TooMany⟩ .nil))))))))))))))))) h)
    mx_CountError := PySem.W.mg_of X G xa_CountError
    is_CountError := (fun c k h => lookup_all (P := fun c k => ∃ D, ca0 c = some D ∧ ExnC K D ∧ PySem.W.kitOne K (.ref D) (.ref x_CountError) = some k) (.cons ⟨x_InvalidCounts, CX_InvalidCounts, EX_InvalidCounts, kit_ref xhd_CountError xty_CountError xm_InvalidCounts_InvalidCounts xm_InvalidCounts_CountError⟩ (.cons ⟨x_NotCounts, CX_NotCounts, EX_NotCounts, kit_ref xhd_CountError xty_CountError xm_NotCounts_NotCounts xm_NotCounts_CountError⟩ (.cons ⟨x_InvalidTick, CX_InvalidTick, EX_InvalidTick, kit_ref xhd_CountError xty_CountError xm_InvalidTick_InvalidTick xm_InvalidTick_CountError⟩ (.cons ⟨x_InvalidNumber, CX_InvalidNumber, EX_InvalidNumber, kit_ref xhd_CountError xty_CountError xm_InvalidNumber_InvalidNumber xm_InvalidNumber_CountError⟩ (.cons ⟨x_InvalidText, CX_InvalidText, EX_InvalidText, kit_ref xhd_CountError xty_CountError xm_InvalidText_InvalidText xm_InvalidText_CountError⟩ (.cons ⟨x_InvalidStay, CX_InvalidStay, EX_InvalidStay, kit_ref xhd_CountError xty_CountError xm_InvalidStay_InvalidStay xm_InvalidStay_CountError⟩ (.cons ⟨x_InvalidHistory, CX_InvalidHistory, EX_InvalidHistory, kit_ref xhd_CountError xty_CountError xm_InvalidHistory_InvalidHistory xm_InvalidHistory_CountError⟩ (.cons ⟨x_InvalidName, CX_InvalidName, EX_InvalidName, kit_ref xhd_CountError xty_CountError xm_InvalidName_InvalidName xm_InvalidName_CountError⟩ (.cons ⟨x_InvalidLength, CX_InvalidLength, EX_InvalidLength, kit_ref xhd_CountError xty_CountError xm_InvalidLength_InvalidLength xm_InvalidLength_CountError⟩ (.cons ⟨x_InvalidDoors, CX_InvalidDoors, EX_InvalidDoors, kit_ref xhd_CountError xty_CountError xm_InvalidDoors_InvalidDoors xm_InvalidDoors_CountError⟩ (.cons ⟨x_InvalidDeed, CX_InvalidDeed, EX_InvalidDeed, kit_ref xhd_CountError xty_CountError xm_InvalidDeed_InvalidDeed xm_InvalidDeed_CountError⟩ (.cons ⟨x_InvalidCommand, CX_InvalidCommand, EX_InvalidCommand, kit_ref xhd_CountError xty_CountError xm_InvalidCommand_InvalidCommand xm_InvalidCommand_CountError⟩ (.cons ⟨x_Impossible, CX_Impossible, EX_Impossible, kit_ref xhd_CountError xty_CountError xm_Impossible_Impossible xm_Impossible_CountError⟩ (.cons ⟨x_NotKnown, CX_NotKnown, EX_NotKnown, kit_ref xhd_CountError xty_CountError xm_NotKnown_NotKnown xm_NotKnown_CountError⟩ (.cons ⟨x_LimitBroken, CX_LimitBroken, EX_LimitBroken, kit_ref xhd_CountError xty_CountError xm_LimitBroken_LimitBroken xm_LimitBroken_CountError⟩ (.cons ⟨x_NothingToUndo, CX_NothingToUndo, EX_NothingToUndo, kit_ref xhd_CountError xty_CountError xm_NothingToUndo_NothingToUndo xm_NothingToUndo_CountError⟩ (.cons ⟨x_TooMany, CX_TooMany, EX_TooMany, kit_ref xhd_CountError xty_CountError xm_TooMany_TooMany xm_TooMany_CountError⟩ .nil))))))))))))))))) h)
    mx_SearchError := PySem.W.mg_of X G xa_SearchError
    is_SearchError := (fun c k h => lookup_all (P := fun c k => ∃ D, ca0 c = some D ∧ ExnC K D ∧ PySem.W.kitOne K (.ref D) (.ref x_SearchError) = some k) (.cons ⟨x_InvalidCounts, CX_InvalidCounts, EX_InvalidCounts, kit_ref xhd_SearchError xty_SearchError xm_InvalidCounts_InvalidCounts xm_InvalidCounts_SearchError⟩ (.cons ⟨x_NotCounts, CX_NotCounts, EX_NotCounts, kit_ref xhd_SearchError xty_SearchError xm_NotCounts_NotCounts xm_NotCounts_SearchError⟩ (.cons ⟨x_InvalidTick, CX_InvalidTick, EX_InvalidTick, kit_ref xhd_SearchError xty_SearchError xm_InvalidTick_InvalidTick xm_InvalidTick_SearchError⟩ (.cons ⟨x_InvalidNumber, CX_InvalidNumber, EX_InvalidNumber, kit_ref xhd_SearchError xty_SearchError xm_InvalidNumber_InvalidNumber xm_InvalidNumber_SearchError⟩ (.cons ⟨x_InvalidText, CX_InvalidText, EX_InvalidText, kit_ref xhd_SearchError xty_SearchError xm_InvalidText_InvalidText xm_InvalidText_SearchError⟩ (.cons ⟨x_InvalidStay, CX_InvalidStay, EX_InvalidStay, kit_ref xhd_SearchError xty_SearchError xm_InvalidStay_InvalidStay xm_InvalidStay_SearchError⟩ (.cons ⟨x_InvalidHistory, CX_InvalidHistory, EX_InvalidHistory, kit_ref xhd_SearchError xty_SearchError xm_InvalidHistory_InvalidHistory xm_InvalidHistory_SearchError⟩ (.cons ⟨x_InvalidName, CX_InvalidName, EX_InvalidName, kit_ref xhd_SearchError xty_SearchError xm_InvalidName_InvalidName xm_InvalidName_SearchError⟩ (.cons ⟨x_InvalidLength, CX_InvalidLength, EX_InvalidLength, kit_ref xhd_SearchError xty_SearchError xm_InvalidLength_InvalidLength xm_InvalidLength_SearchError⟩ (.cons ⟨x_InvalidDoors, CX_InvalidDoors, EX_InvalidDoors, kit_ref xhd_SearchError xty_SearchError xm_InvalidDoors_InvalidDoors xm_InvalidDoors_SearchError⟩ (.cons ⟨x_InvalidDeed, CX_InvalidDeed, EX_InvalidDeed, kit_ref xhd_SearchError xty_SearchError xm_InvalidDeed_InvalidDeed xm_InvalidDeed_SearchError⟩ (.cons ⟨x_InvalidCommand, CX_InvalidCommand, EX_InvalidCommand, kit_ref xhd_SearchError xty_SearchError xm_InvalidCommand_InvalidCommand xm_InvalidCommand_SearchError⟩ (.cons ⟨x_Impossible, CX_Impossible, EX_Impossible, kit_ref xhd_SearchError xty_SearchError xm_Impossible_Impossible xm_Impossible_SearchError⟩ (.cons ⟨x_NotKnown, CX_NotKnown, EX_NotKnown, kit_ref xhd_SearchError xty_SearchError xm_NotKnown_NotKnown xm_NotKnown_SearchError⟩ (.cons ⟨x_LimitBroken, CX_LimitBroken, EX_LimitBroken, kit_ref xhd_SearchError xty_SearchError xm_LimitBroken_LimitBroken xm_LimitBroken_SearchError⟩ (.cons ⟨x_NothingToUndo, CX_NothingToUndo, EX_NothingToUndo, kit_ref xhd_SearchError xty_SearchError xm_NothingToUndo_NothingToUndo xm_NothingToUndo_SearchError⟩ (.cons ⟨x_TooMany, CX_TooMany, EX_TooMany, kit_ref xhd_SearchError xty_SearchError xm_TooMany_TooMany xm_TooMany_SearchError⟩ .nil))))))))))))))))) h)
    mx_LimitError := PySem.W.mg_of X G xa_LimitError
    is_LimitError := (fun c k h => lookup_all (P := fun c k => ∃ D, ca0 c = some D ∧ ExnC K D ∧ PySem.W.kitOne K (.ref D) (.ref x_LimitError) = some k) (.cons ⟨x_InvalidCounts, CX_InvalidCounts, EX_InvalidCounts, kit_ref xhd_LimitError xty_LimitError xm_InvalidCounts_InvalidCounts xm_InvalidCounts_LimitError⟩ (.cons ⟨x_NotCounts, CX_NotCounts, EX_NotCounts, kit_ref xhd_LimitError xty_LimitError xm_NotCounts_NotCounts xm_NotCounts_LimitError⟩ (.cons ⟨x_InvalidTick, CX_InvalidTick, EX_InvalidTick, kit_ref xhd_LimitError xty_LimitError xm_InvalidTick_InvalidTick xm_InvalidTick_LimitError⟩ (.cons ⟨x_InvalidNumber, CX_InvalidNumber, EX_InvalidNumber, kit_ref xhd_LimitError xty_LimitError xm_InvalidNumber_InvalidNumber xm_InvalidNumber_LimitError⟩ (.cons ⟨x_InvalidText, CX_InvalidText, EX_InvalidText, kit_ref xhd_LimitError xty_LimitError xm_InvalidText_InvalidText xm_InvalidText_LimitError⟩ (.cons ⟨x_InvalidStay, CX_InvalidStay, EX_InvalidStay, kit_ref xhd_LimitError xty_LimitError xm_InvalidStay_InvalidStay xm_InvalidStay_LimitError⟩ (.cons ⟨x_InvalidHistory, CX_InvalidHistory, EX_InvalidHistory, kit_ref xhd_LimitError xty_LimitError xm_InvalidHistory_InvalidHistory xm_InvalidHistory_LimitError⟩ (.cons ⟨x_InvalidName, CX_InvalidName, EX_InvalidName, kit_ref xhd_LimitError xty_LimitError xm_InvalidName_InvalidName xm_InvalidName_LimitError⟩ (.cons ⟨x_InvalidLength, CX_InvalidLength, EX_InvalidLength, kit_ref xhd_LimitError xty_LimitError xm_InvalidLength_InvalidLength xm_InvalidLength_LimitError⟩ (.cons ⟨x_InvalidDoors, CX_InvalidDoors, EX_InvalidDoors, kit_ref xhd_LimitError xty_LimitError xm_InvalidDoors_InvalidDoors xm_InvalidDoors_LimitError⟩ (.cons ⟨x_InvalidDeed, CX_InvalidDeed, EX_InvalidDeed, kit_ref xhd_LimitError xty_LimitError xm_InvalidDeed_InvalidDeed xm_InvalidDeed_LimitError⟩ (.cons ⟨x_InvalidCommand, CX_InvalidCommand, EX_InvalidCommand, kit_ref xhd_LimitError xty_LimitError xm_InvalidCommand_InvalidCommand xm_InvalidCommand_LimitError⟩ (.cons ⟨x_Impossible, CX_Impossible, EX_Impossible, kit_ref xhd_LimitError xty_LimitError xm_Impossible_Impossible xm_Impossible_LimitError⟩ (.cons ⟨x_NotKnown, CX_NotKnown, EX_NotKnown, kit_ref xhd_LimitError xty_LimitError xm_NotKnown_NotKnown xm_NotKnown_LimitError⟩ (.cons ⟨x_LimitBroken, CX_LimitBroken, EX_LimitBroken, kit_ref xhd_LimitError xty_LimitError xm_LimitBroken_LimitBroken xm_LimitBroken_LimitError⟩ (.cons ⟨x_NothingToUndo, CX_NothingToUndo, EX_NothingToUndo, kit_ref xhd_LimitError xty_LimitError xm_NothingToUndo_NothingToUndo xm_NothingToUndo_LimitError⟩ (.cons ⟨x_TooMany, CX_TooMany, EX_TooMany, kit_ref xhd_LimitError xty_LimitError xm_TooMany_TooMany xm_TooMany_LimitError⟩ .nil))))))))))))))))) h)
    is_ValueError := (fun c k h => lookup_all (P := fun c k => ∃ D, ca0 c = some D ∧ ExnC K D ∧ PySem.W.kitOne K (.ref D) (.type "ValueError") = some k) (.cons ⟨x_InvalidCounts, CX_InvalidCounts, EX_InvalidCounts, kit_bty (by decide +kernel) xm_InvalidCounts_ValueError⟩ (.cons ⟨x_NotCounts, CX_NotCounts, EX_NotCounts, kit_bty (by decide +kernel) xm_NotCounts_ValueError⟩ (.cons ⟨x_InvalidTick, CX_InvalidTick, EX_InvalidTick, kit_bty (by decide +kernel) xm_InvalidTick_ValueError⟩ (.cons ⟨x_InvalidNumber, CX_InvalidNumber, EX_InvalidNumber, kit_bty (by decide +kernel) xm_InvalidNumber_ValueError⟩ (.cons ⟨x_InvalidText, CX_InvalidText, EX_InvalidText, kit_bty (by decide +kernel) xm_InvalidText_ValueError⟩ (.cons ⟨x_InvalidStay, CX_InvalidStay, EX_InvalidStay, kit_bty (by decide +kernel) xm_InvalidStay_ValueError⟩ (.cons ⟨x_InvalidHistory, CX_InvalidHistory, EX_InvalidHistory, kit_bty (by decide +kernel) xm_InvalidHistory_ValueError⟩ (.cons ⟨x_InvalidName, CX_InvalidName, EX_InvalidName, kit_bty (by decide +kernel) xm_InvalidName_ValueError⟩ (.cons ⟨x_InvalidLength, CX_InvalidLength, EX_InvalidLength, kit_bty (by decide +kernel) xm_InvalidLength_ValueError⟩ (.cons ⟨x_InvalidDoors, CX_InvalidDoors, EX_InvalidDoors, kit_bty (by decide +kernel) xm_InvalidDoors_ValueError⟩ (.cons ⟨x_InvalidDeed, CX_InvalidDeed, EX_InvalidDeed, kit_bty (by decide +kernel) xm_InvalidDeed_ValueError⟩ (.cons ⟨x_InvalidCommand, CX_InvalidCommand, EX_InvalidCommand, kit_bty (by decide +kernel) xm_InvalidCommand_ValueError⟩ (.cons ⟨x_Impossible, CX_Impossible, EX_Impossible, kit_bty (by decide +kernel) xm_Impossible_ValueError⟩ (.cons ⟨x_NotKnown, CX_NotKnown, EX_NotKnown, kit_bty (by decide +kernel) xm_NotKnown_ValueError⟩ (.cons ⟨x_LimitBroken, CX_LimitBroken, EX_LimitBroken, kit_bty (by decide +kernel) xm_LimitBroken_ValueError⟩ (.cons ⟨x_NothingToUndo, CX_NothingToUndo, EX_NothingToUndo, kit_bty (by decide +kernel) xm_NothingToUndo_ValueError⟩ (.cons ⟨x_TooMany, CX_TooMany, EX_TooMany, kit_bty (by decide +kernel) xm_TooMany_ValueError⟩ .nil))))))))))))))))) h)
    is_LookupError := (fun c k h => lookup_all (P := fun c k => ∃ D, ca0 c = some D ∧ ExnC K D ∧ PySem.W.kitOne K (.ref D) (.type "LookupError") = some k) (.cons ⟨x_InvalidCounts, CX_InvalidCounts, EX_InvalidCounts, kit_bty (by decide +kernel) xm_InvalidCounts_LookupError⟩ (.cons ⟨x_NotCounts, CX_NotCounts, EX_NotCounts, kit_bty (by decide +kernel) xm_NotCounts_LookupError⟩ (.cons ⟨x_InvalidTick, CX_InvalidTick, EX_InvalidTick, kit_bty (by decide +kernel) xm_InvalidTick_LookupError⟩ (.cons ⟨x_InvalidNumber, CX_InvalidNumber, EX_InvalidNumber, kit_bty (by decide +kernel) xm_InvalidNumber_LookupError⟩ (.cons ⟨x_InvalidText, CX_InvalidText, EX_InvalidText, kit_bty (by decide +kernel) xm_InvalidText_LookupError⟩ (.cons ⟨x_InvalidStay, CX_InvalidStay, EX_InvalidStay, kit_bty (by decide +kernel) xm_InvalidStay_LookupError⟩ (.cons ⟨x_InvalidHistory, CX_InvalidHistory, EX_InvalidHistory, kit_bty (by decide +kernel) xm_InvalidHistory_LookupError⟩ (.cons ⟨x_InvalidName, CX_InvalidName, EX_InvalidName, kit_bty (by decide +kernel) xm_InvalidName_LookupError⟩ (.cons ⟨x_InvalidLength, CX_InvalidLength, EX_InvalidLength, kit_bty (by decide +kernel) xm_InvalidLength_LookupError⟩ (.cons ⟨x_InvalidDoors, CX_InvalidDoors, EX_InvalidDoors, kit_bty (by decide +kernel) xm_InvalidDoors_LookupError⟩ (.cons ⟨x_InvalidDeed, CX_InvalidDeed, EX_InvalidDeed, kit_bty (by decide +kernel) xm_InvalidDeed_LookupError⟩ (.cons ⟨x_InvalidCommand, CX_InvalidCommand, EX_InvalidCommand, kit_bty (by decide +kernel) xm_InvalidCommand_LookupError⟩ (.cons ⟨x_Impossible, CX_Impossible, EX_Impossible, kit_bty (by decide +kernel) xm_Impossible_LookupError⟩ (.cons ⟨x_NotKnown, CX_NotKnown, EX_NotKnown, kit_bty (by decide +kernel) xm_NotKnown_LookupError⟩ (.cons ⟨x_LimitBroken, CX_LimitBroken, EX_LimitBroken, kit_bty (by decide +kernel) xm_LimitBroken_LookupError⟩ (.cons ⟨x_NothingToUndo, CX_NothingToUndo, EX_NothingToUndo, kit_bty (by decide +kernel) xm_NothingToUndo_LookupError⟩ (.cons ⟨x_TooMany, CX_TooMany, EX_TooMany, kit_bty (by decide +kernel) xm_TooMany_LookupError⟩ .nil))))))))))))))))) h)
    is_ArithmeticError := (fun c k h => lookup_all (P := fun c k => ∃ D, ca0 c = some D ∧ ExnC K D ∧ PySem.W.kitOne K (.ref D) (.type "ArithmeticError") = some k) (.cons ⟨x_InvalidCounts, CX_InvalidCounts, EX_InvalidCounts, kit_bty (by decide +kernel) xm_InvalidCounts_ArithmeticError⟩ (.cons ⟨x_NotCounts, CX_NotCounts, EX_NotCounts, kit_bty (by decide +kernel) xm_NotCounts_ArithmeticError⟩ (.cons ⟨x_InvalidTick, CX_InvalidTick, EX_InvalidTick, kit_bty (by decide +kernel) xm_InvalidTick_ArithmeticError⟩ (.cons ⟨x_InvalidNumber, CX_InvalidNumber, EX_InvalidNumber, kit_bty (by decide +kernel) xm_InvalidNumber_ArithmeticError⟩ (.cons ⟨x_InvalidText, CX_InvalidText, EX_InvalidText, kit_bty (by decide +kernel) xm_InvalidText_ArithmeticError⟩ (.cons ⟨x_InvalidStay, CX_InvalidStay, EX_InvalidStay, kit_bty (by decide +kernel) xm_InvalidStay_ArithmeticError⟩ (.cons ⟨x_InvalidHistory, CX_InvalidHistory, EX_InvalidHistory, kit_bty (by decide +kernel) xm_InvalidHistory_ArithmeticError⟩ (.cons ⟨x_InvalidName, CX_InvalidName, EX_InvalidName, kit_bty (by decide +kernel) xm_InvalidName_ArithmeticError⟩ (.cons ⟨x_InvalidLength, CX_InvalidLength, EX_InvalidLength, kit_bty (by decide +kernel) xm_InvalidLength_ArithmeticError⟩ (.cons ⟨x_InvalidDoors, CX_InvalidDoors, EX_InvalidDoors, kit_bty (by decide +kernel) xm_InvalidDoors_ArithmeticError⟩ (.cons ⟨x_InvalidDeed, CX_InvalidDeed, EX_InvalidDeed, kit_bty (by decide +kernel) xm_InvalidDeed_ArithmeticError⟩ (.cons ⟨x_InvalidCommand, CX_InvalidCommand, EX_InvalidCommand, kit_bty (by decide +kernel) xm_InvalidCommand_ArithmeticError⟩ (.cons ⟨x_Impossible, CX_Impossible, EX_Impossible, kit_bty (by decide +kernel) xm_Impossible_ArithmeticError⟩ (.cons ⟨x_NotKnown, CX_NotKnown, EX_NotKnown, kit_bty (by decide +kernel) xm_NotKnown_ArithmeticError⟩ (.cons ⟨x_LimitBroken, CX_LimitBroken, EX_LimitBroken, kit_bty (by decide +kernel) xm_LimitBroken_ArithmeticError⟩ (.cons ⟨x_NothingToUndo, CX_NothingToUndo, EX_NothingToUndo, kit_bty (by decide +kernel) xm_NothingToUndo_ArithmeticError⟩ (.cons ⟨x_TooMany, CX_TooMany, EX_TooMany, kit_bty (by decide +kernel) xm_TooMany_ArithmeticError⟩ .nil))))))))))))))))) h)
    xf_command := (List.forall_mem_cons.mpr ⟨⟨x_InvalidCommand, CX_InvalidCommand, EX_InvalidCommand, xn_InvalidCommand_command⟩, (fun _ h => nomatch h)⟩)
    xf_history := (List.forall_mem_cons.mpr ⟨⟨x_InvalidHistory, CX_InvalidHistory, EX_InvalidHistory, xn_InvalidHistory_history⟩, (fun _ h => nomatch h)⟩)
    xf_index := (List.forall_mem_cons.mpr ⟨⟨x_InvalidStay, CX_InvalidStay, EX_InvalidStay, xn_InvalidStay_index⟩, (List.forall_mem_cons.mpr ⟨⟨x_InvalidDoors, CX_InvalidDoors, EX_InvalidDoors, xn_InvalidDoors_index⟩, (List.forall_mem_cons.mpr ⟨⟨x_InvalidDeed, CX_InvalidDeed, EX_InvalidDeed, xn_InvalidDeed_index⟩, (fun _ h => nomatch h)⟩)⟩)⟩)
    xf_length := (List.forall_mem_cons.mpr ⟨⟨x_InvalidLength, CX_InvalidLength, EX_InvalidLength, xn_InvalidLength_length⟩, (fun _ h => nomatch h)⟩)
    xf_limit := (List.forall_mem_cons.mpr ⟨⟨x_TooMany, CX_TooMany, EX_TooMany, xn_TooMany_limit⟩, (fun _ h => nomatch h)⟩)
    xf_name := (List.forall_mem_cons.mpr ⟨⟨x_InvalidName, CX_InvalidName, EX_InvalidName, xn_InvalidName_name⟩, (fun _ h => nomatch h)⟩)
    xf_number := (List.forall_mem_cons.mpr ⟨⟨x_InvalidNumber, CX_InvalidNumber, EX_InvalidNumber, xn_InvalidNumber_number⟩, (fun _ h => nomatch h)⟩)
    xf_stay := (List.forall_mem_cons.mpr ⟨⟨x_NotKnown, CX_NotKnown, EX_NotKnown, xn_NotKnown_stay⟩, (fun _ h => nomatch h)⟩)
    xf_text := (List.forall_mem_cons.mpr ⟨⟨x_InvalidText, CX_InvalidText, EX_InvalidText, xn_InvalidText_text⟩, (fun _ h => nomatch h)⟩)
    xf_tick := (List.forall_mem_cons.mpr ⟨⟨x_InvalidCounts, CX_InvalidCounts, EX_InvalidCounts, xn_InvalidCounts_tick⟩, (List.forall_mem_cons.mpr ⟨⟨x_InvalidTick, CX_InvalidTick, EX_InvalidTick, xn_InvalidTick_tick⟩, (List.forall_mem_cons.mpr ⟨⟨x_Impossible, CX_Impossible, EX_Impossible, xn_Impossible_tick⟩, (fun _ h => nomatch h)⟩)⟩)⟩)
    xf_value := (List.forall_mem_cons.mpr ⟨⟨x_NotCounts, CX_NotCounts, EX_NotCounts, xn_NotCounts_value⟩, (fun _ h => nomatch h)⟩)
    xf_word := (List.forall_mem_cons.mpr ⟨⟨x_Impossible, CX_Impossible, EX_Impossible, xn_Impossible_word⟩, (fun _ h => nomatch h)⟩)
    na_arrivals := na_arrivals
    na_departures := na_departures
    co_MAX_TICKS := ⟨_, ic_MAX_TICKS, ⟨_, rfl⟩, ig_MAX_TICKS, by decide +kernel⟩
    co_MAX_PEOPLE := ⟨_, ic_MAX_PEOPLE, ⟨_, rfl⟩, ig_MAX_PEOPLE, by decide +kernel⟩
    cv_MAX_TICKS := ⟨_, cv_MAX_TICKS, ⟨_, rfl⟩⟩
    cv_MAX_PEOPLE := ⟨_, cv_MAX_PEOPLE, ⟨_, rfl⟩⟩
    c_eInvalidCounts := ⟨_, _, F_eInvalidCounts, a_eInvalidCounts, i_eInvalidCounts, F_eInvalidCounts.binds (ps := ["self", "tick"]) fun _ _ _ _ _ _ us hl => match us, hl with | [_, _], _ => rfl, ⟨fun s us ws _ h1 h2 => match us, h1, ws, h2 with | [_, _], _, [], _ => .of_eq rfl⟩, ⟨fun s us ws _ h1 h2 => match us, h1, ws, h2 with | [_], _, [_], _ => .of_eq rfl⟩⟩
    c_eNotCounts := ⟨_, _, F_eNotCounts, a_eNotCounts, i_eNotCounts, F_eNotCounts.binds (ps := ["self", "value"]) fun _ _ _ _ _ _ us hl => match us, hl with | [_, _], _ => rfl, ⟨fun s us ws _ h1 h2 => match us, h1, ws, h2 with | [_, _], _, [], _ => .of_eq rfl⟩, ⟨fun s us ws _ h1 h2 => match us, h1, ws, h2 with | [_], _, [_], _ => .of_eq rfl⟩⟩
    c_eInvalidTick := ⟨_, _, F_eInvalidTick, a_eInvalidTick, i_eInvalidTick, F_eInvalidTick.binds (ps := ["self", "tick"]) fun _ _ _ _ _ _ us hl => match us, hl with | [_, _], _ => rfl, ⟨fun s us ws _ h1 h2 => match us, h1, ws, h2 with | [_, _], _, [], _ => .of_eq rfl⟩, ⟨fun s us ws _ h1 h2 => match us, h1, ws, h2 with | [_], _, [_], _ => .of_eq rfl⟩⟩
    c_eInvalidNumber := ⟨_, _, F_eInvalidNumber, a_eInvalidNumber, i_eInvalidNumber, F_eInvalidNumber.binds (ps := ["self", "number"]) fun _ _ _ _ _ _ us hl => match us, hl with | [_, _], _ => rfl, ⟨fun s us ws _ h1 h2 => match us, h1, ws, h2 with | [_, _], _, [], _ => .of_eq rfl⟩, ⟨fun s us ws _ h1 h2 => match us, h1, ws, h2 with | [_], _, [_], _ => .of_eq rfl⟩⟩
    c_eInvalidText := ⟨_, _, F_eInvalidText, a_eInvalidText, i_eInvalidText, F_eInvalidText.binds (ps := ["self", "text"]) fun _ _ _ _ _ _ us hl => match us, hl with | [_, _], _ => rfl, ⟨fun s us ws _ h1 h2 => match us, h1, ws, h2 with | [_, _], _, [], _ => .of_eq rfl⟩, ⟨fun s us ws _ h1 h2 => match us, h1, ws, h2 with | [_], _, [_], _ => .of_eq rfl⟩⟩
    c_eInvalidStay := ⟨_, _, F_eInvalidStay, a_eInvalidStay, i_eInvalidStay, F_eInvalidStay.binds (ps := ["self", "index"]) fun _ _ _ _ _ _ us hl => match us, hl with | [_, _], _ => rfl, ⟨fun s us ws _ h1 h2 => match us, h1, ws, h2 with | [_, _], _, [], _ => .of_eq rfl⟩, ⟨fun s us ws _ h1 h2 => match us, h1, ws, h2 with | [_], _, [_], _ => .of_eq rfl⟩⟩
    c_eInvalidHistory := ⟨_, _, F_eInvalidHistory, a_eInvalidHistory, i_eInvalidHistory, F_eInvalidHistory.binds (ps := ["self", "history"]) fun _ _ _ _ _ _ us hl => match us, hl with | [_, _], _ => rfl, ⟨fun s us ws _ h1 h2 => match us, h1, ws, h2 with | [_, _], _, [], _ => .of_eq rfl⟩, ⟨fun s us ws _ h1 h2 => match us, h1, ws, h2 with | [_], _, [_], _ => .of_eq rfl⟩⟩
    c_eInvalidName := ⟨_, _, F_eInvalidName, a_eInvalidName, i_eInvalidName, F_eInvalidName.binds (ps := ["self", "name"]) fun _ _ _ _ _ _ us hl => match us, hl with | [_, _], _ => rfl, ⟨fun s us ws _ h1 h2 => match us, h1, ws, h2 with | [_, _], _, [], _ => .of_eq rfl⟩, ⟨fun s us ws _ h1 h2 => match us, h1, ws, h2 with | [_], _, [_], _ => .of_eq rfl⟩⟩
    c_eInvalidLength := ⟨_, _, F_eInvalidLength, a_eInvalidLength, i_eInvalidLength, F_eInvalidLength.binds (ps := ["self", "length"]) fun _ _ _ _ _ _ us hl => match us, hl with | [_, _], _ => rfl, ⟨fun s us ws _ h1 h2 => match us, h1, ws, h2 with | [_, _], _, [], _ => .of_eq rfl⟩, ⟨fun s us ws _ h1 h2 => match us, h1, ws, h2 with | [_], _, [_], _ => .of_eq rfl⟩⟩
    c_eInvalidDoors := ⟨_, _, F_eInvalidDoors, a_eInvalidDoors, i_eInvalidDoors, F_eInvalidDoors.binds (ps := ["self", "index"]) fun _ _ _ _ _ _ us hl => match us, hl with | [_, _], _ => rfl, ⟨fun s us ws _ h1 h2 => match us, h1, ws, h2 with | [_, _], _, [], _ => .of_eq rfl⟩, ⟨fun s us ws _ h1 h2 => match us, h1, ws, h2 with | [_], _, [_], _ => .of_eq rfl⟩⟩
    c_eInvalidDeed := ⟨_, _, F_eInvalidDeed, a_eInvalidDeed, i_eInvalidDeed, F_eInvalidDeed.binds (ps := ["self", "index"]) fun _ _ _ _ _ _ us hl => match us, hl with | [_, _], _ => rfl, ⟨fun s us ws _ h1 h2 => match us, h1, ws, h2 with | [_, _], _, [], _ => .of_eq rfl⟩, ⟨fun s us ws _ h1 h2 => match us, h1, ws, h2 with | [_], _, [_], _ => .of_eq rfl⟩⟩
    c_eInvalidCommand := ⟨_, _, F_eInvalidCommand, a_eInvalidCommand, i_eInvalidCommand, F_eInvalidCommand.binds (ps := ["self", "command"]) fun _ _ _ _ _ _ us hl => match us, hl with | [_, _], _ => rfl, ⟨fun s us ws _ h1 h2 => match us, h1, ws, h2 with | [_, _], _, [], _ => .of_eq rfl⟩, ⟨fun s us ws _ h1 h2 => match us, h1, ws, h2 with | [_], _, [_], _ => .of_eq rfl⟩⟩
    c_eImpossible := ⟨_, _, F_eImpossible, a_eImpossible, i_eImpossible, F_eImpossible.binds (ps := ["self", "word", "tick"]) fun _ _ _ _ _ _ us hl => match us, hl with | [_, _, _], _ => rfl, ⟨fun s us ws _ h1 h2 => match us, h1, ws, h2 with | [_, _, _], _, [], _ => .of_eq rfl⟩, ⟨fun s us ws _ h1 h2 => match us, h1, ws, h2 with | [_], _, [_, _], _ => .of_eq rfl⟩⟩
    c_eNotKnown := ⟨_, _, F_eNotKnown, a_eNotKnown, i_eNotKnown, F_eNotKnown.binds (ps := ["self", "stay"]) fun _ _ _ _ _ _ us hl => match us, hl with | [_, _], _ => rfl, ⟨fun s us ws _ h1 h2 => match us, h1, ws, h2 with | [_, _], _, [], _ => .of_eq rfl⟩, ⟨fun s us ws _ h1 h2 => match us, h1, ws, h2 with | [_], _, [_], _ => .of_eq rfl⟩⟩
    c_eTooMany := ⟨_, _, F_eTooMany, a_eTooMany, i_eTooMany, F_eTooMany.binds (ps := ["self", "limit"]) fun _ _ _ _ _ _ us hl => match us, hl with | [_, _], _ => rfl, ⟨fun s us ws _ h1 h2 => match us, h1, ws, h2 with | [_, _], _, [], _ => .of_eq rfl⟩, ⟨fun s us ws _ h1 h2 => match us, h1, ws, h2 with | [_], _, [_], _ => .of_eq rfl⟩⟩
    c_ii := ⟨_, _, F_ii, PySem.W.mg_of X G a_ii, k_ii, F_ii.binds (ps := ["value", "low", "high"]) fun _ _ _ _ _ _ us hl => match us, hl with | [_, _, _], _ => rfl⟩
    c_cl := ⟨_, _, F_cl, PySem.W.mg_of X G a_cl, k_cl, F_cl.binds (ps := ["arrivals", "departures"]) fun _ _ _ _ _ _ us hl => match us, hl with | [_, _], _ => rfl⟩
    c_inu := ⟨_, _, F_inu, PySem.W.mg_of X G a_inu, k_inu, F_inu.binds (ps := ["value"]) fun _ _ _ _ _ _ us hl => match us, hl with | [_], _ => rfl⟩
    c_cn := ⟨_, _, F_cn, PySem.W.mg_of X G a_cn, k_cn, F_cn.binds (ps := ["arrivals", "departures"]) fun _ _ _ _ _ _ us hl => match us, hl with | [_, _], _ => rfl⟩
    c_ini := ⟨_, _, F_ini, ⟨mk, a_ini, i_ini, kc⟩, ⟨fun s us ws _ h1 h2 => match us, h1, ws, h2 with | [_, _, _], _, [], _ => .of_eq rfl⟩⟩
    c_cell := ⟨_, _, F_cell, PySem.W.mg_of X G a_cell, k_cell, F_cell.binds (ps := ["_law_cells", "_law_k"]) fun _ _ _ _ _ _ us hl => match us, hl with | [_, _], _ => rfl⟩
    c_pool := ⟨_, _, F_pool, PySem.W.mg_of X G a_pool, k_pool, F_pool.binds (ps := ["_law_cell_here"]) fun _ _ _ _ _ _ us hl => match us, hl with | [_], _ => rfl⟩
    c_draw := ⟨_, _, F_draw, PySem.W.mg_of X G a_draw, k_draw, F_draw.binds (ps := ["_law_pool_here", "_law_many"]) fun _ _ _ _ _ _ us hl => match us, hl with | [_, _], _ => rfl⟩
    c_error := ⟨_, _, F_error, PySem.W.mg_of X G a_error, k_error, F_error.binds (ps := ["_law_e"]) fun _ _ _ _ _ _ us hl => match us, hl with | [_], _ => rfl⟩
    c_made := ⟨_, _, F_made, PySem.W.mg_of X G a_made, k_made, F_made.binds (ps := ["_law_thing", "_law_mate"]) fun _ _ _ _ _ _ us hl => match us, hl with | [_, _], _ => rfl⟩
    c_fields := ⟨_, _, F_fields, PySem.W.mg_of X G a_fields, k_fields, F_fields.binds (ps := ["_law_e", "_law_at"]) fun _ _ _ _ _ _ us hl => match us, hl with | [_, _], _ => rfl⟩
    c_right := ⟨_, _, F_right, PySem.W.mg_of X G a_right, k_right, F_right.binds (ps := ["_law_pool_here"]) fun _ _ _ _ _ _ us hl => match us, hl with | [_], _ => rfl⟩
    c_law := ⟨_, _, F_law, PySem.W.mg_of X G a_law, k_law, F_law.binds (ps := ["_law_cells"]) fun _ _ _ _ _ _ us hl => match us, hl with | [_], _ => rfl⟩
  }
  exact ⟨PySem.W.fnOf "law" "law" (defArgs s_law) (defBody s_law) (defScope s_law) .none kV_law dc_law pm_law an_law cd_law ct_law, fun s v => .of_eq rfl, fun base _ _  => ⟨_, ok_law (T base ) F_law⟩⟩
end K07
open PySem PySem.W PyProof.Rows
set_option maxRecDepth 100000 in
set_option maxHeartbeats 0 in
theorem PySem.Challenge.cw_staycounts_k07_errors_and_class_values_holds : PySem.Challenge.rw_staycounts_k07_errors_and_class_values.Holds := by
  w_on; o_law; k_head; (case hw => w_witness2)
  k_fill
  refine PL.walk_g (ca := fun _ _ => none) (l := PySem.Challenge.rw_staycounts_k07_errors_and_class_values) (x := "_law_cells") (k := 6) (G := K07.F_law) rfl rfl ⟨rfl, by decide, by decide⟩ (fun w h Y => PySem.W.kIn_of Y) ?F K07.holds
  case F =>
    intro w mg fa h KX G hmg
    refine' K07.all_mk KX G hmg ?aC ?xa_InvalidCounts ?xa_NotCounts ?xa_InvalidTick ?xa_InvalidNumber ?xa_InvalidText ?xa_InvalidStay ?xa_InvalidHistory ?xa_InvalidName ?xa_InvalidLength ?xa_InvalidDoors ?xa_InvalidDeed ?xa_InvalidCommand ?xa_Impossible ?xa_NotKnown ?xa_LimitBroken ?xa_NothingToUndo ?xa_TooMany ?xa_CountError ?xa_SearchError ?xa_LimitError ?a_eInvalidCounts ?i_eInvalidCounts ?l_eInvalidCounts ?c_eInvalidCounts ?k_eInvalidCounts ?a_eNotCounts ?i_eNotCounts ?l_eNotCounts ?c_eNotCounts ?k_eNotCounts ?a_eInvalidTick ?i_eInvalidTick ?l_eInvalidTick ?c_eInvalidTick ?k_eInvalidTick ?a_eInvalidNumber ?i_eInvalidNumber ?l_eInvalidNumber ?c_eInvalidNumber ?k_eInvalidNumber ?a_eInvalidText ?i_eInvalidText ?l_eInvalidText ?c_eInvalidText ?k_eInvalidText ?a_eInvalidStay ?i_eInvalidStay ?l_eInvalidStay ?c_eInvalidStay ?k_eInvalidStay ?a_eInvalidHistory ?i_eInvalidHistory ?l_eInvalidHistory ?c_eInvalidHistory ?k_eInvalidHistory ?a_eInvalidName ?i_eInvalidName ?l_eInvalidName ?c_eInvalidName ?k_eInvalidName ?a_eInvalidLength ?i_eInvalidLength ?l_eInvalidLength ?c_eInvalidLength ?k_eInvalidLength ?a_eInvalidDoors ?i_eInvalidDoors ?l_eInvalidDoors ?c_eInvalidDoors ?k_eInvalidDoors ?a_eInvalidDeed ?i_eInvalidDeed ?l_eInvalidDeed ?c_eInvalidDeed ?k_eInvalidDeed ?a_eInvalidCommand ?i_eInvalidCommand ?l_eInvalidCommand ?c_eInvalidCommand ?k_eInvalidCommand ?a_eImpossible ?i_eImpossible ?l_eImpossible ?c_eImpossible ?k_eImpossible ?a_eNotKnown ?i_eNotKnown ?l_eNotKnown ?c_eNotKnown ?k_eNotKnown ?a_eTooMany ?i_eTooMany ?l_eTooMany ?c_eTooMany ?k_eTooMany ?a_ii ?l_ii ?c_ii ?k_ii ?a_cl ?l_cl ?c_cl ?k_cl ?a_inu ?l_inu ?c_inu ?k_inu ?a_cn ?l_cn ?c_cn ?k_cn ?a_ini ?i_ini ?l_ini ?c_ini ?k_ini ?a_cell ?l_cell ?c_cell ?k_cell ?a_pool ?l_pool ?c_pool ?k_pool ?a_draw ?l_draw ?c_draw ?k_draw ?a_error ?l_error ?c_error ?k_error ?a_made ?l_made ?c_made ?k_made ?a_fields ?l_fields ?c_fields ?k_fields ?a_right ?l_right ?c_right ?k_right ?a_law ?l_law ?c_law ?k_law ?pg ?hd ?po ?sa ?mk ?kc ?rd ?ga ?ha ?hn ?tk ?mr ?ty ?bt_bool ?bt_int ?bt_str ?bt_tuple ?bt_list ?bt_dict ?na_arrivals ?na_departures ?cv_MAX_TICKS ?cv_MAX_PEOPLE ?ic_MAX_TICKS ?ig_MAX_TICKS ?ic_MAX_PEOPLE ?ig_MAX_PEOPLE ?z_isinstance ?z_len ?z_int ?z_bool ?z_tuple ?z_list ?z_str ?z_enumerate ?z_zip ?z_range ?z_min ?z_max ?z_repr ?z_all ?z_divmod ?z_abs ?z_sum ?z_ValueError ?z_LookupError ?z_ArithmeticError ?xhd_InvalidCounts ?xty_InvalidCounts ?xbe_InvalidCounts ?xm_InvalidCounts_InvalidCounts ?xm_NotCounts_InvalidCounts ?xm_InvalidTick_InvalidCounts ?xm_InvalidNumber_InvalidCounts ?xm_InvalidText_InvalidCounts ?xm_InvalidStay_InvalidCounts ?xm_InvalidHistory_InvalidCounts ?xm_InvalidName_InvalidCounts ?xm_InvalidLength_InvalidCounts ?xm_InvalidDoors_InvalidCounts ?xm_InvalidDeed_InvalidCounts ?xm_InvalidCommand_InvalidCounts ?xm_Impossible_InvalidCounts ?xm_NotKnown_InvalidCounts ?xm_LimitBroken_InvalidCounts ?xm_NothingToUndo_InvalidCounts ?xm_TooMany_InvalidCounts ?xhd_NotCounts ?xty_NotCounts ?xbe_NotCounts ?xm_InvalidCounts_NotCounts ?xm_NotCounts_NotCounts ?xm_InvalidTick_NotCounts ?xm_InvalidNumber_NotCounts ?xm_InvalidText_NotCounts ?xm_InvalidStay_NotCounts ?xm_InvalidHistory_NotCounts ?xm_InvalidName_NotCounts ?xm_InvalidLength_NotCounts ?xm_InvalidDoors_NotCounts ?xm_InvalidDeed_NotCounts ?xm_InvalidCommand_NotCounts ?xm_Impossible_NotCounts ?xm_NotKnown_NotCounts ?xm_LimitBroken_NotCounts ?xm_NothingToUndo_NotCounts ?xm_TooMany_NotCounts ?xhd_InvalidTick ?xty_InvalidTick ?xbe_InvalidTick ?xm_InvalidCounts_InvalidTick ?xm_NotCounts_InvalidTick ?xm_InvalidTick_InvalidTick ?xm_InvalidNumber_InvalidTick ?xm_InvalidText_InvalidTick ?xm_InvalidStay_InvalidTick ?xm_InvalidHistory_InvalidTick ?xm_InvalidName_InvalidTick ?xm_InvalidLength_InvalidTick ?xm_InvalidDoors_InvalidTick ?xm_InvalidDeed_InvalidTick ?xm_InvalidCommand_InvalidTick ?xm_Impossible_InvalidTick ?xm_NotKnown_InvalidTick ?xm_LimitBroken_InvalidTick ?xm_NothingToUndo_InvalidTick ?xm_TooMany_InvalidTick ?xhd_InvalidNumber ?xty_InvalidNumber ?xbe_InvalidNumber ?xm_InvalidCounts_InvalidNumber ?xm_NotCounts_InvalidNumber ?xm_InvalidTick_InvalidNumber ?xm_InvalidNumber_InvalidNumber ?xm_InvalidText_InvalidNumber ?xm_InvalidStay_InvalidNumber ?xm_InvalidHistory_InvalidNumber ?xm_InvalidName_InvalidNumber ?xm_InvalidLength_InvalidNumber ?xm_InvalidDoors_InvalidNumber ?xm_InvalidDeed_InvalidNumber ?xm_InvalidCommand_InvalidNumber ?xm_Impossible_InvalidNumber ?xm_NotKnown_InvalidNumber ?xm_LimitBroken_InvalidNumber ?xm_NothingToUndo_InvalidNumber ?xm_TooMany_InvalidNumber ?xhd_InvalidText ?xty_InvalidText ?xbe_InvalidText ?xm_InvalidCounts_InvalidText ?xm_NotCounts_InvalidText ?xm_InvalidTick_InvalidText ?xm_InvalidNumber_InvalidText ?xm_InvalidText_InvalidText ?xm_InvalidStay_InvalidText ?xm_InvalidHistory_InvalidText ?xm_InvalidName_InvalidText ?xm_InvalidLength_InvalidText ?xm_InvalidDoors_InvalidText ?xm_InvalidDeed_InvalidText ?xm_InvalidCommand_InvalidText ?xm_Impossible_InvalidText ?xm_NotKnown_InvalidText ?xm_LimitBroken_InvalidText ?xm_NothingToUndo_InvalidText ?xm_TooMany_InvalidText ?xhd_InvalidStay ?xty_InvalidStay ?xbe_InvalidStay ?xm_InvalidCounts_InvalidStay ?xm_NotCounts_InvalidStay ?xm_InvalidTick_InvalidStay ?xm_InvalidNumber_InvalidStay ?xm_InvalidText_InvalidStay ?xm_InvalidStay_InvalidStay ?xm_InvalidHistory_InvalidStay ?xm_InvalidName_InvalidStay ?xm_InvalidLength_InvalidStay ?xm_InvalidDoors_InvalidStay ?xm_InvalidDeed_InvalidStay ?xm_InvalidCommand_InvalidStay ?xm_Impossible_InvalidStay ?xm_NotKnown_InvalidStay ?xm_LimitBroken_InvalidStay ?xm_NothingToUndo_InvalidStay ?xm_TooMany_InvalidStay ?xhd_InvalidHistory ?xty_InvalidHistory ?xbe_InvalidHistory ?xm_InvalidCounts_InvalidHistory ?xm_NotCounts_InvalidHistory ?xm_InvalidTick_InvalidHistory ?xm_InvalidNumber_InvalidHistory ?xm_InvalidText_InvalidHistory ?xm_InvalidStay_InvalidHistory ?xm_InvalidHistory_InvalidHistory ?xm_InvalidName_InvalidHistory ?xm_InvalidLength_InvalidHistory ?xm_InvalidDoors_InvalidHistory ?xm_InvalidDeed_InvalidHistory ?xm_InvalidCommand_InvalidHistory ?xm_Impossible_InvalidHistory ?xm_NotKnown_InvalidHistory ?xm_LimitBroken_InvalidHistory ?xm_NothingToUndo_InvalidHistory ?xm_TooMany_InvalidHistory ?xhd_InvalidName ?xty_InvalidName ?xbe_InvalidName ?xm_InvalidCounts_InvalidName ?xm_NotCounts_InvalidName ?xm_InvalidTick_InvalidName ?xm_InvalidNumber_InvalidName ?xm_InvalidText_InvalidName ?xm_InvalidStay_InvalidName ?xm_InvalidHistory_InvalidName ?xm_InvalidName_InvalidName ?xm_InvalidLength_InvalidName ?xm_InvalidDoors_InvalidName ?xm_InvalidDeed_InvalidName ?xm_InvalidCommand_InvalidName ?xm_Impossible_InvalidName ?xm_NotKnown_InvalidName ?xm_LimitBroken_InvalidName ?xm_NothingToUndo_InvalidName ?xm_TooMany_InvalidName ?xhd_InvalidLength ?xty_InvalidLength ?xbe_InvalidLength ?xm_InvalidCounts_InvalidLength ?xm_NotCounts_InvalidLength ?xm_InvalidTick_InvalidLength ?xm_InvalidNumber_InvalidLength ?xm_InvalidText_InvalidLength ?xm_InvalidStay_InvalidLength ?xm_InvalidHistory_InvalidLength ?xm_InvalidName_InvalidLength ?xm_InvalidLength_InvalidLength ?xm_InvalidDoors_InvalidLength ?xm_InvalidDeed_InvalidLength ?xm_InvalidCommand_InvalidLength ?xm_Impossible_InvalidLength ?xm_NotKnown_InvalidLength ?xm_LimitBroken_InvalidLength ?xm_NothingToUndo_InvalidLength ?xm_TooMany_InvalidLength ?xhd_InvalidDoors ?xty_InvalidDoors ?xbe_InvalidDoors ?xm_InvalidCounts_InvalidDoors ?xm_NotCounts_InvalidDoors ?xm_InvalidTick_InvalidDoors ?xm_InvalidNumber_InvalidDoors ?xm_InvalidText_InvalidDoors ?xm_InvalidStay_InvalidDoors ?xm_InvalidHistory_InvalidDoors ?xm_InvalidName_InvalidDoors ?xm_InvalidLength_InvalidDoors ?xm_InvalidDoors_InvalidDoors ?xm_InvalidDeed_InvalidDoors ?xm_InvalidCommand_InvalidDoors ?xm_Impossible_InvalidDoors ?xm_NotKnown_InvalidDoors ?xm_LimitBroken_InvalidDoors ?xm_NothingToUndo_InvalidDoors ?xm_TooMany_InvalidDoors ?xhd_InvalidDeed ?xty_InvalidDeed ?xbe_InvalidDeed ?xm_InvalidCounts_InvalidDeed ?xm_NotCounts_InvalidDeed ?xm_InvalidTick_InvalidDeed ?xm_InvalidNumber_InvalidDeed ?xm_InvalidText_InvalidDeed ?xm_InvalidStay_InvalidDeed ?xm_InvalidHistory_InvalidDeed ?xm_InvalidName_InvalidDeed ?xm_InvalidLength_InvalidDeed ?xm_InvalidDoors_InvalidDeed ?xm_InvalidDeed_InvalidDeed ?xm_InvalidCommand_InvalidDeed ?xm_Impossible_InvalidDeed ?xm_NotKnown_InvalidDeed ?xm_LimitBroken_InvalidDeed ?xm_NothingToUndo_InvalidDeed ?xm_TooMany_InvalidDeed ?xhd_InvalidCommand ?xty_InvalidCommand ?xbe_InvalidCommand ?xm_InvalidCounts_InvalidCommand ?xm_NotCounts_InvalidCommand ?xm_InvalidTick_InvalidCommand ?xm_InvalidNumber_InvalidCommand ?xm_InvalidText_InvalidCommand ?xm_InvalidStay_InvalidCommand ?xm_InvalidHistory_InvalidCommand ?xm_InvalidName_InvalidCommand ?xm_InvalidLength_InvalidCommand ?xm_InvalidDoors_InvalidCommand ?xm_InvalidDeed_InvalidCommand ?xm_InvalidCommand_InvalidCommand ?xm_Impossible_InvalidCommand ?xm_NotKnown_InvalidCommand ?xm_LimitBroken_InvalidCommand ?xm_NothingToUndo_InvalidCommand ?xm_TooMany_InvalidCommand ?xhd_Impossible ?xty_Impossible ?xbe_Impossible ?xm_InvalidCounts_Impossible ?xm_NotCounts_Impossible ?xm_InvalidTick_Impossible ?xm_InvalidNumber_Impossible ?xm_InvalidText_Impossible ?xm_InvalidStay_Impossible ?xm_InvalidHistory_Impossible ?xm_InvalidName_Impossible ?xm_InvalidLength_Impossible ?xm_InvalidDoors_Impossible ?xm_InvalidDeed_Impossible ?xm_InvalidCommand_Impossible ?xm_Impossible_Impossible ?xm_NotKnown_Impossible ?xm_LimitBroken_Impossible ?xm_NothingToUndo_Impossible ?xm_TooMany_Impossible ?xhd_NotKnown ?xty_NotKnown ?xbe_NotKnown ?xm_InvalidCounts_NotKnown ?xm_NotCounts_NotKnown ?xm_InvalidTick_NotKnown ?xm_InvalidNumber_NotKnown ?xm_InvalidText_NotKnown ?xm_InvalidStay_NotKnown ?xm_InvalidHistory_NotKnown ?xm_InvalidName_NotKnown ?xm_InvalidLength_NotKnown ?xm_InvalidDoors_NotKnown ?xm_InvalidDeed_NotKnown ?xm_InvalidCommand_NotKnown ?xm_Impossible_NotKnown ?xm_NotKnown_NotKnown ?xm_LimitBroken_NotKnown ?xm_NothingToUndo_NotKnown ?xm_TooMany_NotKnown ?xhd_LimitBroken ?xty_LimitBroken ?xbe_LimitBroken ?xm_InvalidCounts_LimitBroken ?xm_NotCounts_LimitBroken ?xm_InvalidTick_LimitBroken ?xm_InvalidNumber_LimitBroken ?xm_InvalidText_LimitBroken ?xm_InvalidStay_LimitBroken ?xm_InvalidHistory_LimitBroken ?xm_InvalidName_LimitBroken ?xm_InvalidLength_LimitBroken ?xm_InvalidDoors_LimitBroken ?xm_InvalidDeed_LimitBroken ?xm_InvalidCommand_LimitBroken ?xm_Impossible_LimitBroken ?xm_NotKnown_LimitBroken ?xm_LimitBroken_LimitBroken ?xm_NothingToUndo_LimitBroken ?xm_TooMany_LimitBroken ?xhd_NothingToUndo ?xty_NothingToUndo ?xbe_NothingToUndo ?xm_InvalidCounts_NothingToUndo ?xm_NotCounts_NothingToUndo ?xm_InvalidTick_NothingToUndo ?xm_InvalidNumber_NothingToUndo ?xm_InvalidText_NothingToUndo ?xm_InvalidStay_NothingToUndo ?xm_InvalidHistory_NothingToUndo ?xm_InvalidName_NothingToUndo ?xm_InvalidLength_NothingToUndo ?xm_InvalidDoors_NothingToUndo ?xm_InvalidDeed_NothingToUndo ?xm_InvalidCommand_NothingToUndo ?xm_Impossible_NothingToUndo ?xm_NotKnown_NothingToUndo ?xm_LimitBroken_NothingToUndo ?xm_NothingToUndo_NothingToUndo ?xm_TooMany_NothingToUndo ?xhd_TooMany ?xty_TooMany ?xbe_TooMany ?xm_InvalidCounts_TooMany ?xm_NotCounts_TooMany ?xm_InvalidTick_TooMany ?xm_InvalidNumber_TooMany ?xm_InvalidText_TooMany ?xm_InvalidStay_TooMany ?xm_InvalidHistory_TooMany ?xm_InvalidName_TooMany ?xm_InvalidLength_TooMany ?xm_InvalidDoors_TooMany ?xm_InvalidDeed_TooMany ?xm_InvalidCommand_TooMany ?xm_Impossible_TooMany ?xm_NotKnown_TooMany ?xm_LimitBroken_TooMany ?xm_NothingToUndo_TooMany ?xm_TooMany_TooMany ?xhd_CountError ?xty_CountError ?xm_InvalidCounts_CountError ?xm_NotCounts_CountError ?xm_InvalidTick_CountError ?xm_InvalidNumber_CountError ?xm_InvalidText_CountError ?xm_InvalidStay_CountError ?xm_InvalidHistory_CountError ?xm_InvalidName_CountError ?xm_InvalidLength_CountError ?xm_InvalidDoors_CountError ?xm_InvalidDeed_CountError ?xm_InvalidCommand_CountError ?xm_Impossible_CountError ?xm_NotKnown_CountError ?xm_LimitBroken_CountError ?xm_NothingToUndo_CountError ?xm_TooMany_CountError ?xhd_SearchError ?xty_SearchError ?xm_InvalidCounts_SearchError ?xm_NotCounts_SearchError ?xm_InvalidTick_SearchError ?xm_InvalidNumber_SearchError ?xm_InvalidText_SearchError ?xm_InvalidStay_SearchError ?xm_InvalidHistory_SearchError ?xm_InvalidName_SearchError ?xm_InvalidLength_SearchError ?xm_InvalidDoors_SearchError ?xm_InvalidDeed_SearchError ?xm_InvalidCommand_SearchError ?xm_Impossible_SearchError ?xm_NotKnown_SearchError ?xm_LimitBroken_SearchError ?xm_NothingToUndo_SearchError ?xm_TooMany_SearchError ?xhd_LimitError ?xty_LimitError ?xm_InvalidCounts_LimitError ?xm_NotCounts_LimitError ?xm_InvalidTick_LimitError ?xm_InvalidNumber_LimitError ?xm_InvalidText_LimitError ?xm_InvalidStay_LimitError ?xm_InvalidHistory_LimitError ?xm_InvalidName_LimitError ?xm_InvalidLength_LimitError ?xm_InvalidDoors_LimitError ?xm_InvalidDeed_LimitError ?xm_InvalidCommand_LimitError ?xm_Impossible_LimitError ?xm_NotKnown_LimitError ?xm_LimitBroken_LimitError ?xm_NothingToUndo_LimitError ?xm_TooMany_LimitError ?xm_InvalidCounts_ValueError ?xm_InvalidCounts_LookupError ?xm_InvalidCounts_ArithmeticError ?xsa_InvalidCounts ?xk_InvalidCounts ?xga_InvalidCounts ?xgg_InvalidCounts ?xha_InvalidCounts ?xmr_InvalidCounts ?xn_InvalidCounts_tick ?xm_NotCounts_ValueError ?xm_NotCounts_LookupError ?xm_NotCounts_ArithmeticError ?xsa_NotCounts ?xk_NotCounts ?xga_NotCounts ?xgg_NotCounts ?xha_NotCounts ?xmr_NotCounts ?xn_NotCounts_value ?xm_InvalidTick_ValueError ?xm_InvalidTick_LookupError ?xm_InvalidTick_ArithmeticError ?xsa_InvalidTick ?xk_InvalidTick ?xga_InvalidTick ?xgg_InvalidTick ?xha_InvalidTick ?xmr_InvalidTick ?xn_InvalidTick_tick ?xm_InvalidNumber_ValueError ?xm_InvalidNumber_LookupError ?xm_InvalidNumber_ArithmeticError ?xsa_InvalidNumber ?xk_InvalidNumber ?xga_InvalidNumber ?xgg_InvalidNumber ?xha_InvalidNumber ?xmr_InvalidNumber ?xn_InvalidNumber_number ?xm_InvalidText_ValueError ?xm_InvalidText_LookupError ?xm_InvalidText_ArithmeticError ?xsa_InvalidText ?xk_InvalidText ?xga_InvalidText ?xgg_InvalidText ?xha_InvalidText ?xmr_InvalidText ?xn_InvalidText_text ?xm_InvalidStay_ValueError ?xm_InvalidStay_LookupError ?xm_InvalidStay_ArithmeticError ?xsa_InvalidStay ?xk_InvalidStay ?xga_InvalidStay ?xgg_InvalidStay ?xha_InvalidStay ?xmr_InvalidStay ?xn_InvalidStay_index ?xm_InvalidHistory_ValueError ?xm_InvalidHistory_LookupError ?xm_InvalidHistory_ArithmeticError ?xsa_InvalidHistory ?xk_InvalidHistory ?xga_InvalidHistory ?xgg_InvalidHistory ?xha_InvalidHistory ?xmr_InvalidHistory ?xn_InvalidHistory_history ?xm_InvalidName_ValueError ?xm_InvalidName_LookupError ?xm_InvalidName_ArithmeticError ?xsa_InvalidName ?xk_InvalidName ?xga_InvalidName ?xgg_InvalidName ?xha_InvalidName ?xmr_InvalidName ?xn_InvalidName_name ?xm_InvalidLength_ValueError ?xm_InvalidLength_LookupError ?xm_InvalidLength_ArithmeticError ?xsa_InvalidLength ?xk_InvalidLength ?xga_InvalidLength ?xgg_InvalidLength ?xha_InvalidLength ?xmr_InvalidLength ?xn_InvalidLength_length ?xm_InvalidDoors_ValueError ?xm_InvalidDoors_LookupError ?xm_InvalidDoors_ArithmeticError ?xsa_InvalidDoors ?xk_InvalidDoors ?xga_InvalidDoors ?xgg_InvalidDoors ?xha_InvalidDoors ?xmr_InvalidDoors ?xn_InvalidDoors_index ?xm_InvalidDeed_ValueError ?xm_InvalidDeed_LookupError ?xm_InvalidDeed_ArithmeticError ?xsa_InvalidDeed ?xk_InvalidDeed ?xga_InvalidDeed ?xgg_InvalidDeed ?xha_InvalidDeed ?xmr_InvalidDeed ?xn_InvalidDeed_index ?xm_InvalidCommand_ValueError ?xm_InvalidCommand_LookupError ?xm_InvalidCommand_ArithmeticError ?xsa_InvalidCommand ?xk_InvalidCommand ?xga_InvalidCommand ?xgg_InvalidCommand ?xha_InvalidCommand ?xmr_InvalidCommand ?xn_InvalidCommand_command ?xm_Impossible_ValueError ?xm_Impossible_LookupError ?xm_Impossible_ArithmeticError ?xsa_Impossible ?xk_Impossible ?xga_Impossible ?xgg_Impossible ?xha_Impossible ?xmr_Impossible ?xn_Impossible_word ?xn_Impossible_tick ?xm_NotKnown_ValueError ?xm_NotKnown_LookupError ?xm_NotKnown_ArithmeticError ?xsa_NotKnown ?xk_NotKnown ?xga_NotKnown ?xgg_NotKnown ?xha_NotKnown ?xmr_NotKnown ?xn_NotKnown_stay ?xm_LimitBroken_ValueError ?xm_LimitBroken_LookupError ?xm_LimitBroken_ArithmeticError ?xsa_LimitBroken ?xk_LimitBroken ?xga_LimitBroken ?xgg_LimitBroken ?xha_LimitBroken ?xmr_LimitBroken ?xi_LimitBroken ?xm_NothingToUndo_ValueError ?xm_NothingToUndo_LookupError ?xm_NothingToUndo_ArithmeticError ?xsa_NothingToUndo ?xk_NothingToUndo ?xga_NothingToUndo ?xgg_NothingToUndo ?xha_NothingToUndo ?xmr_NothingToUndo ?xi_NothingToUndo ?xm_TooMany_ValueError ?xm_TooMany_LookupError ?xm_TooMany_ArithmeticError ?xsa_TooMany ?xk_TooMany ?xga_TooMany ?xgg_TooMany ?xha_TooMany ?xmr_TooMany ?xn_TooMany_limit ?xq_InvalidCounts ?xo_InvalidCounts ?xq_NotCounts ?xo_NotCounts ?xq_InvalidTick ?xo_InvalidTick ?xq_InvalidNumber ?xo_InvalidNumber ?xq_InvalidText ?xo_InvalidText ?xq_InvalidStay ?xo_InvalidStay ?xq_InvalidHistory ?xo_InvalidHistory ?xq_InvalidName ?xo_InvalidName ?xq_InvalidLength ?xo_InvalidLength ?xq_InvalidDoors ?xo_InvalidDoors ?xq_InvalidDeed ?xo_InvalidDeed ?xq_InvalidCommand ?xo_InvalidCommand ?xq_Impossible ?xo_Impossible ?xq_NotKnown ?xo_NotKnown ?xq_LimitBroken ?xo_LimitBroken ?xq_NothingToUndo ?xo_NothingToUndo ?xq_TooMany ?xo_TooMany
    (case aC => k_is)
    (case xa_InvalidCounts => k_is)
    (case xa_NotCounts => k_is)
    (case xa_InvalidTick => k_is)
    (case xa_InvalidNumber => k_is)
    (case xa_InvalidText => k_is)
    (case xa_InvalidStay => k_is)
    (case xa_InvalidHistory => k_is)
    (case xa_InvalidName => k_is)
    (case xa_InvalidLength => k_is)
    (case xa_InvalidDoors => k_is)
    (case xa_InvalidDeed => k_is)
    (case xa_InvalidCommand => k_is)
    (case xa_Impossible => k_is)
    (case xa_NotKnown => k_is)
    (case xa_LimitBroken => k_is)
    (case xa_NothingToUndo => k_is)
    (case xa_TooMany => k_is)
    (case xa_CountError => k_is)
    (case xa_SearchError => k_is)
    (case xa_LimitError => k_is)
    (case a_eInvalidCounts => k_is)
    (case i_eInvalidCounts => k_is)
    (case l_eInvalidCounts => k_is)
    (case c_eInvalidCounts => k_is)
    (case k_eInvalidCounts => k_is)
    (case a_eNotCounts => k_is)
    (case i_eNotCounts => k_is)
    (case l_eNotCounts => k_is)
    (case c_eNotCounts => k_is)
    (case k_eNotCounts => k_is)
    (case a_eInvalidTick => k_is)
    (case i_eInvalidTick => k_is)
    (case l_eInvalidTick => k_is)
    (case c_eInvalidTick => k_is)
    (case k_eInvalidTick => k_is)
    (case a_eInvalidNumber => k_is)
    (case i_eInvalidNumber => k_is)
    (case l_eInvalidNumber => k_is)
    (case c_eInvalidNumber => k_is)
    (case k_eInvalidNumber => k_is)
    (case a_eInvalidText => k_is)
    (case i_eInvalidText => k_is)
    (case l_eInvalidText => k_is)
    (case c_eInvalidText => k_is)
    (case k_eInvalidText => k_is)
    (case a_eInvalidStay => k_is)
    (case i_eInvalidStay => k_is)
    (case l_eInvalidStay => k_is)
    (case c_eInvalidStay => k_is)
    (case k_eInvalidStay => k_is)
    (case a_eInvalidHistory => k_is)
    (case i_eInvalidHistory => k_is)
    (case l_eInvalidHistory => k_is)
    (case c_eInvalidHistory => k_is)
    (case k_eInvalidHistory => k_is)
    (case a_eInvalidName => k_is)
    (case i_eInvalidName => k_is)
    (case l_eInvalidName => k_is)
    (case c_eInvalidName => k_is)
    (case k_eInvalidName => k_is)
    (case a_eInvalidLength => k_is)
    (case i_eInvalidLength => k_is)
    (case l_eInvalidLength => k_is)
    (case c_eInvalidLength => k_is)
    (case k_eInvalidLength => k_is)
    (case a_eInvalidDoors => k_is)
    (case i_eInvalidDoors => k_is)
    (case l_eInvalidDoors => k_is)
    (case c_eInvalidDoors => k_is)
    (case k_eInvalidDoors => k_is)
    (case a_eInvalidDeed => k_is)
    (case i_eInvalidDeed => k_is)
    (case l_eInvalidDeed => k_is)
    (case c_eInvalidDeed => k_is)
    (case k_eInvalidDeed => k_is)
    (case a_eInvalidCommand => k_is)
    (case i_eInvalidCommand => k_is)
    (case l_eInvalidCommand => k_is)
    (case c_eInvalidCommand => k_is)
    (case k_eInvalidCommand => k_is)
    (case a_eImpossible => k_is)
    (case i_eImpossible => k_is)
    (case l_eImpossible => k_is)
    (case c_eImpossible => k_is)
    (case k_eImpossible => k_is)
    (case a_eNotKnown => k_is)
    (case i_eNotKnown => k_is)
    (case l_eNotKnown => k_is)
    (case c_eNotKnown => k_is)
    (case k_eNotKnown => k_is)
    (case a_eTooMany => k_is)
    (case i_eTooMany => k_is)
    (case l_eTooMany => k_is)
    (case c_eTooMany => k_is)
    (case k_eTooMany => k_is)
    (case a_ii => k_is)
    (case l_ii => k_is)
    (case c_ii => k_is)
    (case k_ii => k_is)
    (case a_cl => k_is)
    (case l_cl => k_is)
    (case c_cl => k_is)
    (case k_cl => k_is)
    (case a_inu => k_is)
    (case l_inu => k_is)
    (case c_inu => k_is)
    (case k_inu => k_is)
    (case a_cn => k_is)
    (case l_cn => k_is)
    (case c_cn => k_is)
    (case k_cn => k_is)
    (case a_ini => k_is)
    (case i_ini => k_is)
    (case l_ini => k_is)
    (case c_ini => k_is)
    (case k_ini => k_is)
    (case a_cell => k_is)
    (case l_cell => k_is)
    (case c_cell => k_is)
    (case k_cell => k_is)
    (case a_pool => k_is)
    (case l_pool => k_is)
    (case c_pool => k_is)
    (case k_pool => k_is)
    (case a_draw => k_is)
    (case l_draw => k_is)
    (case c_draw => k_is)
    (case k_draw => k_is)
    (case a_error => k_is)
    (case l_error => k_is)
    (case c_error => k_is)
    (case k_error => k_is)
    (case a_made => k_is)
    (case l_made => k_is)
    (case c_made => k_is)
    (case k_made => k_is)
    (case a_fields => k_is)
    (case l_fields => k_is)
    (case c_fields => k_is)
    (case k_fields => k_is)
    (case a_right => k_is)
    (case l_right => k_is)
    (case c_right => k_is)
    (case k_right => k_is)
    (case a_law => k_is)
    (case l_law => k_is)
    (case c_law => k_is)
    (case k_law => k_is)
    (case pg => k_is)
    (case hd => k_is)
    (case po => k_is)
    (case sa => k_is)
    (case mk => k_is)
    (case kc => k_is)
    (case rd => k_is)
    (case ga => k_is)
    (case ha => k_is)
    (case hn => k_is)
    (case tk => k_is)
    (case mr => k_is)
    (case ty => k_is)
    (case bt_bool => k_is)
    (case bt_int => k_is)
    (case bt_str => k_is)
    (case bt_tuple => k_is)
    (case bt_list => k_is)
    (case bt_dict => k_is)
    (case na_arrivals => k_is)
    (case na_departures => k_is)
    (case cv_MAX_TICKS => k_is)
    (case cv_MAX_PEOPLE => k_is)
    (case ic_MAX_TICKS => k_is)
    (case ig_MAX_TICKS => k_is)
    (case ic_MAX_PEOPLE => k_is)
    (case ig_MAX_PEOPLE => k_is)
    (case z_isinstance => k_is)
    (case z_len => k_is)
    (case z_int => k_is)
    (case z_bool => k_is)
    (case z_tuple => k_is)
    (case z_list => k_is)
    (case z_str => k_is)
    (case z_enumerate => k_is)
    (case z_zip => k_is)
    (case z_range => k_is)
    (case z_min => k_is)
    (case z_max => k_is)
    (case z_repr => k_is)
    (case z_all => k_is)
    (case z_divmod => k_is)
    (case z_abs => k_is)
    (case z_sum => k_is)
    (case z_ValueError => k_is)
    (case z_LookupError => k_is)
    (case z_ArithmeticError => k_is)
    (case xhd_InvalidCounts => k_is)
    (case xty_InvalidCounts => k_is)
    (case xbe_InvalidCounts => k_is)
    (case xm_InvalidCounts_InvalidCounts => k_is)
    (case xm_NotCounts_InvalidCounts => k_is)
    (case xm_InvalidTick_InvalidCounts => k_is)
    (case xm_InvalidNumber_InvalidCounts => k_is)
    (case xm_InvalidText_InvalidCounts => k_is)
    (case xm_InvalidStay_InvalidCounts => k_is)
    (case xm_InvalidHistory_InvalidCounts => k_is)
    (case xm_InvalidName_InvalidCounts => k_is)
    (case xm_InvalidLength_InvalidCounts => k_is)
    (case xm_InvalidDoors_InvalidCounts => k_is)
    (case xm_InvalidDeed_InvalidCounts => k_is)
    (case xm_InvalidCommand_InvalidCounts => k_is)
    (case xm_Impossible_InvalidCounts => k_is)
    (case xm_NotKnown_InvalidCounts => k_is)
    (case xm_LimitBroken_InvalidCounts => k_is)
    (case xm_NothingToUndo_InvalidCounts => k_is)
    (case xm_TooMany_InvalidCounts => k_is)
    (case xhd_NotCounts => k_is)
    (case xty_NotCounts => k_is)
    (case xbe_NotCounts => k_is)
    (case xm_InvalidCounts_NotCounts => k_is)
    (case xm_NotCounts_NotCounts => k_is)
    (case xm_InvalidTick_NotCounts => k_is)
    (case xm_InvalidNumber_NotCounts => k_is)
    (case xm_InvalidText_NotCounts => k_is)
    (case xm_InvalidStay_NotCounts => k_is)
    (case xm_InvalidHistory_NotCounts => k_is)
    (case xm_InvalidName_NotCounts => k_is)
    (case xm_InvalidLength_NotCounts => k_is)
    (case xm_InvalidDoors_NotCounts => k_is)
    (case xm_InvalidDeed_NotCounts => k_is)
    (case xm_InvalidCommand_NotCounts => k_is)
    (case xm_Impossible_NotCounts => k_is)
    (case xm_NotKnown_NotCounts => k_is)
    (case xm_LimitBroken_NotCounts => k_is)
    (case xm_NothingToUndo_NotCounts => k_is)
    (case xm_TooMany_NotCounts => k_is)
    (case xhd_InvalidTick => k_is)
    (case xty_InvalidTick => k_is)
    (case xbe_InvalidTick => k_is)
    (case xm_InvalidCounts_InvalidTick => k_is)
    (case xm_NotCounts_InvalidTick => k_is)
    (case xm_InvalidTick_InvalidTick => k_is)
    (case xm_InvalidNumber_InvalidTick => k_is)
    (case xm_InvalidText_InvalidTick => k_is)
    (case xm_InvalidStay_InvalidTick => k_is)
    (case xm_InvalidHistory_InvalidTick => k_is)
    (case xm_InvalidName_InvalidTick => k_is)
    (case xm_InvalidLength_InvalidTick => k_is)
    (case xm_InvalidDoors_InvalidTick => k_is)
    (case xm_InvalidDeed_InvalidTick => k_is)
    (case xm_InvalidCommand_InvalidTick => k_is)
    (case xm_Impossible_InvalidTick => k_is)
    (case xm_NotKnown_InvalidTick => k_is)
    (case xm_LimitBroken_InvalidTick => k_is)
    (case xm_NothingToUndo_InvalidTick => k_is)
    (case xm_TooMany_InvalidTick => k_is)
    (case xhd_InvalidNumber => k_is)
    (case xty_InvalidNumber => k_is)
    (case xbe_InvalidNumber => k_is)
    (case xm_InvalidCounts_InvalidNumber => k_is)
    (case xm_NotCounts_InvalidNumber => k_is)
    (case xm_InvalidTick_InvalidNumber => k_is)
    (case xm_InvalidNumber_InvalidNumber => k_is)
    (case xm_InvalidText_InvalidNumber => k_is)
    (case xm_InvalidStay_InvalidNumber => k_is)
    (case xm_InvalidHistory_InvalidNumber => k_is)
    (case xm_InvalidName_InvalidNumber => k_is)
    (case xm_InvalidLength_InvalidNumber => k_is)
    (case xm_InvalidDoors_InvalidNumber => k_is)
    (case xm_InvalidDeed_InvalidNumber => k_is)
    (case xm_InvalidCommand_InvalidNumber => k_is)
    (case xm_Impossible_InvalidNumber => k_is)
    (case xm_NotKnown_InvalidNumber => k_is)
    (case xm_LimitBroken_InvalidNumber => k_is)
    (case xm_NothingToUndo_InvalidNumber => k_is)
    (case xm_TooMany_InvalidNumber => k_is)
    (case xhd_InvalidText => k_is)
    (case xty_InvalidText => k_is)
    (case xbe_InvalidText => k_is)
    (case xm_InvalidCounts_InvalidText => k_is)
    (case xm_NotCounts_InvalidText => k_is)
    (case xm_InvalidTick_InvalidText => k_is)
    (case xm_InvalidNumber_InvalidText => k_is)
    (case xm_InvalidText_InvalidText => k_is)
    (case xm_InvalidStay_InvalidText => k_is)
    (case xm_InvalidHistory_InvalidText => k_is)
    (case xm_InvalidName_InvalidText => k_is)
    (case xm_InvalidLength_InvalidText => k_is)
    (case xm_InvalidDoors_InvalidText => k_is)
    (case xm_InvalidDeed_InvalidText => k_is)
    (case xm_InvalidCommand_InvalidText => k_is)
    (case xm_Impossible_InvalidText => k_is)
    (case xm_NotKnown_InvalidText => k_is)
    (case xm_LimitBroken_InvalidText => k_is)
    (case xm_NothingToUndo_InvalidText => k_is)
    (case xm_TooMany_InvalidText => k_is)
    (case xhd_InvalidStay => k_is)
    (case xty_InvalidStay => k_is)
    (case xbe_InvalidStay => k_is)
    (case xm_InvalidCounts_InvalidStay => k_is)
    (case xm_NotCounts_InvalidStay => k_is)
    (case xm_InvalidTick_InvalidStay => k_is)
    (case xm_InvalidNumber_InvalidStay => k_is)
    (case xm_InvalidText_InvalidStay => k_is)
    (case xm_InvalidStay_InvalidStay => k_is)
    (case xm_InvalidHistory_InvalidStay => k_is)
    (case xm_InvalidName_InvalidStay => k_is)
    (case xm_InvalidLength_InvalidStay => k_is)
    (case xm_InvalidDoors_InvalidStay => k_is)
    (case xm_InvalidDeed_InvalidStay => k_is)
    (case xm_InvalidCommand_InvalidStay => k_is)
    (case xm_Impossible_InvalidStay => k_is)
    (case xm_NotKnown_InvalidStay => k_is)
    (case xm_LimitBroken_InvalidStay => k_is)
    (case xm_NothingToUndo_InvalidStay => k_is)
    (case xm_TooMany_InvalidStay => k_is)
    (case xhd_InvalidHistory => k_is)
    (case xty_InvalidHistory => k_is)
    (case xbe_InvalidHistory => k_is)
    (case xm_InvalidCounts_InvalidHistory => k_is)
    (case xm_NotCounts_InvalidHistory => k_is)
    (case xm_InvalidTick_InvalidHistory => k_is)
    (case xm_InvalidNumber_InvalidHistory => k_is)
    (case xm_InvalidText_InvalidHistory => k_is)
    (case xm_InvalidStay_InvalidHistory => k_is)
    (case xm_InvalidHistory_InvalidHistory => k_is)
    (case xm_InvalidName_InvalidHistory => k_is)
    (case xm_InvalidLength_InvalidHistory => k_is)
    (case xm_InvalidDoors_InvalidHistory => k_is)
    (case xm_InvalidDeed_InvalidHistory => k_is)
    (case xm_InvalidCommand_InvalidHistory => k_is)
    (case xm_Impossible_InvalidHistory => k_is)
    (case xm_NotKnown_InvalidHistory => k_is)
    (case xm_LimitBroken_InvalidHistory => k_is)
    (case xm_NothingToUndo_InvalidHistory => k_is)
    (case xm_TooMany_InvalidHistory => k_is)
    (case xhd_InvalidName => k_is)
    (case xty_InvalidName => k_is)
    (case xbe_InvalidName => k_is)
    (case xm_InvalidCounts_InvalidName => k_is)
    (case xm_NotCounts_InvalidName => k_is)
    (case xm_InvalidTick_InvalidName => k_is)
    (case xm_InvalidNumber_InvalidName => k_is)
    (case xm_InvalidText_InvalidName => k_is)
    (case xm_InvalidStay_InvalidName => k_is)
    (case xm_InvalidHistory_InvalidName => k_is)
    (case xm_InvalidName_InvalidName => k_is)
    (case xm_InvalidLength_InvalidName => k_is)
    (case xm_InvalidDoors_InvalidName => k_is)
    (case xm_InvalidDeed_InvalidName => k_is)
    (case xm_InvalidCommand_InvalidName => k_is)
    (case xm_Impossible_InvalidName => k_is)
    (case xm_NotKnown_InvalidName => k_is)
    (case xm_LimitBroken_InvalidName => k_is)
    (case xm_NothingToUndo_InvalidName => k_is)
    (case xm_TooMany_InvalidName => k_is)
    (case xhd_InvalidLength => k_is)
    (case xty_InvalidLength => k_is)
    (case xbe_InvalidLength => k_is)
    (case xm_InvalidCounts_InvalidLength => k_is)
    (case xm_NotCounts_InvalidLength => k_is)
    (case xm_InvalidTick_InvalidLength => k_is)
    (case xm_InvalidNumber_InvalidLength => k_is)
    (case xm_InvalidText_InvalidLength => k_is)
    (case xm_InvalidStay_InvalidLength => k_is)
    (case xm_InvalidHistory_InvalidLength => k_is)
    (case xm_InvalidName_InvalidLength => k_is)
    (case xm_InvalidLength_InvalidLength => k_is)
    (case xm_InvalidDoors_InvalidLength => k_is)
    (case xm_InvalidDeed_InvalidLength => k_is)
    (case xm_InvalidCommand_InvalidLength => k_is)
    (case xm_Impossible_InvalidLength => k_is)
    (case xm_NotKnown_InvalidLength => k_is)
    (case xm_LimitBroken_InvalidLength => k_is)
    (case xm_NothingToUndo_InvalidLength => k_is)
    (case xm_TooMany_InvalidLength => k_is)
    (case xhd_InvalidDoors => k_is)
    (case xty_InvalidDoors => k_is)
    (case xbe_InvalidDoors => k_is)
    (case xm_InvalidCounts_InvalidDoors => k_is)
    (case xm_NotCounts_InvalidDoors => k_is)
    (case xm_InvalidTick_InvalidDoors => k_is)
    (case xm_InvalidNumber_InvalidDoors => k_is)
    (case xm_InvalidText_InvalidDoors => k_is)
    (case xm_InvalidStay_InvalidDoors => k_is)
    (case xm_InvalidHistory_InvalidDoors => k_is)
    (case xm_InvalidName_InvalidDoors => k_is)
    (case xm_InvalidLength_InvalidDoors => k_is)
    (case xm_InvalidDoors_InvalidDoors => k_is)
    (case xm_InvalidDeed_InvalidDoors => k_is)
    (case xm_InvalidCommand_InvalidDoors => k_is)
    (case xm_Impossible_InvalidDoors => k_is)
    (case xm_NotKnown_InvalidDoors => k_is)
    (case xm_LimitBroken_InvalidDoors => k_is)
    (case xm_NothingToUndo_InvalidDoors => k_is)
    (case xm_TooMany_InvalidDoors => k_is)
    (case xhd_InvalidDeed => k_is)
    (case xty_InvalidDeed => k_is)
    (case xbe_InvalidDeed => k_is)
    (case xm_InvalidCounts_InvalidDeed => k_is)
    (case xm_NotCounts_InvalidDeed => k_is)
    (case xm_InvalidTick_InvalidDeed => k_is)
    (case xm_InvalidNumber_InvalidDeed => k_is)
    (case xm_InvalidText_InvalidDeed => k_is)
    (case xm_InvalidStay_InvalidDeed => k_is)
    (case xm_InvalidHistory_InvalidDeed => k_is)
    (case xm_InvalidName_InvalidDeed => k_is)
    (case xm_InvalidLength_InvalidDeed => k_is)
    (case xm_InvalidDoors_InvalidDeed => k_is)
    (case xm_InvalidDeed_InvalidDeed => k_is)
    (case xm_InvalidCommand_InvalidDeed => k_is)
    (case xm_Impossible_InvalidDeed => k_is)
    (case xm_NotKnown_InvalidDeed => k_is)
    (case xm_LimitBroken_InvalidDeed => k_is)
    (case xm_NothingToUndo_InvalidDeed => k_is)
    (case xm_TooMany_InvalidDeed => k_is)
    (case xhd_InvalidCommand => k_is)
    (case xty_InvalidCommand => k_is)
    (case xbe_InvalidCommand => k_is)
    (case xm_InvalidCounts_InvalidCommand => k_is)
    (case xm_NotCounts_InvalidCommand => k_is)
    (case xm_InvalidTick_InvalidCommand => k_is)
    (case xm_InvalidNumber_InvalidCommand => k_is)
    (case xm_InvalidText_InvalidCommand => k_is)
    (case xm_InvalidStay_InvalidCommand => k_is)
    (case xm_InvalidHistory_InvalidCommand => k_is)
    (case xm_InvalidName_InvalidCommand => k_is)
    (case xm_InvalidLength_InvalidCommand => k_is)
    (case xm_InvalidDoors_InvalidCommand => k_is)
    (case xm_InvalidDeed_InvalidCommand => k_is)
    (case xm_InvalidCommand_InvalidCommand => k_is)
    (case xm_Impossible_InvalidCommand => k_is)
    (case xm_NotKnown_InvalidCommand => k_is)
    (case xm_LimitBroken_InvalidCommand => k_is)
    (case xm_NothingToUndo_InvalidCommand => k_is)
    (case xm_TooMany_InvalidCommand => k_is)
    (case xhd_Impossible => k_is)
    (case xty_Impossible => k_is)
    (case xbe_Impossible => k_is)
    (case xm_InvalidCounts_Impossible => k_is)
    (case xm_NotCounts_Impossible => k_is)
    (case xm_InvalidTick_Impossible => k_is)
    (case xm_InvalidNumber_Impossible => k_is)
    (case xm_InvalidText_Impossible => k_is)
    (case xm_InvalidStay_Impossible => k_is)
    (case xm_InvalidHistory_Impossible => k_is)
    (case xm_InvalidName_Impossible => k_is)
    (case xm_InvalidLength_Impossible => k_is)
    (case xm_InvalidDoors_Impossible => k_is)
    (case xm_InvalidDeed_Impossible => k_is)
    (case xm_InvalidCommand_Impossible => k_is)
    (case xm_Impossible_Impossible => k_is)
    (case xm_NotKnown_Impossible => k_is)
    (case xm_LimitBroken_Impossible => k_is)
    (case xm_NothingToUndo_Impossible => k_is)
    (case xm_TooMany_Impossible => k_is)
    (case xhd_NotKnown => k_is)
    (case xty_NotKnown => k_is)
    (case xbe_NotKnown => k_is)
    (case xm_InvalidCounts_NotKnown => k_is)
    (case xm_NotCounts_NotKnown => k_is)
    (case xm_InvalidTick_NotKnown => k_is)
    (case xm_InvalidNumber_NotKnown => k_is)
    (case xm_InvalidText_NotKnown => k_is)
    (case xm_InvalidStay_NotKnown => k_is)
    (case xm_InvalidHistory_NotKnown => k_is)
    (case xm_InvalidName_NotKnown => k_is)
    (case xm_InvalidLength_NotKnown => k_is)
    (case xm_InvalidDoors_NotKnown => k_is)
    (case xm_InvalidDeed_NotKnown => k_is)
    (case xm_InvalidCommand_NotKnown => k_is)
    (case xm_Impossible_NotKnown => k_is)
    (case xm_NotKnown_NotKnown => k_is)
    (case xm_LimitBroken_NotKnown => k_is)
    (case xm_NothingToUndo_NotKnown => k_is)
    (case xm_TooMany_NotKnown => k_is)
    (case xhd_LimitBroken => k_is)
    (case xty_LimitBroken => k_is)
    (case xbe_LimitBroken => k_is)
    (case xm_InvalidCounts_LimitBroken => k_is)
    (case xm_NotCounts_LimitBroken => k_is)
    (case xm_InvalidTick_LimitBroken => k_is)
    (case xm_InvalidNumber_LimitBroken => k_is)
    (case xm_InvalidText_LimitBroken => k_is)
    (case xm_InvalidStay_LimitBroken => k_is)
    (case xm_InvalidHistory_LimitBroken => k_is)
    (case xm_InvalidName_LimitBroken => k_is)
    (case xm_InvalidLength_LimitBroken => k_is)
    (case xm_InvalidDoors_LimitBroken => k_is)
    (case xm_InvalidDeed_LimitBroken => k_is)
    (case xm_InvalidCommand_LimitBroken => k_is)
    (case xm_Impossible_LimitBroken => k_is)
    (case xm_NotKnown_LimitBroken => k_is)
    (case xm_LimitBroken_LimitBroken => k_is)
    (case xm_NothingToUndo_LimitBroken => k_is)
    (case xm_TooMany_LimitBroken => k_is)
    (case xhd_NothingToUndo => k_is)
    (case xty_NothingToUndo => k_is)
    (case xbe_NothingToUndo => k_is)
    (case xm_InvalidCounts_NothingToUndo => k_is)
    (case xm_NotCounts_NothingToUndo => k_is)
    (case xm_InvalidTick_NothingToUndo => k_is)
    (case xm_InvalidNumber_NothingToUndo => k_is)
    (case xm_InvalidText_NothingToUndo => k_is)
    (case xm_InvalidStay_NothingToUndo => k_is)
    (case xm_InvalidHistory_NothingToUndo => k_is)
    (case xm_InvalidName_NothingToUndo => k_is)
    (case xm_InvalidLength_NothingToUndo => k_is)
    (case xm_InvalidDoors_NothingToUndo => k_is)
    (case xm_InvalidDeed_NothingToUndo => k_is)
    (case xm_InvalidCommand_NothingToUndo => k_is)
    (case xm_Impossible_NothingToUndo => k_is)
    (case xm_NotKnown_NothingToUndo => k_is)
    (case xm_LimitBroken_NothingToUndo => k_is)
    (case xm_NothingToUndo_NothingToUndo => k_is)
    (case xm_TooMany_NothingToUndo => k_is)
    (case xhd_TooMany => k_is)
    (case xty_TooMany => k_is)
    (case xbe_TooMany => k_is)
    (case xm_InvalidCounts_TooMany => k_is)
    (case xm_NotCounts_TooMany => k_is)
    (case xm_InvalidTick_TooMany => k_is)
    (case xm_InvalidNumber_TooMany => k_is)
    (case xm_InvalidText_TooMany => k_is)
    (case xm_InvalidStay_TooMany => k_is)
    (case xm_InvalidHistory_TooMany => k_is)
    (case xm_InvalidName_TooMany => k_is)
    (case xm_InvalidLength_TooMany => k_is)
    (case xm_InvalidDoors_TooMany => k_is)
    (case xm_InvalidDeed_TooMany => k_is)
    (case xm_InvalidCommand_TooMany => k_is)
    (case xm_Impossible_TooMany => k_is)
    (case xm_NotKnown_TooMany => k_is)
    (case xm_LimitBroken_TooMany => k_is)
    (case xm_NothingToUndo_TooMany => k_is)
    (case xm_TooMany_TooMany => k_is)
    (case xhd_CountError => k_is)
    (case xty_CountError => k_is)
    (case xm_InvalidCounts_CountError => k_is)
    (case xm_NotCounts_CountError => k_is)
    (case xm_InvalidTick_CountError => k_is)
    (case xm_InvalidNumber_CountError => k_is)
    (case xm_InvalidText_CountError => k_is)
    (case xm_InvalidStay_CountError => k_is)
    (case xm_InvalidHistory_CountError => k_is)
    (case xm_InvalidName_CountError => k_is)
    (case xm_InvalidLength_CountError => k_is)
    (case xm_InvalidDoors_CountError => k_is)
    (case xm_InvalidDeed_CountError => k_is)
    (case xm_InvalidCommand_CountError => k_is)
    (case xm_Impossible_CountError => k_is)
    (case xm_NotKnown_CountError => k_is)
    (case xm_LimitBroken_CountError => k_is)
    (case xm_NothingToUndo_CountError => k_is)
    (case xm_TooMany_CountError => k_is)
    (case xhd_SearchError => k_is)
    (case xty_SearchError => k_is)
    (case xm_InvalidCounts_SearchError => k_is)
    (case xm_NotCounts_SearchError => k_is)
    (case xm_InvalidTick_SearchError => k_is)
    (case xm_InvalidNumber_SearchError => k_is)
    (case xm_InvalidText_SearchError => k_is)
    (case xm_InvalidStay_SearchError => k_is)
    (case xm_InvalidHistory_SearchError => k_is)
    (case xm_InvalidName_SearchError => k_is)
    (case xm_InvalidLength_SearchError => k_is)
    (case xm_InvalidDoors_SearchError => k_is)
    (case xm_InvalidDeed_SearchError => k_is)
    (case xm_InvalidCommand_SearchError => k_is)
    (case xm_Impossible_SearchError => k_is)
    (case xm_NotKnown_SearchError => k_is)
    (case xm_LimitBroken_SearchError => k_is)
    (case xm_NothingToUndo_SearchError => k_is)
    (case xm_TooMany_SearchError => k_is)
    (case xhd_LimitError => k_is)
    (case xty_LimitError => k_is)
    (case xm_InvalidCounts_LimitError => k_is)
    (case xm_NotCounts_LimitError => k_is)
    (case xm_InvalidTick_LimitError => k_is)
    (case xm_InvalidNumber_LimitError => k_is)
    (case xm_InvalidText_LimitError => k_is)
    (case xm_InvalidStay_LimitError => k_is)
    (case xm_InvalidHistory_LimitError => k_is)
    (case xm_InvalidName_LimitError => k_is)
    (case xm_InvalidLength_LimitError => k_is)
    (case xm_InvalidDoors_LimitError => k_is)
    (case xm_InvalidDeed_LimitError => k_is)
    (case xm_InvalidCommand_LimitError => k_is)
    (case xm_Impossible_LimitError => k_is)
    (case xm_NotKnown_LimitError => k_is)
    (case xm_LimitBroken_LimitError => k_is)
    (case xm_NothingToUndo_LimitError => k_is)
    (case xm_TooMany_LimitError => k_is)
    (case xm_InvalidCounts_ValueError => k_is)
    (case xm_InvalidCounts_LookupError => k_is)
    (case xm_InvalidCounts_ArithmeticError => k_is)
    (case xsa_InvalidCounts => k_is)
    (case xk_InvalidCounts => k_is)
    (case xga_InvalidCounts => k_is)
    (case xgg_InvalidCounts => k_is)
    (case xha_InvalidCounts => k_is)
    (case xmr_InvalidCounts => k_is)
    (case xn_InvalidCounts_tick => k_is)
    (case xm_NotCounts_ValueError => k_is)
    (case xm_NotCounts_LookupError => k_is)
    (case xm_NotCounts_ArithmeticError => k_is)
    (case xsa_NotCounts => k_is)
    (case xk_NotCounts => k_is)
    (case xga_NotCounts => k_is)
    (case xgg_NotCounts => k_is)
    (case xha_NotCounts => k_is)
    (case xmr_NotCounts => k_is)
    (case xn_NotCounts_value => k_is)
    (case xm_InvalidTick_ValueError => k_is)
    (case xm_InvalidTick_LookupError => k_is)
    (case xm_InvalidTick_ArithmeticError => k_is)
    (case xsa_InvalidTick => k_is)
    (case xk_InvalidTick => k_is)
    (case xga_InvalidTick => k_is)
    (case xgg_InvalidTick => k_is)
    (case xha_InvalidTick => k_is)
    (case xmr_InvalidTick => k_is)
    (case xn_InvalidTick_tick => k_is)
    (case xm_InvalidNumber_ValueError => k_is)
    (case xm_InvalidNumber_LookupError => k_is)
    (case xm_InvalidNumber_ArithmeticError => k_is)
    (case xsa_InvalidNumber => k_is)
    (case xk_InvalidNumber => k_is)
    (case xga_InvalidNumber => k_is)
    (case xgg_InvalidNumber => k_is)
    (case xha_InvalidNumber => k_is)
    (case xmr_InvalidNumber => k_is)
    (case xn_InvalidNumber_number => k_is)
    (case xm_InvalidText_ValueError => k_is)
    (case xm_InvalidText_LookupError => k_is)
    (case xm_InvalidText_ArithmeticError => k_is)
    (case xsa_InvalidText => k_is)
    (case xk_InvalidText => k_is)
    (case xga_InvalidText => k_is)
    (case xgg_InvalidText => k_is)
    (case xha_InvalidText => k_is)
    (case xmr_InvalidText => k_is)
    (case xn_InvalidText_text => k_is)
    (case xm_InvalidStay_ValueError => k_is)
    (case xm_InvalidStay_LookupError => k_is)
    (case xm_InvalidStay_ArithmeticError => k_is)
    (case xsa_InvalidStay => k_is)
    (case xk_InvalidStay => k_is)
    (case xga_InvalidStay => k_is)
    (case xgg_InvalidStay => k_is)
    (case xha_InvalidStay => k_is)
    (case xmr_InvalidStay => k_is)
    (case xn_InvalidStay_index => k_is)
    (case xm_InvalidHistory_ValueError => k_is)
    (case xm_InvalidHistory_LookupError => k_is)
    (case xm_InvalidHistory_ArithmeticError => k_is)
    (case xsa_InvalidHistory => k_is)
    (case xk_InvalidHistory => k_is)
    (case xga_InvalidHistory => k_is)
    (case xgg_InvalidHistory => k_is)
    (case xha_InvalidHistory => k_is)
    (case xmr_InvalidHistory => k_is)
    (case xn_InvalidHistory_history => k_is)
    (case xm_InvalidName_ValueError => k_is)
    (case xm_InvalidName_LookupError => k_is)
    (case xm_InvalidName_ArithmeticError => k_is)
    (case xsa_InvalidName => k_is)
    (case xk_InvalidName => k_is)
    (case xga_InvalidName => k_is)
    (case xgg_InvalidName => k_is)
    (case xha_InvalidName => k_is)
    (case xmr_InvalidName => k_is)
    (case xn_InvalidName_name => k_is)
    (case xm_InvalidLength_ValueError => k_is)
    (case xm_InvalidLength_LookupError => k_is)
    (case xm_InvalidLength_ArithmeticError => k_is)
    (case xsa_InvalidLength => k_is)
    (case xk_InvalidLength => k_is)
    (case xga_InvalidLength => k_is)
    (case xgg_InvalidLength => k_is)
    (case xha_InvalidLength => k_is)
    (case xmr_InvalidLength => k_is)
    (case xn_InvalidLength_length => k_is)
    (case xm_InvalidDoors_ValueError => k_is)
    (case xm_InvalidDoors_LookupError => k_is)
    (case xm_InvalidDoors_ArithmeticError => k_is)
    (case xsa_InvalidDoors => k_is)
    (case xk_InvalidDoors => k_is)
    (case xga_InvalidDoors => k_is)
    (case xgg_InvalidDoors => k_is)
    (case xha_InvalidDoors => k_is)
    (case xmr_InvalidDoors => k_is)
    (case xn_InvalidDoors_index => k_is)
    (case xm_InvalidDeed_ValueError => k_is)
    (case xm_InvalidDeed_LookupError => k_is)
    (case xm_InvalidDeed_ArithmeticError => k_is)
    (case xsa_InvalidDeed => k_is)
    (case xk_InvalidDeed => k_is)
    (case xga_InvalidDeed => k_is)
    (case xgg_InvalidDeed => k_is)
    (case xha_InvalidDeed => k_is)
    (case xmr_InvalidDeed => k_is)
    (case xn_InvalidDeed_index => k_is)
    (case xm_InvalidCommand_ValueError => k_is)
    (case xm_InvalidCommand_LookupError => k_is)
    (case xm_InvalidCommand_ArithmeticError => k_is)
    (case xsa_InvalidCommand => k_is)
    (case xk_InvalidCommand => k_is)
    (case xga_InvalidCommand => k_is)
    (case xgg_InvalidCommand => k_is)
    (case xha_InvalidCommand => k_is)
    (case xmr_InvalidCommand => k_is)
    (case xn_InvalidCommand_command => k_is)
    (case xm_Impossible_ValueError => k_is)
    (case xm_Impossible_LookupError => k_is)
    (case xm_Impossible_ArithmeticError => k_is)
    (case xsa_Impossible => k_is)
    (case xk_Impossible => k_is)
    (case xga_Impossible => k_is)
    (case xgg_Impossible => k_is)
    (case xha_Impossible => k_is)
    (case xmr_Impossible => k_is)
    (case xn_Impossible_word => k_is)
    (case xn_Impossible_tick => k_is)
    (case xm_NotKnown_ValueError => k_is)
    (case xm_NotKnown_LookupError => k_is)
    (case xm_NotKnown_ArithmeticError => k_is)
    (case xsa_NotKnown => k_is)
    (case xk_NotKnown => k_is)
    (case xga_NotKnown => k_is)
    (case xgg_NotKnown => k_is)
    (case xha_NotKnown => k_is)
    (case xmr_NotKnown => k_is)
    (case xn_NotKnown_stay => k_is)
    (case xm_LimitBroken_ValueError => k_is)
    (case xm_LimitBroken_LookupError => k_is)
    (case xm_LimitBroken_ArithmeticError => k_is)
    (case xsa_LimitBroken => k_is)
    (case xk_LimitBroken => k_is)
    (case xga_LimitBroken => k_is)
    (case xgg_LimitBroken => k_is)
    (case xha_LimitBroken => k_is)
    (case xmr_LimitBroken => k_is)
    (case xi_LimitBroken => k_is)
    (case xm_NothingToUndo_ValueError => k_is)
    (case xm_NothingToUndo_LookupError => k_is)
    (case xm_NothingToUndo_ArithmeticError => k_is)
    (case xsa_NothingToUndo => k_is)
    (case xk_NothingToUndo => k_is)
    (case xga_NothingToUndo => k_is)
    (case xgg_NothingToUndo => k_is)
    (case xha_NothingToUndo => k_is)
    (case xmr_NothingToUndo => k_is)
    (case xi_NothingToUndo => k_is)
    (case xm_TooMany_ValueError => k_is)
    (case xm_TooMany_LookupError => k_is)
    (case xm_TooMany_ArithmeticError => k_is)
    (case xsa_TooMany => k_is)
    (case xk_TooMany => k_is)
    (case xga_TooMany => k_is)
    (case xgg_TooMany => k_is)
    (case xha_TooMany => k_is)
    (case xmr_TooMany => k_is)
    (case xn_TooMany_limit => k_is)
    (case xq_InvalidCounts => kernel_rfl)
    (case xo_InvalidCounts => kernel_rfl)
    (case xq_NotCounts => kernel_rfl)
    (case xo_NotCounts => kernel_rfl)
    (case xq_InvalidTick => kernel_rfl)
    (case xo_InvalidTick => kernel_rfl)
    (case xq_InvalidNumber => kernel_rfl)
    (case xo_InvalidNumber => kernel_rfl)
    (case xq_InvalidText => kernel_rfl)
    (case xo_InvalidText => kernel_rfl)
    (case xq_InvalidStay => kernel_rfl)
    (case xo_InvalidStay => kernel_rfl)
    (case xq_InvalidHistory => kernel_rfl)
    (case xo_InvalidHistory => kernel_rfl)
    (case xq_InvalidName => kernel_rfl)
    (case xo_InvalidName => kernel_rfl)
    (case xq_InvalidLength => kernel_rfl)
    (case xo_InvalidLength => kernel_rfl)
    (case xq_InvalidDoors => kernel_rfl)
    (case xo_InvalidDoors => kernel_rfl)
    (case xq_InvalidDeed => kernel_rfl)
    (case xo_InvalidDeed => kernel_rfl)
    (case xq_InvalidCommand => kernel_rfl)
    (case xo_InvalidCommand => kernel_rfl)
    (case xq_Impossible => kernel_rfl)
    (case xo_Impossible => kernel_rfl)
    (case xq_NotKnown => kernel_rfl)
    (case xo_NotKnown => kernel_rfl)
    (case xq_LimitBroken => kernel_rfl)
    (case xo_LimitBroken => kernel_rfl)
    (case xq_NothingToUndo => kernel_rfl)
    (case xo_NothingToUndo => kernel_rfl)
    (case xq_TooMany => kernel_rfl)
    (case xo_TooMany => kernel_rfl)
#print axioms PySem.Challenge.cw_staycounts_k07_errors_and_class_values_holds
