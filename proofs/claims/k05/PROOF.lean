import PyProof.Rows.All
import Wide.All
import OpenK.AllK
import Wide.FinOn
import HandS.ForMost
import HandS.Zip
import HandS.IsInst
import HandS.Property
import HandS.Wide
import HandS.WideBits
import HandS.TupMul
import HandS.TupAny
import HandS.OwnEq
import HandS.Lambda
import HandS.Flow
import HandS.TryOnly
import HandS.MakeKwOnly
import HandS.Defaults
import HandS.Conv
import KE.GoesMore
import HandS.ClsMeth
import HandS.FStr
import KE.KCallOwn
import PyProof.NeKinds
import PyProof.FactsAll.dict
import KE.KFmtOwn
import HandS.Style
import KE.KTupSum
import HandS.EndTab
import KE.DataMinKey
import HandS.ForExc
import HandS.ExcInit
import HandS.ExcIs
import HandS.ExcField
import HandS.TryMany
import HandS.HotCalls
import KE.KExcLine
import KE.KTryMore
import KE.KExcIs
import HandS.NestedK
import KE.KExcMake
import PySem.Challenge.RW_staycounts_k05_counts_changed
set_option Elab.async false
set_option linter.all false
set_option maxRecDepth 100000
set_option maxHeartbeats 4000000
/-! A layer of plain data over the hand layer: values as data D, results R, what stands in the heap (Rp), a frame's places (Rel), expressions and statements as plain functions (PD, PB, PQ). -/
namespace PL
open PySem PySem.Spec PyProof.Rows L2
/-! ### data -/
inductive D where
  | non | bl (b : Bool) | int (i : Int) | str (s : Str)
  | tup (xs : List D) | lst (xs : List D)
  | scr (ns : List Int)
  | dic (ks : List Key) (vs : List D)
  | ins (C : Str) (ns : List Str) (vs : List D)
  | cls (c : Str)
  | exn (c : Str) (ns : List Str) (vs : List D)
/-- a result: a value, an exception by its class's name and its attributes, or a step that no rule here serves -/
inductive R (α : Type) where
  | ok (a : α) | exc (c : Str) (ns : List Str) (vs : List D) | bad
namespace R
def bind {α β : Type} (x : R α) (f : α → R β) : R β := match x with
  | ok a => f a
  | exc c ns vs => exc c ns vs
  | bad => bad
instance : Monad R where
  pure := ok
  bind := bind
def of {α : Type} : Option α → R α
  | some a => ok a
  | none => bad
@[simp] theorem ok_bind {α β : Type} (a : α) (f : α → R β) : (R.ok a >>= f) = f a := rfl
@[simp] theorem pure_bind' {α β : Type} (a : α) (f : α → R β) : ((pure a : R α) >>= f) = f a := rfl
@[simp] theorem exc_bind {α β : Type} (c : Str) (ns : List Str) (vs : List D) (f : α → R β) : (R.exc c ns vs >>= f) = R.exc c ns vs := rfl
@[simp] theorem bad_bind {α β : Type} (f : α → R β) : ((R.bad : R α) >>= f) = R.bad := rfl
@[simp] theorem of_some {α : Type} (a : α) : R.of (some a) = R.ok a := rfl
@[simp] theorem of_none {α : Type} : R.of (none : Option α) = R.bad := rfl
@[simp] theorem pure_eq {α : Type} (a : α) : (pure a : R α) = R.ok a := rfl
end R
abbrev EXT := Str → List Str → List D → Prop
/-- a result that is wanted -/
def Sat {α : Type} (r : R α) (Q : α → Prop) (EX : EXT) : Prop := match r with
  | .ok a => Q a
  | .exc c ns vs => EX c ns vs
  | .bad => False
theorem sat_bind {α β : Type} {x : R α} {f : α → R β} {Q : β → Prop} {EX : EXT} : Sat (x >>= f) Q EX ↔ Sat x (fun a => Sat (f a) Q EX) EX := by cases x <;> exact Iff.rfl
theorem sat_of {α : Type} {x : Option α} {Q : α → Prop} {EX : EXT} (h : Sat (R.of x) Q EX) : ∃ a, x = some a ∧ Q a := by
  cases x with
  | none => exact h.elim
  | some a => exact ⟨a, rfl, h⟩
theorem Sat.imp {α : Type} {x : R α} {Q Q' : α → Prop} {EX : EXT} (h : Sat x Q EX) (hq : ∀ a, Q a → Q' a) : Sat x Q' EX := by
  cases x with
  | ok a => exact hq a h
  | exc _ _ _ => exact h
  | bad => exact h
/-! ### heaps -/
def Ex (H H' : Hp) : Prop := ∀ a o, H a = some o → H' a = some o
theorem Ex.refl (H : Hp) : Ex H H := fun _ _ h => h
theorem Ex.trans {H H1 H2 : Hp} (a : Ex H H1) (b : Ex H1 H2) : Ex H H2 := fun x o h => b x o (a x o h)
theorem Ex.new {H : Hp} {p : Addr} {o : HO} (h : H p = none) : Ex H (upd H p o) := fun a u e => by
  rw [upd_ne (ne_of_none e h)]
  exact e
theorem ex_rd {H H' : Hp} {a : Addr} {u : HO} (e : Ex H H') (h : Rd H a u) : Rd H' a u := by
  rcases h with h | ⟨o, h⟩
  · exact Or.inl (e a _ h)
  · exact Or.inr ⟨o, e a _ h⟩
theorem ex_l {K : PySem.W.Frag} {H H' : Hp} {a : Addr} {xs : List V} (e : Ex H H') (h : SqL K H a xs) : SqL K H' a xs := by
  rcases h with h | h
  · exact Or.inl (ex_rd e h)
  · exact Or.inr h
theorem ex_t {K : PySem.W.Frag} {H H' : Hp} {a : Addr} {xs : List V} (e : Ex H H') (h : SqT K H a xs) : SqT K H' a xs := by
  rcases h with h | h
  · exact Or.inl (ex_rd e h)
  · exact Or.inr h
/-- the heap without the addresses of L -/
def Frz (H : Hp) (L : List Addr) : Hp := fun a => if a ∈ L then none else H a
theorem frz_ex (H : Hp) (L : List Addr) : Ex (Frz H L) H := fun a o h => by
  unfold Frz at h
  split at h
  · cases h
  · exact h
theorem frz_of {H : Hp} {L : List Addr} {a : Addr} {o : HO} (h : H a = some o) (n : a ∉ L) : Frz H L a = some o := by
  unfold Frz
  rw [if_neg n]
  exact h
theorem frz_mono {H H' : Hp} {L : List Addr} (e : ∀ a o, a ∉ L → H a = some o → H' a = some o) : Ex (Frz H L) (Frz H' L) := fun a o h => by
  unfold Frz at h ⊢
  split at h
  · cases h
  · rename_i n
    rw [if_neg n]
    exact e a o n h
theorem frz_sub {H : Hp} {L L' : List Addr} (s : ∀ a ∈ L', a ∈ L) : Ex (Frz H L) (Frz H L') := fun a o h => by
  unfold Frz at h ⊢
  split at h
  · cases h
  · rename_i n
    rw [if_neg fun z => n (s a z)]
    exact h
/-! ### what a value is -/
/-- an exception at rest -/
def exT (a C : Addr) (d : Option Addr) : HO := .ext fun h => ∃ (o : Obj) (fv : Array Value), h.get? a = some o ∧ o.cls = .ref C ∧ o.dict = d ∧ o.data = .fields fv
mutual
inductive Rp (K : PySem.W.Frag) (ca : Str → Option Addr) (F : Hp) : V → D → Prop
  | non : Rp K ca F .non .non
  | bl (b : Bool) : Rp K ca F (.bl b) (.bl b)
  | int (i : Int) : Rp K ca F (.int i) (.int i)
  | str (x : Str) : Rp K ca F (.str x) (.str x)
  | tup {a : Addr} {xs : List V} {ds : List D} : SqT K F a xs → RpA K ca F xs ds → Rp K ca F (.ref a) (.tup ds)
  | lst {a : Addr} {xs : List V} {ds : List D} : F a = some (.lst xs) → RpA K ca F xs ds → Rp K ca F (.ref a) (.lst ds)
  | scr {a : Addr} {ns : List Int} : SqL K F a (ns.map V.int) → Rp K ca F (.ref a) (.scr ns)
  | dic {a : Addr} {kvs : List (Key × V)} {ds : List D} : F a = some (.dK kvs) → RpA K ca F (kvs.map (·.2)) ds → Rp K ca F (.ref a) (.dic (kvs.map (·.1)) ds)
  | ins {a C dx : Addr} {c : Str} {fs : List (Str × V)} {ds : List D} : F a = some (.ins C dx fs) → ca c = some C → RpA K ca F (fs.map (·.2)) ds → Rp K ca F (.ref a) (.ins c (fs.map (·.1)) ds)
  | cls {C : Addr} {c : Str} : ca c = some C → Rp K ca F (.ref C) (.cls c)
  | exn0 {a C : Addr} {c : Str} : F a = some (exT a C none) → ca c = some C → Rp K ca F (.ref a) (.exn c [] [])
  | exnD {a C dx : Addr} {c : Str} {fs : List (Str × V)} {ds : List D} : F a = some (exT a C (some dx)) → F dx = some (.xd fs) → ca c = some C → RpA K ca F (fs.map (·.2)) ds → Rp K ca F (.ref a) (.exn c (fs.map (·.1)) ds)
inductive RpA (K : PySem.W.Frag) (ca : Str → Option Addr) (F : Hp) : List V → List D → Prop
  | nil : RpA K ca F [] []
  | cons {v : V} {vs : List V} {d : D} {ds : List D} : Rp K ca F v d → RpA K ca F vs ds → RpA K ca F (v :: vs) (d :: ds)
end
section
variable {K : PySem.W.Frag} {ca : Str → Option Addr} {F F' : Hp}
mutual
theorem Rp.mono (e : Ex F F') : ∀ {v : V} {d : D}, Rp K ca F v d → Rp K ca F' v d
  | _, _, .non => .non
  | _, _, .bl b => .bl b
  | _, _, .int i => .int i
  | _, _, .str x => .str x
  | _, _, .tup h r => .tup (ex_t e h) (RpA.mono e r)
  | _, _, .lst h r => .lst (e _ _ h) (RpA.mono e r)
  | _, _, .scr h => .scr (ex_l e h)
  | _, _, .dic h r => .dic (e _ _ h) (RpA.mono e r)
  | _, _, .ins h c r => .ins (e _ _ h) c (RpA.mono e r)
  | _, _, .cls c => .cls c
  | _, _, .exn0 h c => .exn0 (e _ _ h) c
  | _, _, .exnD h g c r => .exnD (e _ _ h) (e _ _ g) c (RpA.mono e r)
theorem RpA.mono (e : Ex F F') : ∀ {vs : List V} {ds : List D}, RpA K ca F vs ds → RpA K ca F' vs ds
  | _, _, .nil => .nil
  | _, _, .cons h r => .cons (Rp.mono e h) (RpA.mono e r)
end
theorem RpA.length : ∀ {vs : List V} {ds : List D}, RpA K ca F vs ds → vs.length = ds.length
  | _, _, .nil => rfl
  | _, _, .cons _ r => congrArg (· + 1) (RpA.length r)
theorem RpA.get : ∀ {vs : List V} {ds : List D} {i : Nat} {d : D}, RpA K ca F vs ds → ds[i]? = some d → ∃ v, vs[i]? = some v ∧ Rp K ca F v d
  | _, _, 0, d, .cons h _, e => by
    simp only [List.length_cons, List.getElem?_cons_zero, Option.some.injEq] at e
    subst e
    exact ⟨_, rfl, h⟩
  | _, _, i + 1, d, .cons _ r, e => by
    obtain ⟨v, e1, h⟩ := RpA.get (i := i) (d := d) r (by simpa using e)
    exact ⟨v, by simpa using e1, h⟩
  | _, _, _, _, .nil, e => by simp at e
theorem RpA.getV : ∀ {vs : List V} {ds : List D} {i : Nat} {v : V}, RpA K ca F vs ds → vs[i]? = some v → ∃ d, ds[i]? = some d ∧ Rp K ca F v d
  | _, _, 0, v, .cons h _, e => by
    simp only [List.length_cons, List.getElem?_cons_zero, Option.some.injEq] at e
    subst e
    exact ⟨_, rfl, h⟩
  | _, _, i + 1, v, .cons _ r, e => by
    obtain ⟨d, e1, h⟩ := RpA.getV (i := i) (v := v) r (by simpa using e)
    exact ⟨d, by simpa using e1, h⟩
  | _, _, _, _, .nil, e => by simp at e
theorem RpA.append : ∀ {vs ws : List V} {ds es : List D}, RpA K ca F vs ds → RpA K ca F ws es → RpA K ca F (vs ++ ws) (ds ++ es)
  | _, _, _, _, .nil, s => s
  | _, _, _, _, .cons h r, s => .cons h (RpA.append r s)
theorem RpA.take : ∀ {vs : List V} {ds : List D} (n : Nat), RpA K ca F vs ds → RpA K ca F (vs.take n) (ds.take n)
  | _, _, 0, _ => .nil
  | _, _, _ + 1, .nil => .nil
  | _, _, n + 1, .cons h r => .cons h (RpA.take n r)
theorem RpA.drop : ∀ {vs : List V} {ds : List D} (n : Nat), RpA K ca F vs ds → RpA K ca F (vs.drop n) (ds.drop n)
  | _, _, 0, r => r
  | _, _, _ + 1, .nil => .nil
  | _, _, n + 1, .cons _ r => RpA.drop n r
theorem RpA.set {v : V} {d : D} (h : Rp K ca F v d) : ∀ {vs : List V} {ds : List D} (i : Nat), RpA K ca F vs ds → RpA K ca F (vs.set i v) (ds.set i d)
  | _, _, _, .nil => .nil
  | _, _, 0, .cons _ r => .cons h r
  | _, _, i + 1, .cons q r => .cons q (RpA.set h i r)
/-- ints, bools, texts: values by themselves -/
def D.ints : List D → Option (List Int)
  | [] => some []
  | .int i :: r => (D.ints r).map (i :: ·)
  | _ :: _ => none
def D.bls : List D → Option (List Bool)
  | [] => some []
  | .bl i :: r => (D.bls r).map (i :: ·)
  | _ :: _ => none
def D.strs : List D → Option (List Str)
  | [] => some []
  | .str i :: r => (D.strs r).map (i :: ·)
  | _ :: _ => none
theorem RpA.ints : ∀ {vs : List V} {ds : List D} {ns : List Int}, RpA K ca F vs ds → D.ints ds = some ns → vs = ns.map V.int
  | _, _, ns, .nil, e => by cases e; rfl
  | _, _, ns, .cons h r, e => by
    cases h with
    | int i =>
      simp only [D.ints, Option.map_eq_some_iff] at e
      obtain ⟨m, e1, rfl⟩ := e
      rw [RpA.ints r e1]; rfl
    | _ => simp [D.ints] at e
theorem RpA.bls : ∀ {vs : List V} {ds : List D} {ns : List Bool}, RpA K ca F vs ds → D.bls ds = some ns → vs = ns.map V.bl
  | _, _, ns, .nil, e => by cases e; rfl
  | _, _, ns, .cons h r, e => by
    cases h with
    | bl i =>
      simp only [D.bls, Option.map_eq_some_iff] at e
      obtain ⟨m, e1, rfl⟩ := e
      rw [RpA.bls r e1]; rfl
    | _ => simp [D.bls] at e
theorem RpA.strs : ∀ {vs : List V} {ds : List D} {ns : List Str}, RpA K ca F vs ds → D.strs ds = some ns → vs = ns.map V.str
  | _, _, ns, .nil, e => by cases e; rfl
  | _, _, ns, .cons h r, e => by
    cases h with
    | str i =>
      simp only [D.strs, Option.map_eq_some_iff] at e
      obtain ⟨m, e1, rfl⟩ := e
      rw [RpA.strs r e1]; rfl
    | _ => simp [D.strs] at e
theorem RpA.ofInts : ∀ (ns : List Int), RpA K ca F (ns.map V.int) (ns.map D.int)
  | [] => .nil
  | n :: r => .cons (.int n) (RpA.ofInts r)
theorem D.ints_map : ∀ ns : List Int, D.ints (ns.map D.int) = some ns
  | [] => rfl
  | n :: r => by simp [D.ints, D.ints_map r]
theorem D.strs_map : ∀ ns : List Str, D.strs (ns.map D.str) = some ns
  | [] => rfl
  | n :: r => by simp [D.strs, D.strs_map r]
end
/-! ### a value that may be a list that the frame owns -/
/-- L: the addresses that are hidden; N: those that may change within an expression -/
def Rb (K : PySem.W.Frag) (ca : Str → Option Addr) (H : Hp) (L N : List Addr) (v : V) (d : D) : Prop :=
  Rp K ca (Frz H L) v d ∨ ∃ a xs ds, v = .ref a ∧ d = .lst ds ∧ a ∉ N ∧ H a = some (.lst xs) ∧ RpA K ca (Frz H L) xs ds
theorem Rb.rp {K : PySem.W.Frag} {ca : Str → Option Addr} {H : Hp} {L N : List Addr} {v : V} {d : D} (h : Rb K ca H L N v d) : Rp K ca H v d := by
  rcases h with h | ⟨a, xs, ds, rfl, rfl, _, h, r⟩
  · exact h.mono (frz_ex H L)
  · exact .lst h (r.mono (frz_ex H L))
theorem Rb.lst {K : PySem.W.Frag} {ca : Str → Option Addr} {H : Hp} {L N : List Addr} {v : V} {ds : List D} (h : Rb K ca H L N v (.lst ds)) :
    ∃ a xs, v = .ref a ∧ H a = some (.lst xs) ∧ RpA K ca (Frz H L) xs ds := by
  rcases h with h | ⟨a, xs, ds', rfl, e, _, h, r⟩
  · cases h with
    | lst h r => exact ⟨_, _, rfl, frz_ex H L _ _ h, r⟩
  · cases e
    exact ⟨a, xs, rfl, h, r⟩
theorem Rb.flat {K : PySem.W.Frag} {ca : Str → Option Addr} {H : Hp} {L N : List Addr} {v : V} {d : D} (h : Rb K ca H L N v d) (n : ∀ ds, d ≠ .lst ds) : Rp K ca (Frz H L) v d := by
  rcases h with h | ⟨a, xs, ds', _, e, _⟩
  · exact h
  · exact absurd e (n ds')
/-! ### tables of code objects -/
abbrev Tb := List (Addr × Str)
def tbs (T : Tb) : List Addr := T.map (·.1)
/-- all but the tables stay -/
def GrT (T : Tb) (H H' : Hp) : Prop := ∀ a o, a ∉ tbs T → H a = some o → H' a = some o
theorem GrT.of {T : Tb} {H H' : Hp} (e : Ex H H') : GrT T H H' := fun a o _ h => e a o h
theorem GrT.refl {T : Tb} {H : Hp} : GrT T H H := fun _ _ _ h => h
theorem GrT.trans {T : Tb} {H H1 H2 : Hp} (a : GrT T H H1) (b : GrT T H1 H2) : GrT T H H2 := fun x o n h => b x o n (a x o n h)
/-- the tables are hidden, and as they are wanted -/
structure TIn (T : Tb) (L : List Addr) (H : Hp) : Prop where
  nd : (tbs T).Nodup
  sub : ∀ a ∈ tbs T, a ∈ L
  tabs : LamX.Tabs T H
theorem TIn.nil {L : List Addr} {H : Hp} : TIn [] L H := ⟨List.nodup_nil, fun _ h => (nomatch h), fun _ h => (nomatch h)⟩
/-- an object that is neither a table nor a code object is written -/
theorem tabs_upd {T : Tb} {H : Hp} {a : Addr} {u o : HO} (t : LamX.Tabs T H) (h : H a = some u) (n1 : ∀ ps, u ≠ .tbl ps) (n2 : ∀ φ, u ≠ .ext φ) : LamX.Tabs T (upd H a o) := fun p hp => by
  obtain ⟨ps, h1, h2, h3⟩ := t p hp
  refine ⟨ps, ?_, h2, fun pos cv hc => ?_⟩
  · rw [upd_ne fun z => ?_]
    · exact h1
    · rw [z, h] at h1
      exact n1 ps (Option.some.inj h1)
  · obtain ⟨c, e1, e2⟩ := h3 pos cv hc
    refine ⟨c, e1, ?_⟩
    rw [upd_ne fun z => ?_]
    · exact e2
    · rw [z, h] at e2
      exact n2 _ (Option.some.inj e2)
theorem tabs_new {T : Tb} {H : Hp} {a : Addr} {o : HO} (t : LamX.Tabs T H) (h : H a = none) : LamX.Tabs T (upd H a o) := t.ext fun b u e => (Ex.new h) b u e
/-! ### a frame -/
/-- what stays through a def's run: the written part, the classes' addresses, the heap at the entry, the in-out object, its place and how it looks -/
structure Z where
  K : PySem.W.Frag
  ca : Str → Option Addr
  H0 : Hp
  pl : Option (Nat × Addr)
  sh : List V → HO
  tb : Tb := []
  /-- what the callers hide; the places that are kept, as they were -/
  bs : List Addr := []
  s0 : L2.St := []
  kp : List Nat := []
abbrev Env := List (Option D)
/-- what may change: the in-out object, the tables of code objects -/
def Z.pls (z : Z) : List Addr := z.pl.toList.map (·.2) ++ tbs z.tb
/-- all that is hidden: the owned lists, the in-out list, what is not to be touched -/
def Z.L (z : Z) (B : List Addr) (P : List (Nat × Addr)) : List Addr := P.map (·.2) ++ (z.pls ++ B)
/-- what an exception's way out leans on -/
def XtOk (z : Z) (B : List Addr) (σ : L2.St) : Prop := (∀ a ∈ z.bs, z.H0 a ≠ none ∧ a ∈ B) ∧ ∀ i ∈ z.kp, σ[i]? = z.s0[i]?
structure Rel (z : Z) (B : List Addr) (P : List (Nat × Addr)) (σ : L2.St) (H : Hp) (ρ : Env) (S : List D) : Prop where
  val : ∀ i d, (∀ p ∈ P, p.1 ≠ i) → ρ[i]? = some (some d) → ∃ v, σ[i]? = some (some v) ∧ Rp z.K z.ca (Frz H (z.L B P)) v d
  own : ∀ p ∈ P, σ[p.1]? = some (some (.ref p.2)) ∧ ∃ xs ds, H p.2 = some (.lst xs) ∧ ρ[p.1]? = some (some (.lst ds)) ∧ RpA z.K z.ca (Frz H (z.L B P)) xs ds
  pool : ∀ i a, z.pl = some (i, a) → σ[i]? = some (some (.ref a)) ∧ ρ[i]? = some none ∧ ∃ xs, H a = some (z.sh xs) ∧ RpA z.K z.ca (Frz H (z.L B P)) xs S
  nd : (z.L B P).Nodup
  there : ∀ b ∈ B, H b ≠ none
  ex : ∀ a o, z.H0 a = some o → a ∉ z.pls → H a = some o
  new : ∀ p ∈ P, z.H0 p.2 = none
  len : σ.length = ρ.length
  tabs : LamX.Tabs z.tb H
  xt : XtOk z B σ
/-- the in-out list alone may have changed -/
def Grow (z : Z) (H H' : Hp) : Prop := ∀ a o, a ∉ z.pls → H a = some o → H' a = some o
theorem Grow.of {z : Z} {H H' : Hp} (e : Ex H H') : Grow z H H' := fun a o _ h => e a o h
theorem Grow.refl {z : Z} {H : Hp} : Grow z H H := fun _ _ _ h => h
theorem Grow.trans {z : Z} {H H1 H2 : Hp} (a : Grow z H H1) (b : Grow z H1 H2) : Grow z H H2 := fun x o n h => b x o n (a x o n h)
theorem Grow.frz {z : Z} {B : List Addr} {P : List (Nat × Addr)} {H H' : Hp} (g : Grow z H H') : Ex (Frz H (z.L B P)) (Frz H' (z.L B P)) := frz_mono fun a o n h => g a o (fun q => n (by
  unfold Z.L
  exact List.mem_append_right _ (List.mem_append_left _ q))) h
theorem Rel.grow {z : Z} {B : List Addr} {P : List (Nat × Addr)} {σ : L2.St} {H H' : Hp} {ρ : Env} {S : List D} (r : Rel z B P σ H ρ S) (e : Ex H H') : Rel z B P σ H' ρ S where
  val := fun i d n h => let ⟨v, e1, q⟩ := r.val i d n h; ⟨v, e1, q.mono ((Grow.of e).frz)⟩
  own := fun p hp => let ⟨e1, xs, ds, e2, e3, q⟩ := r.own p hp; ⟨e1, xs, ds, e _ _ e2, e3, q.mono ((Grow.of e).frz)⟩
  pool := fun i a h => let ⟨e1, e0, xs, e2, q⟩ := r.pool i a h; ⟨e1, e0, xs, e _ _ e2, q.mono ((Grow.of e).frz)⟩
  nd := r.nd
  there := fun b hb => by
    have h := r.there b hb
    cases q : H b with
    | none => exact absurd q h
    | some o => rw [e b o q]; exact fun z => nomatch z
  ex := fun a o h n => e _ _ (r.ex a o h n)
  new := r.new
  len := r.len
  tabs := r.tabs.ext e
  xt := r.xt
theorem Rel.lt {z : Z} {B : List Addr} {P : List (Nat × Addr)} {σ : L2.St} {H : Hp} {ρ : Env} {S : List D} (r : Rel z B P σ H ρ S) {a : Addr} (h : a ∈ z.L B P) : H a ≠ none := by
  unfold Z.L at h
  rcases List.mem_append.mp h with h | h
  · obtain ⟨p, hp, rfl⟩ := List.mem_map.mp h
    obtain ⟨_, xs, ds, e, _⟩ := r.own p hp
    rw [e]; exact fun z => nomatch z
  · rcases List.mem_append.mp h with h | h
    · unfold Z.pls at h
      rcases List.mem_append.mp h with h | h
      · obtain ⟨p, hp, rfl⟩ := List.mem_map.mp h
        obtain ⟨i, a⟩ := p
        have q : z.pl = some (i, a) := by
          cases e : z.pl with
          | none => rw [e] at hp; cases hp
          | some u => rw [e] at hp; simp at hp; rw [hp]
        obtain ⟨_, _, xs, e, _⟩ := r.pool i a q
        rw [e]; exact fun z => nomatch z
      · obtain ⟨p, hp, rfl⟩ := List.mem_map.mp h
        obtain ⟨ps, e, _⟩ := r.tabs p hp
        rw [e]; exact fun z => nomatch z
    · exact r.there a h
/-- a fresh address is not hidden -/
theorem Rel.fresh {z : Z} {B : List Addr} {P : List (Nat × Addr)} {σ : L2.St} {H : Hp} {ρ : Env} {S : List D} (r : Rel z B P σ H ρ S) {a : Addr} (h : H a = none) : a ∉ z.L B P := fun q => r.lt q h
/-! ### expressions -/
/-- e gives what f tells. O: the places of the owned lists -/
def EvE (z : Z) (O : List Nat) (EX : EXT) (t : TE) (f : Env → List D → R (D × List D)) : Prop :=
  ∀ B P σ H ρ S Q, P.map (·.1) = O → Rel z B P σ H ρ S →
    Sat (f ρ S) (fun r => ∀ v H', Grow z H H' → Rel z B P σ H' ρ r.2 → Rp z.K z.ca (Frz H' (z.L B P)) v r.1 → Q v H') EX → t σ H Q
/-- .. it may be an owned list -/
def EvB (z : Z) (O : List Nat) (EX : EXT) (t : TE) (f : Env → List D → R (D × List D)) : Prop :=
  ∀ B P σ H ρ S Q, P.map (·.1) = O → Rel z B P σ H ρ S →
    Sat (f ρ S) (fun r => ∀ v H', Grow z H H' → Rel z B P σ H' ρ r.2 → Rb z.K z.ca H' (z.L B P) z.pls v r.1 → Q v H') EX → t σ H Q
structure PD (X : Cx) (z : Z) (O : List Nat) (EX : EXT) (e : Expr) (f : Env → List D → R (D × List D)) : Prop where
  ex : ∃ t, PE X e t ∧ EvE z O EX t f
structure PB (X : Cx) (z : Z) (O : List Nat) (EX : EXT) (e : Expr) (f : Env → List D → R (D × List D)) : Prop where
  ex : ∃ t, PE X e t ∧ EvB z O EX t f
theorem PD.pb {X : Cx} {z : Z} {O : List Nat} {EX : EXT} {e : Expr} {f : Env → List D → R (D × List D)} (h : PD X z O EX e f) : PB X z O EX e f := by
  obtain ⟨t, h1, h2⟩ := h.ex
  exact ⟨t, h1, fun B P σ H ρ S Q hP r hs => h2 B P σ H ρ S Q hP r (hs.imp fun a q v H' g r' hv => q v H' g r' (.inl hv))⟩
theorem Rb.grow {z : Z} {B : List Addr} {P : List (Nat × Addr)} {H H' : Hp} {v : V} {d : D} (h : Rb z.K z.ca H (z.L B P) z.pls v d) (g : Grow z H H') : Rb z.K z.ca H' (z.L B P) z.pls v d := by
  rcases h with h | ⟨a, xs, ds, rfl, rfl, n, h, r⟩
  · exact .inl (h.mono g.frz)
  · exact .inr ⟨a, xs, ds, rfl, rfl, n, g _ _ n h, r.mono g.frz⟩
end PL
set_option Elab.async false
set_option linter.all false
set_option maxRecDepth 100000
set_option maxHeartbeats 4000000
namespace PL
open PySem PySem.Spec PyProof.Rows L2
/-! ### operators on data -/
abbrev LINE : Nat := 16777216
theorem line_le {n : Nat} (h : n ≤ LINE) : n ≤ sizeLine := by rw [sizeLine_eq]; exact h
theorem line_lt {n : Nat} (h : n < LINE) : n < sizeLine := by rw [sizeLine_eq]; exact h
/-- a two-place rule r answers as g does -/
def Op2 (K : PySem.W.Frag) (ca : Str → Option Addr) (r : R2) (g : D → D → Option D) : Prop :=
  ∀ (H : Hp) (L N : List Addr) (x y : V) (dx dy d : D) (Q : VK), (∀ p, H p = none → p ∉ L) → Rb K ca H L N x dx → Rb K ca H L N y dy → g dx dy = some d →
    (∀ v H', Ex H H' → Rp K ca (Frz H' L) v d → Q v H') → r x y H Q
section
variable {K : PySem.W.Frag} {ca : Str → Option Addr}
theorem Op2.or {r r' : R2} {g g' : D → D → Option D} (h : Op2 K ca r g) (h' : Op2 K ca r' g') : Op2 K ca (fun x y H Q => r x y H Q ∨ r' x y H Q) (fun a b => (g a b).or (g' a b)) := by
  intro H L N x y dx dy d Q fr hx hy hg hq
  dsimp only at hg
  cases e : g dx dy with
  | some u =>
    rw [e] at hg
    cases hg
    exact .inl (h H L N x y dx dy _ Q fr hx hy e hq)
  | none =>
    rw [e] at hg
    exact .inr (h' H L N x y dx dy _ Q fr hx hy hg hq)
theorem frz_new {H : Hp} {L : List Addr} {p : Addr} {o : HO} (n : p ∉ L) : Frz (upd H p o) L p = some o := frz_of upd_same n
theorem frz_up {H : Hp} {L : List Addr} {p : Addr} {o : HO} (h : H p = none) : Ex (Frz H L) (Frz (upd H p o) L) := frz_mono fun a u n e => (Ex.new h) a u e
theorem new_lst {H : Hp} {L : List Addr} {p : Addr} {xs : List V} {ds : List D} (h : H p = none) (n : p ∉ L) (r : RpA K ca (Frz H L) xs ds) : Rp K ca (Frz (upd H p (.lst xs)) L) (.ref p) (.lst ds) :=
  .lst (frz_new n) (r.mono (frz_up h))
theorem new_tup {H : Hp} {L : List Addr} {p : Addr} {xs : List V} {ds : List D} (h : H p = none) (n : p ∉ L) (r : RpA K ca (Frz H L) xs ds) : Rp K ca (Frz (upd H p (.tup xs)) L) (.ref p) (.tup ds) :=
  .tup (SqT.of (frz_new n)) (r.mono (frz_up h))
theorem Rb.int {H : Hp} {L N : List Addr} {v : V} {i : Int} (h : Rb K ca H L N v (.int i)) : v = .int i := by
  cases h.flat (fun _ z => nomatch z); rfl
theorem Rb.bl {H : Hp} {L N : List Addr} {v : V} {i : Bool} (h : Rb K ca H L N v (.bl i)) : v = .bl i := by
  cases h.flat (fun _ z => nomatch z); rfl
theorem Rb.str {H : Hp} {L N : List Addr} {v : V} {i : Str} (h : Rb K ca H L N v (.str i)) : v = .str i := by
  cases h.flat (fun _ z => nomatch z); rfl
theorem Rb.non {H : Hp} {L N : List Addr} {v : V} (h : Rb K ca H L N v .non) : v = .non := by
  cases h.flat (fun _ z => nomatch z); rfl
theorem Rb.tup {H : Hp} {L N : List Addr} {v : V} {ds : List D} (h : Rb K ca H L N v (.tup ds)) : ∃ a xs, v = .ref a ∧ SqT K (Frz H L) a xs ∧ RpA K ca (Frz H L) xs ds := by
  cases h.flat (fun _ z => nomatch z) with
  | tup q r => exact ⟨_, _, rfl, q, r⟩
theorem Rb.scr {H : Hp} {L N : List Addr} {v : V} {ns : List Int} (h : Rb K ca H L N v (.scr ns)) : ∃ a, v = .ref a ∧ SqL K (Frz H L) a (ns.map V.int) := by
  cases h.flat (fun _ z => nomatch z) with
  | scr q => exact ⟨_, rfl, q⟩
/-- + -/
def addI : D → D → Option D | .int a, .int b => some (.int (a + b)) | _, _ => none
def addS : D → D → Option D | .str a, .str b => if a.length + b.length ≤ LINE then some (.str (a ++ b)) else none | _, _ => none
def addL : D → D → Option D | .lst a, .lst b => if a.length + b.length ≤ LINE then some (.lst (a ++ b)) else none | _, _ => none
def addT : D → D → Option D | .tup a, .tup b => if a.length + b.length ≤ LINE then some (.tup (a ++ b)) else none | _, _ => none
def addD (a b : D) : Option D := (addI a b).or ((addS a b).or ((addL a b).or (addT a b)))
theorem op2_rI0 {f : Int → Int → Int} {g : D → D → Option D} (hg : ∀ a b d, g a b = some d → ∃ i j, a = .int i ∧ b = .int j ∧ d = .int (f i j)) : Op2 K ca (rI0 fun i j => .int (f i j)) g := by
  intro H L N x y dx dy d Q fr hx hy e hq
  obtain ⟨i, j, rfl, rfl, rfl⟩ := hg _ _ _ e
  exact ⟨i, j, hx.int, hy.int, hq _ H (Ex.refl H) (.int _)⟩
theorem op2_rI {C : Int → Int → Prop} {f : Int → Int → Int} {g : D → D → Option D} (hg : ∀ a b d, g a b = some d → ∃ i j, a = .int i ∧ b = .int j ∧ C i j ∧ d = .int (f i j)) : Op2 K ca (rI C fun i j => .int (f i j)) g := by
  intro H L N x y dx dy d Q fr hx hy e hq
  obtain ⟨i, j, rfl, rfl, c, rfl⟩ := hg _ _ _ e
  exact ⟨i, j, hx.int, hy.int, c, hq _ H (Ex.refl H) (.int _)⟩
theorem op2_rB {f : Int → Int → Bool} {g : D → D → Option D} (hg : ∀ a b d, g a b = some d → ∃ i j, a = .int i ∧ b = .int j ∧ d = .bl (f i j)) : Op2 K ca (rI0 fun i j => .bl (f i j)) g := by
  intro H L N x y dx dy d Q fr hx hy e hq
  obtain ⟨i, j, rfl, rfl, rfl⟩ := hg _ _ _ e
  exact ⟨i, j, hx.int, hy.int, hq _ H (Ex.refl H) (.bl _)⟩
theorem op2_addI : Op2 K ca (rI0 fun i j => .int (i + j)) addI := op2_rI0 fun a b d h => by
  cases a <;> cases b <;> simp only [addI, reduceCtorEq, Option.some.injEq] at h
  exact ⟨_, _, rfl, rfl, h.symm⟩
def rAddStr : R2 := fun x y H Q => ∃ i j, x = .str i ∧ y = .str j ∧ i.length + j.length ≤ sizeLine ∧ Q (.str (i ++ j)) H
theorem op2_addS : Op2 K ca rAddStr addS := by
  intro H L N x y dx dy d Q fr hx hy e hq
  cases dx <;> cases dy <;> simp only [addS, reduceCtorEq] at e
  split at e
  · rename_i z
    cases e
    exact ⟨_, _, hx.str, hy.str, line_le z, hq _ H (Ex.refl H) (.str _)⟩
  · cases e
theorem op2_addL : Op2 K ca rCat addL := by
  intro H L N x y dx dy d Q fr hx hy e hq
  cases dx <;> cases dy <;> simp only [addL, reduceCtorEq] at e
  split at e
  · rename_i z
    cases e
    obtain ⟨a, xs, rfl, h1, r1⟩ := hx.lst
    obtain ⟨b, ys, rfl, h2, r2⟩ := hy.lst
    exact ⟨a, b, xs, ys, rfl, rfl, h1, h2, line_le (by rw [r1.length, r2.length]; exact z), fun p hp => hq _ _ (Ex.new hp) (new_lst hp (fr p hp) (r1.append r2))⟩
  · cases e
theorem RpA.nil_iff {F : Hp} {xs : List V} {ds : List D} (r : RpA K ca F xs ds) : xs = [] ↔ ds = [] := by
  cases r <;> simp
theorem op2_addT : Op2 K ca (rCatA K) addT := by
  intro H L N x y dx dy d Q fr hx hy e hq
  cases dx <;> cases dy <;> simp only [addT, reduceCtorEq] at e
  split at e
  · rename_i z
    cases e
    obtain ⟨a, xs, rfl, h1, r1⟩ := hx.tup
    obtain ⟨b, ys, rfl, h2, r2⟩ := hy.tup
    refine ⟨a, b, xs, ys, rfl, rfl, ex_t (frz_ex H L) h1, ex_t (frz_ex H L) h2, line_le (by rw [r1.length, r2.length]; exact z), fun q => ?_, fun _ q => ?_, fun _ _ p hp => hq _ _ (Ex.new hp) (new_tup hp (fr p hp) (r1.append r2))⟩
    · rw [r1.nil_iff.mp q, List.nil_append] at hq
      exact hq _ H (Ex.refl H) (.tup h2 r2)
    · rw [r2.nil_iff.mp q, List.append_nil] at hq
      exact hq _ H (Ex.refl H) (.tup h1 r1)
  · cases e
def rAddD (K : PySem.W.Frag) : R2 := fun x y H Q => rI0 (fun i j => .int (i + j)) x y H Q ∨ (rAddStr x y H Q ∨ (rCat x y H Q ∨ rCatA K x y H Q))
theorem op2_add : Op2 K ca (rAddD K) addD := op2_addI.or (op2_addS.or (op2_addL.or op2_addT))
theorem op_addD {X : Cx} : OpR X (binaryOp .Add) (rAddD X.K) := op_add.or (op_add_str.or (op_cat.or op_catA))
/-- - -/
def subD : D → D → Option D | .int a, .int b => some (.int (a - b)) | _, _ => none
theorem op2_sub : Op2 K ca (rI0 fun i j => .int (i - j)) subD := op2_rI0 fun a b d h => by
  cases a <;> cases b <;> simp only [subD, reduceCtorEq, Option.some.injEq] at h
  exact ⟨_, _, rfl, rfl, h.symm⟩
/-- * -/
def mulI : D → D → Option D | .int a, .int b => if (-(2 ^ 64) < a ∧ a < 2 ^ 64) ∨ (-(2 ^ 64) < b ∧ b < 2 ^ 64) then some (.int (a * b)) else none | _, _ => none
def mulL : D → D → Option D | .lst a, .int k => if -(2 ^ 63) ≤ k ∧ k < 2 ^ 63 ∧ a.length * k.toNat ≤ LINE then some (.lst (List.replicate k.toNat a).flatten) else none | _, _ => none
def mulT : D → D → Option D | .tup a, .int k => if a ≠ [] ∧ 2 ≤ k ∧ k ≤ 1000 ∧ a.length ≤ 1000 then some (.tup (List.replicate k.toNat a).flatten) else none | _, _ => none
def mulD (a b : D) : Option D := (mulI a b).or ((mulL a b).or (mulT a b))
theorem op2_mulI : Op2 K ca (rI CMul fun i j => .int (i * j)) mulI := op2_rI fun a b d h => by
  cases a <;> cases b <;> simp only [mulI, reduceCtorEq] at h
  split at h
  · rename_i c
    cases h
    exact ⟨_, _, rfl, rfl, c, rfl⟩
  · cases h
theorem RpA.rep {F : Hp} {xs : List V} {ds : List D} (r : RpA K ca F xs ds) : ∀ k : Nat, RpA K ca F (List.replicate k xs).flatten (List.replicate k ds).flatten
  | 0 => .nil
  | k + 1 => by rw [List.replicate_succ, List.replicate_succ, List.flatten_cons, List.flatten_cons]; exact r.append (RpA.rep r k)
theorem op2_mulL : Op2 K ca rRep mulL := by
  intro H L N x y dx dy d Q fr hx hy e hq
  cases dx <;> cases dy <;> simp only [mulL, reduceCtorEq] at e
  split at e
  · rename_i z
    cases e
    obtain ⟨a, xs, rfl, h1, r1⟩ := hx.lst
    exact ⟨a, _, xs, rfl, hy.int, h1, z.1, z.2.1, line_le (by rw [r1.length]; exact z.2.2), fun p hp => hq _ _ (Ex.new hp) (new_lst hp (fr p hp) (r1.rep _))⟩
  · cases e
theorem op2_mulT : Op2 K ca (rRepT K) mulT := by
  intro H L N x y dx dy d Q fr hx hy e hq
  cases dx <;> cases dy <;> simp only [mulT, reduceCtorEq] at e
  split at e
  · rename_i z
    cases e
    obtain ⟨a, xs, rfl, h1, r1⟩ := hx.tup
    exact ⟨a, _, xs, rfl, hy.int, ex_t (frz_ex H L) h1, fun q => z.1 (r1.nil_iff.mp q), z.2.1, z.2.2.1, by rw [r1.length]; exact z.2.2.2, fun p hp => hq _ _ (Ex.new hp) (new_tup hp (fr p hp) (r1.rep _))⟩
  · cases e
def rMulD (K : PySem.W.Frag) : R2 := fun x y H Q => rI CMul (fun i j => .int (i * j)) x y H Q ∨ (rRep x y H Q ∨ rRepT K x y H Q)
theorem op2_mul : Op2 K ca (rMulD K) mulD := op2_mulI.or (op2_mulL.or op2_mulT)
theorem op_mulD {X : Cx} : OpR X (binaryOp .Mult) (rMulD X.K) := op_mul.or (op_rep.or op_repT)
/-- //, % -/
def fdivD : D → D → Option D | .int a, .int b => if 0 < b ∧ b < 1073741824 then some (.int (a / b)) else none | _, _ => none
def modD : D → D → Option D | .int a, .int b => if 0 < b then some (.int (a % b)) else none | _, _ => none
def powD : D → D → Option D | .int a, .int b => if 0 ≤ b ∧ b ≤ 1000000 ∧ a.natAbs < 2 ^ 64 then some (.int (a ^ b.toNat)) else none | _, _ => none
theorem op2_fdiv : Op2 K ca (rI CDiv fun i j => .int (i / j)) fdivD := op2_rI fun a b d h => by
  cases a <;> cases b <;> simp only [fdivD, reduceCtorEq] at h
  split at h
  · rename_i c
    cases h
    exact ⟨_, _, rfl, rfl, c, rfl⟩
  · cases h
theorem op2_mod : Op2 K ca (rI (fun _ j => 0 < j) fun i j => .int (i % j)) modD := op2_rI fun a b d h => by
  cases a <;> cases b <;> simp only [modD, reduceCtorEq] at h
  split at h
  · rename_i c
    cases h
    exact ⟨_, _, rfl, rfl, c, rfl⟩
  · cases h
theorem op2_pow : Op2 K ca (rI CPow fun i j => .int (i ^ j.toNat)) powD := op2_rI fun a b d h => by
  cases a <;> cases b <;> simp only [powD, reduceCtorEq] at h
  split at h
  · rename_i c
    cases h
    exact ⟨_, _, rfl, rfl, c, rfl⟩
  · cases h
/-- < <= > >= of ints -/
def ltD : D → D → Option D | .int a, .int b => some (.bl (decide (a < b))) | _, _ => none
def leD : D → D → Option D | .int a, .int b => some (.bl (decide (a ≤ b))) | _, _ => none
def gtD : D → D → Option D | .int a, .int b => some (.bl (decide (b < a))) | _, _ => none
def geD : D → D → Option D | .int a, .int b => some (.bl (decide (b ≤ a))) | _, _ => none
theorem op2_lt : Op2 K ca (rI0 fun i j => .bl (decide (i < j))) ltD := op2_rB fun a b d h => by
  cases a <;> cases b <;> simp only [ltD, reduceCtorEq, Option.some.injEq] at h
  exact ⟨_, _, rfl, rfl, h.symm⟩
theorem op2_le : Op2 K ca (rI0 fun i j => .bl (decide (i ≤ j))) leD := op2_rB fun a b d h => by
  cases a <;> cases b <;> simp only [leD, reduceCtorEq, Option.some.injEq] at h
  exact ⟨_, _, rfl, rfl, h.symm⟩
theorem op2_gt : Op2 K ca (rI0 fun i j => .bl (decide (j < i))) gtD := op2_rB fun a b d h => by
  cases a <;> cases b <;> simp only [gtD, reduceCtorEq, Option.some.injEq] at h
  exact ⟨_, _, rfl, rfl, h.symm⟩
theorem op2_ge : Op2 K ca (rI0 fun i j => .bl (decide (j ≤ i))) geD := op2_rB fun a b d h => by
  cases a <;> cases b <;> simp only [geD, reduceCtorEq, Option.some.injEq] at h
  exact ⟨_, _, rfl, rfl, h.symm⟩
/-! == of data at any depth -/
mutual
def toPy : D → Option PyData
  | .non => some .none
  | .bl b => some (.bool b)
  | .int i => some (.int i)
  | .str s => some (.str s)
  | .tup xs => (toPyA xs).map .tuple
  | .lst xs => (toPyA xs).map .list
  | .scr ns => some (.list (ns.map .int))
  | .dic _ _ => none
  | .ins _ _ _ => none
  | .cls _ => none
  | .exn _ _ _ => none
def toPyA : List D → Option (List PyData)
  | [] => some []
  | d :: r => (toPy d).bind fun p => (toPyA r).map fun q => p :: q
end
theorem dp_ints {F : Hp} : ∀ ns : List Int, DpAll K F (ns.map V.int) (ns.map PyData.int)
  | [] => .nil
  | n :: r => .cons (.int n) (dp_ints r)
mutual
theorem Rp.dp {F : Hp} : ∀ {v : V} {d : D} {p : PyData}, Rp K ca F v d → toPy d = some p → Dp K F v p
  | _, _, _, .non, e => by cases e; exact .non
  | _, _, _, .bl b, e => by cases e; exact .bl b
  | _, _, _, .int i, e => by cases e; exact .int i
  | _, _, _, .str x, e => by cases e; exact .str x
  | _, _, _, .tup h r, e => by
    simp only [toPy, Option.map_eq_some_iff] at e
    obtain ⟨q, e1, rfl⟩ := e
    exact .tup h (RpA.dp r e1)
  | _, _, _, .lst h r, e => by
    simp only [toPy, Option.map_eq_some_iff] at e
    obtain ⟨q, e1, rfl⟩ := e
    exact .lst (SqL.of h) (RpA.dp r e1)
  | _, _, _, .scr h, e => by cases e; exact .lst h (dp_ints _)
  | _, _, _, .dic h r, e => by cases e
  | _, _, _, .ins h c r, e => by cases e
  | _, _, _, .cls c, e => by cases e
  | _, _, _, .exn0 _ _, e => by cases e
  | _, _, _, .exnD _ _ _ _, e => by cases e
theorem RpA.dp {F : Hp} : ∀ {vs : List V} {ds : List D} {ps : List PyData}, RpA K ca F vs ds → toPyA ds = some ps → DpAll K F vs ps
  | _, _, _, .nil, e => by cases e; exact .nil
  | _, _, _, .cons h r, e => by
    simp only [toPyA, Option.bind_eq_some_iff, Option.map_eq_some_iff] at e
    obtain ⟨p, e1, q, e2, rfl⟩ := e
    exact .cons (Rp.dp h e1) (RpA.dp r e2)
end
def eqP (a b : D) : Option Bool := (toPy a).bind fun p => (toPy b).bind fun q => if SeqAt.shaped p && SeqAt.shaped q then some (PyData.eqv p q) else none
def eqD (a b : D) : Option D := (eqP a b).map .bl
def neD (a b : D) : Option D := (eqP a b).map fun k => .bl (!k)
theorem eqP_some {a b : D} {k : Bool} (h : eqP a b = some k) : ∃ p q, toPy a = some p ∧ toPy b = some q ∧ SeqAt.shaped p = true ∧ SeqAt.shaped q = true ∧ k = PyData.eqv p q := by
  unfold eqP at h
  simp only [Option.bind_eq_some_iff] at h
  obtain ⟨p, e1, q, e2, h⟩ := h
  split at h
  · rename_i s
    cases h
    rw [Bool.and_eq_true] at s
    exact ⟨p, q, e1, e2, s.1, s.2, rfl⟩
  · cases h
theorem op2_eq : Op2 K ca (rEqD K) eqD := by
  intro H L N x y dx dy d Q fr hx hy e hq
  simp only [eqD, Option.map_eq_some_iff] at e
  obtain ⟨k, e, rfl⟩ := e
  obtain ⟨p, q, e1, e2, s1, s2, rfl⟩ := eqP_some e
  exact ⟨p, q, hx.rp.dp e1, hy.rp.dp e2, s1, s2, hq _ H (Ex.refl H) (.bl _)⟩
theorem op2_ne : Op2 K ca (rNeD K) neD := by
  intro H L N x y dx dy d Q fr hx hy e hq
  simp only [neD, Option.map_eq_some_iff] at e
  obtain ⟨k, e, rfl⟩ := e
  obtain ⟨p, q, e1, e2, s1, s2, rfl⟩ := eqP_some e
  exact ⟨p, q, hx.rp.dp e1, hy.rp.dp e2, s1, s2, hq _ H (Ex.refl H) (.bl _)⟩
/-- is None -/
def isNoneD : D → Bool | .non => true | _ => false
theorem isNone_rp {F : Hp} {v : V} {d : D} (h : Rp K ca F v d) : decide (v = .non) = isNoneD d := by
  cases h <;> simp [isNoneD]
def rIsNon : R2 := fun x y H Q => y = .non ∧ Q (.bl (decide (x = .non))) H
def rNotNon : R2 := fun x y H Q => y = .non ∧ Q (.bl (!decide (x = .non))) H
def isD : D → D → Option D | a, .non => some (.bl (isNoneD a)) | _, _ => none
def isNotD : D → D → Option D | a, .non => some (.bl (!isNoneD a)) | _, _ => none
theorem op2_is : Op2 K ca rIsNon isD := by
  intro H L N x y dx dy d Q fr hx hy e hq
  cases dy <;> simp only [isD, reduceCtorEq, Option.some.injEq] at e
  subst e
  refine ⟨hy.non, ?_⟩
  rw [isNone_rp hx.rp]
  exact hq _ H (Ex.refl H) (.bl _)
theorem op2_isNot : Op2 K ca rNotNon isNotD := by
  intro H L N x y dx dy d Q fr hx hy e hq
  cases dy <;> simp only [isNotD, reduceCtorEq, Option.some.injEq] at e
  subst e
  refine ⟨hy.non, ?_⟩
  rw [isNone_rp hx.rp]
  exact hq _ H (Ex.refl H) (.bl _)
/-! ### subscripts -/
theorem RpA.atI {F : Hp} {xs : List V} {ds : List D} {i : Int} {d : D} (r : RpA K ca F xs ds) (h : L2.atI ds i = some d) : ∃ v, L2.atI xs i = some v ∧ Rp K ca F v d := by
  unfold L2.atI at h ⊢
  rw [r.length]
  cases e : ixN ds.length i with
  | none => rw [e] at h; cases h
  | some j =>
    rw [e] at h
    obtain ⟨v, e1, q⟩ := r.get h
    exact ⟨v, e1, q⟩
def idxL : D → D → Option D | .lst ds, .int i => L2.atI ds i | .scr ns, .int i => (L2.atI ns i).map .int | _, _ => none
def idxT : D → D → Option D | .tup ds, .int i => L2.atI ds i | _, _ => none
def idxS : D → D → Option D | .str z, .int i => if z.length ≤ LINE then (L2.atI z.cps.toList i).map fun c => .str ⟨#[c]⟩ else none | _, _ => none
def idxD (a b : D) : Option D := (idxL a b).or ((idxT a b).or (idxS a b))
theorem atI_map {α β : Type} (f : α → β) (xs : List α) (i : Int) : L2.atI (xs.map f) i = (L2.atI xs i).map f := by
  unfold L2.atI
  rw [List.length_map]
  cases ixN xs.length i with
  | none => rfl
  | some j => simp
theorem op2_idxL : Op2 K ca (rIxL K) idxL := by
  intro H L N x y dx dy d Q fr hx hy e hq
  cases dy <;> cases dx <;> simp only [idxL, reduceCtorEq] at e
  · obtain ⟨a, xs, rfl, h1, r1⟩ := hx.lst
    obtain ⟨v, e1, q⟩ := r1.atI e
    exact ⟨a, xs, _, v, rfl, hy.int, SqL.of h1, e1, hq _ H (Ex.refl H) q⟩
  · obtain ⟨a, rfl, h1⟩ := hx.scr
    simp only [Option.map_eq_some_iff] at e
    obtain ⟨n, e, rfl⟩ := e
    exact ⟨a, _, _, .int n, rfl, hy.int, ex_l (frz_ex H L) h1, by rw [atI_map, e]; rfl, hq _ H (Ex.refl H) (.int n)⟩
theorem op2_idxT : Op2 K ca (rIxT K) idxT := by
  intro H L N x y dx dy d Q fr hx hy e hq
  cases dy <;> cases dx <;> simp only [idxT, reduceCtorEq] at e
  obtain ⟨a, xs, rfl, h1, r1⟩ := hx.tup
  obtain ⟨v, e1, q⟩ := r1.atI e
  exact ⟨a, xs, _, v, rfl, hy.int, ex_t (frz_ex H L) h1, e1, hq _ H (Ex.refl H) q⟩
theorem op2_idxS : Op2 K ca rIxS idxS := by
  intro H L N x y dx dy d Q fr hx hy e hq
  cases dy <;> cases dx <;> simp only [idxS, reduceCtorEq] at e
  split at e
  · rename_i z
    simp only [Option.map_eq_some_iff] at e
    obtain ⟨c, e, rfl⟩ := e
    exact ⟨_, _, c, hx.str, hy.int, line_le z, e, hq _ H (Ex.refl H) (.str _)⟩
  · cases e
theorem op2_idx : Op2 K ca (rIx K) idxD := op2_idxL.or (op2_idxT.or op2_idxS)
/-- slices -/
def cutG {α : Type} (xs : List α) (lo hi : Option Int) : List α := (xs.drop (HT.sIx xs.length 0 lo)).take (HT.sIx xs.length xs.length hi - HT.sIx xs.length 0 lo)
theorem RpA.cut {F : Hp} {xs : List V} {ds : List D} (r : RpA K ca F xs ds) (lo hi : Option Int) : RpA K ca F (cutV xs lo hi) (cutG ds lo hi) := by
  unfold cutV cutG
  rw [r.length]
  exact (r.drop _).take _
def slcD (x : D) (lo hi : Option Int) : Option D := match x with
  | .lst ds => some (.lst (cutG ds lo hi))
  | .tup ds => some (.tup (cutG ds lo hi))
  | .scr ns => some (.lst ((cutG ns lo hi).map .int))
  | .str z => if z.length ≤ LINE then some (.str (cutS z lo hi)) else none
  | _ => none
def rSlD (K : PySem.W.Frag) : V → Option Int → Option Int → Hp → VK → Prop := fun x lo hi H Q => rSlL K x lo hi H Q ∨ (rSlA K x lo hi H Q ∨ rSlS x lo hi H Q)
theorem sl_D {X : Cx} : SlR X (rSlD X.K) := sl_list.or (sl_tupA.or sl_str)
theorem cut_whole {α : Type} (xs : List α) (lo hi : Option Int) (h : HT.sIx xs.length 0 lo = 0 ∧ HT.sIx xs.length xs.length hi = xs.length) : cutG xs lo hi = xs := by
  unfold cutG
  rw [h.1, h.2]
  simp
theorem cutV_map (ns : List Int) (lo hi : Option Int) : cutV (ns.map V.int) lo hi = (cutG ns lo hi).map V.int := by
  unfold cutV cutG
  rw [List.length_map, ← List.map_drop, ← List.map_take]
theorem slc_ok {H : Hp} {L N : List Addr} {x : V} {dx d : D} {lo hi : Option Int} {Q : VK} (fr : ∀ p, H p = none → p ∉ L) (hx : Rb K ca H L N x dx) (e : slcD dx lo hi = some d)
    (hq : ∀ v H', Ex H H' → Rp K ca (Frz H' L) v d → Q v H') : rSlD K x lo hi H Q := by
  cases dx <;> simp only [slcD, reduceCtorEq, Option.some.injEq] at e
  · split at e
    · rename_i z
      cases e
      exact .inr (.inr ⟨_, hx.str, line_le z, hq _ H (Ex.refl H) (.str _)⟩)
    · cases e
  · subst e
    obtain ⟨a, xs, rfl, h1, r1⟩ := hx.tup
    refine .inr (.inl ⟨a, xs, rfl, ex_t (frz_ex H L) h1, fun w => ?_, fun _ p hp => hq _ _ (Ex.new hp) (new_tup hp (fr p hp) (r1.cut lo hi))⟩)
    refine hq _ H (Ex.refl H) (.tup h1 ?_)
    rw [r1.length] at w
    rw [cut_whole _ _ _ w]
    exact r1
  · subst e
    obtain ⟨a, xs, rfl, h1, r1⟩ := hx.lst
    exact .inl ⟨a, xs, rfl, SqL.of h1, fun p hp => hq _ _ (Ex.new hp) (new_lst hp (fr p hp) (r1.cut lo hi))⟩
  · subst e
    obtain ⟨a, rfl, h1⟩ := hx.scr
    refine .inl ⟨a, _, rfl, ex_l (frz_ex H L) h1, fun p hp => hq _ _ (Ex.new hp) (new_lst hp (fr p hp) ?_)⟩
    rw [cutV_map]
    exact RpA.ofInts _
end
end PL
set_option Elab.async false
set_option linter.all false
set_option maxRecDepth 100000
set_option maxHeartbeats 4000000
namespace PL
open PySem PySem.Spec PyProof.Rows L2
abbrev FE := Env → List D → R (D × List D)
abbrev FA := Env → List D → R (List D × List D)
abbrev FT := Env → List D → R (Bool × List D)
/-- a name's value -/
def lk (ρ : Env) (i : Nat) : R D := R.of (ρ[i]?.join)
section
variable {X : Cx} {z : Z} {O : List Nat} {EX : EXT} {a b c e : Expr} {es : List Expr} {f g h : FE} {pos : Pos}
/-! ### constants and names -/
theorem evE_c {v : V} {d : D} (r : ∀ F, Rp z.K z.ca F v d) : EvE z O EX (tC v) (fun _ S => R.ok (d, S)) := fun B P σ H ρ S Q hP rr hs => hs v H Grow.refl rr (r _)
theorem pd_int {i j pos} : PD X z O EX (.Constant (.int i) j pos) (fun _ S => R.ok (.int i, S)) := ⟨_, pe_int, evE_c fun _ => .int i⟩
theorem pd_bl {i j pos} : PD X z O EX (.Constant (.bool i) j pos) (fun _ S => R.ok (.bl i, S)) := ⟨_, pe_bl, evE_c fun _ => .bl i⟩
theorem pd_non {j pos} : PD X z O EX (.Constant .none j pos) (fun _ S => R.ok (.non, S)) := ⟨_, pe_non, evE_c fun _ => .non⟩
theorem pd_str {i j pos} : PD X z O EX (.Constant (.str i) j pos) (fun _ S => R.ok (.str i, S)) := ⟨_, pe_str, evE_c fun _ => .str i⟩
theorem lk_get {ρ : Env} {i : Nat} {d : D} (h : ρ[i]?.join = some d) : ρ[i]? = some (some d) := by
  cases e : ρ[i]? with
  | none => rw [e] at h; cases h
  | some o => rw [e] at h; cases o with
    | none => cases h
    | some u => cases h; rfl
theorem pd_name (i : Nat) (hi : O.all (· != i) = true := by rfl) {x : Str} (hN : X.N[i]? = some x := by rfl) (hv : Vis X.env.scope x := by first | exact Or.inl rfl | exact Or.inr (Or.inl rfl) | exact Or.inr (Or.inr rfl))
    (hd : (x == ("__debug__" : Str)) = false := by decide) (hcd : (x == ("__classdict__" : Str)) = false := by decide) : PD X z O EX (.Name x pos) (fun ρ S => lk ρ i >>= fun d => R.ok (d, S)) := by
  refine ⟨_, pe_var hN hv hd hcd, fun B P σ H ρ S Q hP rr hs => ?_⟩
  obtain ⟨d, hd, hq⟩ := sat_of (sat_bind.mp hs)
  obtain ⟨v, e, r⟩ := rr.val i d (fun p hp q => by
    have hm : p.1 ∈ O := by rw [← hP]; exact List.mem_map_of_mem hp
    have := List.all_eq_true.mp hi p.1 hm
    rw [q] at this
    simp at this) (lk_get hd)
  exact ⟨v, e, hq v H Grow.refl rr r⟩
/-- an owned list, looked at -/
theorem pb_own (i : Nat) (hi : O.contains i = true := by rfl) {x : Str} (hN : X.N[i]? = some x := by rfl) (hv : Vis X.env.scope x := by first | exact Or.inl rfl | exact Or.inr (Or.inl rfl) | exact Or.inr (Or.inr rfl))
    (hd : (x == ("__debug__" : Str)) = false := by decide) (hcd : (x == ("__classdict__" : Str)) = false := by decide) : PB X z O EX (.Name x pos) (fun ρ S => lk ρ i >>= fun d => R.ok (d, S)) := by
  refine ⟨_, pe_var hN hv hd hcd, fun B P σ H ρ S Q hP rr hs => ?_⟩
  obtain ⟨d, hd, hq⟩ := sat_of (sat_bind.mp hs)
  have hm : i ∈ P.map (·.1) := by rw [hP]; simpa using hi
  obtain ⟨p, hp, e⟩ := List.mem_map.mp hm
  obtain ⟨e1, xs, ds, e2, e3, q⟩ := rr.own p hp
  rw [e] at e1 e3
  have e4 := lk_get hd
  rw [e3] at e4
  cases e4
  refine ⟨_, e1, hq _ H Grow.refl rr (.inr ⟨p.2, xs, ds, rfl, rfl, fun n => ?_, e2, q⟩)⟩
  have nd := rr.nd
  unfold Z.L at nd
  exact (List.nodup_append.mp nd).2.2 p.2 (List.mem_map_of_mem hp) p.2 (List.mem_append_left _ n) rfl
/-! ### operators -/
def bin2 (g2 : D → D → Option D) (f g : FE) : FE := fun ρ S => f ρ S >>= fun x => g ρ x.2 >>= fun y => R.of (g2 x.1 y.1) >>= fun d => R.ok (d, y.2)
theorem ev_bin {ta tb : TE} {r : R2} {g2 : D → D → Option D} (e1 : EvB z O EX ta f) (e2 : EvB z O EX tb g) (hg : Op2 z.K z.ca r g2) : EvE z O EX (tOp r ta tb) (bin2 g2 f g) := by
  intro B P σ H ρ S Q hP rr hs
  refine e1 B P σ H ρ S _ hP rr ((sat_bind.mp hs).imp fun x hx v H1 g1 r1 hv => ?_)
  refine e2 B P σ H1 ρ x.2 _ hP r1 ((sat_bind.mp hx).imp fun y hy u H2 g2' r2 hu => ?_)
  obtain ⟨d, hd, hq⟩ := sat_of (sat_bind.mp hy)
  exact hg H2 (z.L B P) z.pls v u x.1 y.1 d Q (fun p hp => r2.fresh hp) (hv.grow g2') hu hd fun w H' e' hw => hq w H' ((g1.trans g2').trans (Grow.of e')) (r2.grow e') hw
theorem pd_op {op : Operator} {r : R2} {g2 : D → D → Option D} (ho : OpR X (binaryOp op) r) (hg : Op2 z.K z.ca r g2) (ha : PB X z O EX a f) (hb : PB X z O EX b g) : PD X z O EX (.BinOp a op b pos) (bin2 g2 f g) := by
  obtain ⟨ta, p1, e1⟩ := ha.ex
  obtain ⟨tb, p2, e2⟩ := hb.ex
  exact ⟨_, pe_op ho p1 p2, ev_bin e1 e2 hg⟩
theorem pd_add (hK : X.K = z.K) (ha : PB X z O EX a f) (hb : PB X z O EX b g) : PD X z O EX (.BinOp a .Add b pos) (bin2 addD f g) := pd_op (hK ▸ op_addD) op2_add ha hb
theorem pd_sub (ha : PB X z O EX a f) (hb : PB X z O EX b g) : PD X z O EX (.BinOp a .Sub b pos) (bin2 subD f g) := pd_op op_sub op2_sub ha hb
theorem pd_mul (hK : X.K = z.K) (ha : PB X z O EX a f) (hb : PB X z O EX b g) : PD X z O EX (.BinOp a .Mult b pos) (bin2 mulD f g) := pd_op (hK ▸ op_mulD) op2_mul ha hb
theorem pd_fdiv (ha : PB X z O EX a f) (hb : PB X z O EX b g) : PD X z O EX (.BinOp a .FloorDiv b pos) (bin2 fdivD f g) := pd_op op_fdiv op2_fdiv ha hb
theorem pd_mod (ha : PB X z O EX a f) (hb : PB X z O EX b g) : PD X z O EX (.BinOp a .Mod b pos) (bin2 modD f g) := pd_op op_mod op2_mod ha hb
theorem pd_pow (ha : PB X z O EX a f) (hb : PB X z O EX b g) : PD X z O EX (.BinOp a .Pow b pos) (bin2 powD f g) := pd_op op_pow op2_pow ha hb
/-- -a -/
def negD : D → Option D | .int i => some (.int (-i)) | _ => none
def un1 (g1 : D → Option D) (f : FE) : FE := fun ρ S => f ρ S >>= fun x => R.of (g1 x.1) >>= fun d => R.ok (d, x.2)
theorem pd_neg (ha : PB X z O EX a f) : PD X z O EX (.UnaryOp .USub a pos) (un1 negD f) := by
  obtain ⟨ta, p1, e1⟩ := ha.ex
  refine ⟨_, pe_un un_neg p1, fun B P σ H ρ S Q hP rr hs => ?_⟩
  refine e1 B P σ H ρ S _ hP rr ((sat_bind.mp hs).imp fun x hx v H1 g1 r1 hv => ?_)
  obtain ⟨d, hd, hq⟩ := sat_of (sat_bind.mp hx)
  obtain ⟨x1, x2⟩ := x
  cases x1 <;> simp only [negD, reduceCtorEq, Option.some.injEq] at hd
  subst hd
  exact ⟨_, hv.int, hq _ H1 g1 r1 (.int _)⟩
/-- one comparison as a value -/
theorem pd_cmp {op : CmpOp} {r : R2} {g2 : D → D → Option D} (ho : OpR X (compareOp op) r) (hg : Op2 z.K z.ca r g2) (ha : PB X z O EX a f) (hb : PB X z O EX b g) (hm : behindInMarks op b = false) : PD X z O EX (.Compare a [op] [b] pos) (bin2 g2 f g) := by
  obtain ⟨ta, p1, e1⟩ := ha.ex
  obtain ⟨tb, p2, e2⟩ := hb.ex
  exact ⟨_, pe_cmpR ho p1 p2 hm, ev_bin e1 e2 hg⟩
theorem pd_lt (ha : PB X z O EX a f) (hb : PB X z O EX b g) : PD X z O EX (.Compare a [.Lt] [b] pos) (bin2 ltD f g) := pd_cmp op_lt op2_lt ha hb (nomark _)
theorem pd_eq (hK : X.K = z.K) (hu : X.A.units + 64 < cLine) (ha : PB X z O EX a f) (hb : PB X z O EX b g) : PD X z O EX (.Compare a [.Eq] [b] pos) (bin2 eqD f g) := pd_cmp (hK ▸ op_eqD hu) op2_eq ha hb (nomark _)
/-- a op b op' c -/
def chn (g2 g3 : D → D → Option D) (f g h : FE) : FE := fun ρ S => f ρ S >>= fun x => g ρ x.2 >>= fun y => R.of (g2 x.1 y.1) >>= fun d => match d with
  | .bl true => h ρ y.2 >>= fun w => R.of (g3 y.1 w.1) >>= fun d' => R.ok (d', w.2)
  | .bl false => R.ok (.bl false, y.2)
  | _ => R.bad
theorem pd_chain {op op' : CmpOp} {r r' : R2} {g2 g3 : D → D → Option D} (ho : OpR X (compareOp op) r) (ho' : OpR X (compareOp op') r') (hg : Op2 z.K z.ca r g2) (hg' : Op2 z.K z.ca r' g3)
    (ha : PB X z O EX a f) (hb : PB X z O EX b g) (hc : PB X z O EX c h) (hm : lastMarks [op, op'] [b, c] = false := by with_unfolding_all rfl) : PD X z O EX (.Compare a [op, op'] [b, c] pos) (chn g2 g3 f g h) := by
  obtain ⟨ta, p1, e1⟩ := ha.ex
  obtain ⟨tb, p2, e2⟩ := hb.ex
  obtain ⟨tc, p3, e3⟩ := hc.ex
  refine ⟨_, pe_chain ho ho' p1 p2 p3 hm, fun B P σ H ρ S Q hP rr hs => ?_⟩
  refine e1 B P σ H ρ S _ hP rr ((sat_bind.mp hs).imp fun x hx v H1 g1 r1 hv => ?_)
  refine e2 B P σ H1 ρ x.2 _ hP r1 ((sat_bind.mp hx).imp fun y hy u H2 g2' r2 hu => ?_)
  obtain ⟨d, hd, hq⟩ := sat_of (sat_bind.mp hy)
  refine hg H2 (z.L B P) z.pls v u x.1 y.1 d _ (fun p hp => r2.fresh hp) (hv.grow g2') hu hd fun w H3 e3' hw => ?_
  cases d with
  | bl k =>
    cases hw
    refine ⟨k, rfl, ?_⟩
    cases k with
    | true =>
      rw [if_pos rfl]
      have hq : Sat (h ρ y.2 >>= fun w => R.of (g3 y.1 w.1) >>= fun d' => R.ok (d', w.2)) (fun r => ∀ v H', Grow z H H' → Rel z B P σ H' ρ r.2 → Rp z.K z.ca (Frz H' (z.L B P)) v r.1 → Q v H') EX := hq
      refine e3 B P σ H3 ρ y.2 _ hP (r2.grow e3') ((sat_bind.mp hq).imp fun w hw w' H4 g4 r4 hw' => ?_)
      obtain ⟨d', hd', hq'⟩ := sat_of (sat_bind.mp hw)
      exact hg' H4 (z.L B P) z.pls u w' y.1 w.1 d' Q (fun p hp => r4.fresh hp) ((hu.grow (Grow.of e3')).grow g4) hw' hd' fun w5 H5 e5 hw5 =>
        hq' w5 H5 (((g1.trans g2').trans (Grow.of e3')).trans (g4.trans (Grow.of e5))) (r4.grow e5) hw5
    | false =>
      rw [if_neg Bool.false_ne_true]
      exact hq _ H3 ((g1.trans g2').trans (Grow.of e3')) (r2.grow e3') (.bl false)
  | _ => exact hq.elim
/-! ### tests -/
def EvT (z : Z) (O : List Nat) (EX : EXT) (t : TT) (f : FT) : Prop :=
  ∀ B P σ H ρ S Q, P.map (·.1) = O → Rel z B P σ H ρ S →
    Sat (f ρ S) (fun r => ∀ H', Grow z H H' → Rel z B P σ H' ρ r.2 → Q r.1 H') EX → t σ H Q
structure PTd (X : Cx) (z : Z) (O : List Nat) (EX : EXT) (e : Expr) (f : FT) : Prop where
  ex : ∃ t, PT X e t ∧ EvT z O EX t f
structure PWd (X : Cx) (z : Z) (O : List Nat) (EX : EXT) (e : Expr) (f : FT) : Prop where
  ex : ∃ t, PW X e t ∧ EvT z O EX t f
theorem PWd.pt {f : FT} (h : PWd X z O EX e f) : PTd X z O EX e f := by
  obtain ⟨t, p, q⟩ := h.ex
  exact ⟨t, p.pt, q⟩
/-- a value's truth -/
def truD : D → Option Bool
  | .non => some false
  | .bl b => some b
  | .int i => some (i != 0)
  | .str y => if y.length ≤ LINE then some ((y.length : Int) != 0) else none
  | .tup xs => some (!xs.isEmpty)
  | .lst xs => some (!xs.isEmpty)
  | .scr xs => some (!xs.isEmpty)
  | .dic ks _ => some (!ks.isEmpty)
  | .ins _ _ _ => none
  | .cls _ => none
  | .exn _ _ _ => none
theorem RpA.isEmpty {K : PySem.W.Frag} {ca : Str → Option Addr} {F : Hp} {xs : List V} {ds : List D} (r : RpA K ca F xs ds) : xs.isEmpty = ds.isEmpty := by cases r <;> rfl
theorem tru_rp {K : PySem.W.Frag} {ca : Str → Option Addr} {H : Hp} {v : V} {d : D} {k : Bool} (h : Rp K ca H v d) (e : truD d = some k) : TruV K v H k := by
  cases h with
  | non => cases e; rfl
  | bl b => cases e; rfl
  | int i => cases e; rfl
  | str x =>
    simp only [truD] at e
    split at e
    · rename_i w
      cases e
      exact ⟨line_le w, rfl⟩
    · cases e
  | tup h r => cases e; exact .inr (.inl ⟨_, h, by rw [r.isEmpty]⟩)
  | lst h r => cases e; exact .inl ⟨_, SqL.of h, by rw [r.isEmpty]⟩
  | scr h => cases e; exact .inl ⟨_, h, by simp⟩
  | dic h r => cases e; exact .inr (.inr ⟨_, h, by simp⟩)
  | ins h c r => cases e
  | cls h => cases e
  | exn0 _ _ => cases e
  | exnD _ _ _ _ => cases e
def tst (f : FE) : FT := fun ρ S => f ρ S >>= fun x => R.of (truD x.1) >>= fun k => R.ok (k, x.2)
/-- the truth of a value of any kind -/
theorem pt_tru (hK : X.K = z.K) (ha : PB X z O EX a f) (he : ∀ whole, isTrue a X.env whole = (do let v ← whole; standAt a.pos; holding [v] (truthy v)) := by intro _; rfl) : PTd X z O EX a (tst f) := by
  obtain ⟨ta, p1, e1⟩ := ha.ex
  refine ⟨_, pt_truth p1 he, fun B P σ H ρ S Q hP rr hs => ?_⟩
  refine e1 B P σ H ρ S _ hP rr ((sat_bind.mp hs).imp fun x hx v H1 g1 r1 hv => ?_)
  obtain ⟨d, hd, hq⟩ := sat_of (sat_bind.mp hx)
  exact ⟨d, hK ▸ tru_rp hv.rp hd, hq H1 g1 r1⟩
def tstB (f : FE) : FT := fun ρ S => f ρ S >>= fun x => match x.1 with
  | .bl k => R.ok (k, x.2)
  | _ => R.bad
theorem evT_test {t : TE} (e1 : EvE z O EX t f) : EvT z O EX (tTest t) (tstB f) := fun B P σ H ρ S Q hP rr hs => by
  refine e1 B P σ H ρ S _ hP rr ((sat_bind.mp hs).imp fun x hx v H1 g1 r1 hv => ?_)
  obtain ⟨x1, x2⟩ := x
  cases x1 with
  | bl k => cases hv; exact ⟨k, rfl, hx H1 g1 r1⟩
  | _ => exact hx.elim
/-- one comparison as a test -/
theorem pt_cmp1 {op : CmpOp} {r : R2} {g2 : D → D → Option D} (ho : OpR X (compareOp op) r) (hg : Op2 z.K z.ca r g2) (ha : PB X z O EX a f) (hb : PB X z O EX b g) (hm : behindInMarks op b = false) : PTd X z O EX (.Compare a [op] [b] pos) (tstB (bin2 g2 f g)) := by
  obtain ⟨ta, p1, e1⟩ := ha.ex
  obtain ⟨tb, p2, e2⟩ := hb.ex
  exact ⟨_, pt_cmpR ho p1 p2 hm, evT_test (ev_bin e1 e2 hg)⟩
theorem pt_lt (ha : PB X z O EX a f) (hb : PB X z O EX b g) : PTd X z O EX (.Compare a [.Lt] [b] pos) (tstB (bin2 ltD f g)) := pt_cmp1 op_lt op2_lt ha hb (nomark _)
theorem pt_gt (ha : PB X z O EX a f) (hb : PB X z O EX b g) : PTd X z O EX (.Compare a [.Gt] [b] pos) (tstB (bin2 gtD f g)) := pt_cmp1 op_gt op2_gt ha hb (nomark _)
theorem pt_ge (ha : PB X z O EX a f) (hb : PB X z O EX b g) : PTd X z O EX (.Compare a [.GtE] [b] pos) (tstB (bin2 geD f g)) := pt_cmp1 op_ge op2_ge ha hb (nomark _)
theorem pt_eq (hK : X.K = z.K) (hu : X.A.units + 64 < cLine) (ha : PB X z O EX a f) (hb : PB X z O EX b g) : PTd X z O EX (.Compare a [.Eq] [b] pos) (tstB (bin2 eqD f g)) := pt_cmp1 (hK ▸ op_eqD hu) op2_eq ha hb (nomark _)
theorem pt_ne (hK : X.K = z.K) (hu : X.A.units + 64 < cLine) (ha : PB X z O EX a f) (hb : PB X z O EX b g) : PTd X z O EX (.Compare a [.NotEq] [b] pos) (tstB (bin2 neD f g)) := pt_cmp1 (hK ▸ op_neD hu) op2_ne ha hb (nomark _)
theorem pt_is (ha : PB X z O EX a f) (hb : PB X z O EX b g) : PTd X z O EX (.Compare a [.Is] [b] pos) (tstB (bin2 isD f g)) := pt_cmp1 op_isN op2_is ha hb (nomark _)
theorem pt_isNot (ha : PB X z O EX a f) (hb : PB X z O EX b g) : PTd X z O EX (.Compare a [.IsNot] [b] pos) (tstB (bin2 isNotD f g)) := pt_cmp1 op_notN op2_isNot ha hb (nomark _)
theorem pt_chain1 {op op' : CmpOp} {r r' : R2} {g2 g3 : D → D → Option D} (ho : OpR X (compareOp op) r) (ho' : OpR X (compareOp op') r') (hg : Op2 z.K z.ca r g2) (hg' : Op2 z.K z.ca r' g3)
    (ha : PB X z O EX a f) (hb : PB X z O EX b g) (hc : PB X z O EX c h) (hm : lastMarks [op, op'] [b, c] = false := by with_unfolding_all rfl) : PTd X z O EX (.Compare a [op, op'] [b, c] pos) (tstB (chn g2 g3 f g h)) := by
  obtain ⟨ta, p1, e1⟩ := ha.ex
  obtain ⟨tb, p2, e2⟩ := hb.ex
  obtain ⟨tc, p3, e3⟩ := hc.ex
  refine ⟨_, pt_chain ho ho' p1 p2 p3 hm, evT_test (f := chn g2 g3 f g h) fun B P σ H ρ S Q hP rr hs => ?_⟩
  refine e1 B P σ H ρ S _ hP rr ((sat_bind.mp hs).imp fun x hx v H1 g1 r1 hv => ?_)
  refine e2 B P σ H1 ρ x.2 _ hP r1 ((sat_bind.mp hx).imp fun y hy u H2 g2' r2 hu => ?_)
  obtain ⟨d, hd, hq⟩ := sat_of (sat_bind.mp hy)
  refine hg H2 (z.L B P) z.pls v u x.1 y.1 d _ (fun p hp => r2.fresh hp) (hv.grow g2') hu hd fun w H3 e3' hw => ?_
  cases d with
  | bl k =>
    cases hw
    refine ⟨k, rfl, ?_⟩
    cases k with
    | true =>
      rw [if_pos rfl]
      have hq : Sat (h ρ y.2 >>= fun w => R.of (g3 y.1 w.1) >>= fun d' => R.ok (d', w.2)) (fun r => ∀ v H', Grow z H H' → Rel z B P σ H' ρ r.2 → Rp z.K z.ca (Frz H' (z.L B P)) v r.1 → Q v H') EX := hq
      refine e3 B P σ H3 ρ y.2 _ hP (r2.grow e3') ((sat_bind.mp hq).imp fun w hw w' H4 g4 r4 hw' => ?_)
      obtain ⟨d', hd', hq'⟩ := sat_of (sat_bind.mp hw)
      exact hg' H4 (z.L B P) z.pls u w' y.1 w.1 d' Q (fun p hp => r4.fresh hp) ((hu.grow (Grow.of e3')).grow g4) hw' hd' fun w5 H5 e5 hw5 =>
        hq' w5 H5 (((g1.trans g2').trans (Grow.of e3')).trans (g4.trans (Grow.of e5))) (r4.grow e5) hw5
    | false =>
      rw [if_neg Bool.false_ne_true]
      exact hq _ H3 ((g1.trans g2').trans (Grow.of e3')) (r2.grow e3') (.bl false)
  | _ => exact hq.elim
/-- and, or, not as tests -/
def andT (f g : FT) : FT := fun ρ S => f ρ S >>= fun x => if x.1 then g ρ x.2 else R.ok (false, x.2)
def orT (f g : FT) : FT := fun ρ S => f ρ S >>= fun x => if x.1 then R.ok (true, x.2) else g ρ x.2
def notT (f : FT) : FT := fun ρ S => f ρ S >>= fun x => R.ok (!x.1, x.2)
variable {ft gt : FT} {rest : List Expr}
theorem ptw_and1 (ha : PTd X z O EX a ft) : PWd X z O EX (.BoolOp .And [a] pos) ft := by
  obtain ⟨t, p, q⟩ := ha.ex
  exact ⟨t, pw_and1 p, q⟩
theorem ptw_or1 (ha : PTd X z O EX a ft) : PWd X z O EX (.BoolOp .Or [a] pos) ft := by
  obtain ⟨t, p, q⟩ := ha.ex
  exact ⟨t, pw_or1 p, q⟩
theorem ptw_and (ha : PTd X z O EX a ft) (hb : PWd X z O EX (.BoolOp .And (b :: rest) pos) gt) : PWd X z O EX (.BoolOp .And (a :: b :: rest) pos) (andT ft gt) := by
  obtain ⟨t, p, q⟩ := ha.ex
  obtain ⟨u, p2, q2⟩ := hb.ex
  refine ⟨_, pw_and p p2, fun B P σ H ρ S Q hP rr hs => ?_⟩
  refine q B P σ H ρ S _ hP rr ((sat_bind.mp hs).imp fun x hx H1 g1 r1 => ?_)
  obtain ⟨k, S1⟩ := x
  cases k with
  | true =>
    rw [if_pos rfl]
    have hx : Sat (gt ρ S1) _ EX := hx
    exact q2 B P σ H1 ρ S1 Q hP r1 (hx.imp fun y hy H' g' r' => hy H' (g1.trans g') r')
  | false =>
    rw [if_neg Bool.false_ne_true]
    exact hx H1 g1 r1
theorem ptw_or (ha : PTd X z O EX a ft) (hb : PWd X z O EX (.BoolOp .Or (b :: rest) pos) gt) : PWd X z O EX (.BoolOp .Or (a :: b :: rest) pos) (orT ft gt) := by
  obtain ⟨t, p, q⟩ := ha.ex
  obtain ⟨u, p2, q2⟩ := hb.ex
  refine ⟨_, pw_or p p2, fun B P σ H ρ S Q hP rr hs => ?_⟩
  refine q B P σ H ρ S _ hP rr ((sat_bind.mp hs).imp fun x hx H1 g1 r1 => ?_)
  obtain ⟨k, S1⟩ := x
  cases k with
  | false =>
    rw [if_neg Bool.false_ne_true]
    have hx : Sat (gt ρ S1) _ EX := hx
    exact q2 B P σ H1 ρ S1 Q hP r1 (hx.imp fun y hy H' g' r' => hy H' (g1.trans g') r')
  | true =>
    rw [if_pos rfl]
    exact hx H1 g1 r1
theorem ptd_not (ha : PTd X z O EX a ft) : PTd X z O EX (.UnaryOp .Not a pos) (notT ft) := by
  obtain ⟨t, p, q⟩ := ha.ex
  refine ⟨_, pt_not p, fun B P σ H ρ S Q hP rr hs => ?_⟩
  exact q B P σ H ρ S _ hP rr ((sat_bind.mp hs).imp fun x hx H1 g1 r1 => hx H1 g1 r1)
/-- and, or, not as values -/
def andV (f g : FE) : FE := fun ρ S => f ρ S >>= fun x => R.of (truD x.1) >>= fun k => if k then g ρ x.2 else R.ok x
def orV (f g : FE) : FE := fun ρ S => f ρ S >>= fun x => R.of (truD x.1) >>= fun k => if k then R.ok x else g ρ x.2
def notV (f : FE) : FE := fun ρ S => f ρ S >>= fun x => R.of (truD x.1) >>= fun k => R.ok (.bl (!k), x.2)
theorem pd_one {op} (ha : PD X z O EX a f) : PD X z O EX (.BoolOp op [a] pos) f := by
  obtain ⟨t, p, q⟩ := ha.ex
  exact ⟨t, pe_one p, q⟩
theorem pd_and (hK : X.K = z.K) (ha : PD X z O EX a f) (hb : PD X z O EX (.BoolOp .And (b :: rest) pos) g) : PD X z O EX (.BoolOp .And (a :: b :: rest) pos) (andV f g) := by
  obtain ⟨t, p, q⟩ := ha.ex
  obtain ⟨u, p2, q2⟩ := hb.ex
  refine ⟨_, pe_andT p p2, fun B P σ H ρ S Q hP rr hs => ?_⟩
  refine q B P σ H ρ S _ hP rr ((sat_bind.mp hs).imp fun x hx v H1 g1 r1 hv => ?_)
  obtain ⟨k, hd, hq⟩ := sat_of (sat_bind.mp hx)
  refine ⟨k, hK ▸ tru_rp (hv.mono (frz_ex _ _)) hd, ?_⟩
  cases k with
  | true =>
    rw [if_pos rfl]
    have hq : Sat (g ρ x.2) _ EX := hq
    exact q2 B P σ H1 ρ x.2 Q hP r1 (hq.imp fun y hy v' H' g' r' hv' => hy v' H' (g1.trans g') r' hv')
  | false =>
    rw [if_neg Bool.false_ne_true]
    exact hq v H1 g1 r1 hv
theorem pd_not (hK : X.K = z.K) (ha : PB X z O EX a f) : PD X z O EX (.UnaryOp .Not a pos) (notV f) := by
  obtain ⟨t, p, q⟩ := ha.ex
  refine ⟨_, pe_notT p, fun B P σ H ρ S Q hP rr hs => ?_⟩
  refine q B P σ H ρ S _ hP rr ((sat_bind.mp hs).imp fun x hx v H1 g1 r1 hv => ?_)
  obtain ⟨k, hd, hq⟩ := sat_of (sat_bind.mp hx)
  exact ⟨k, hK ▸ tru_rp hv.rp hd, hq _ H1 g1 r1 (.bl _)⟩
/-- a if t else b -/
def ifE (t : FT) (f g : FE) : FE := fun ρ S => t ρ S >>= fun x => if x.1 then f ρ x.2 else g ρ x.2
theorem pd_ifE (hc : PTd X z O EX c ft) (ha : PD X z O EX a f) (hb : PD X z O EX b g) : PD X z O EX (.IfExp c a b pos) (ifE ft f g) := by
  obtain ⟨t, p, q⟩ := hc.ex
  obtain ⟨ta, p1, q1⟩ := ha.ex
  obtain ⟨tb, p2, q2⟩ := hb.ex
  refine ⟨_, pe_ifExp p p1 p2, fun B P σ H ρ S Q hP rr hs => ?_⟩
  refine q B P σ H ρ S _ hP rr ((sat_bind.mp hs).imp fun x hx H1 g1 r1 => ?_)
  obtain ⟨k, S1⟩ := x
  cases k with
  | true =>
    rw [if_pos rfl]
    have hx : Sat (f ρ S1) _ EX := hx
    exact q1 B P σ H1 ρ S1 Q hP r1 (hx.imp fun y hy v' H' g' r' hv' => hy v' H' (g1.trans g') r' hv')
  | false =>
    rw [if_neg Bool.false_ne_true]
    have hx : Sat (g ρ S1) _ EX := hx
    exact q2 B P σ H1 ρ S1 Q hP r1 (hx.imp fun y hy v' H' g' r' hv' => hy v' H' (g1.trans g') r' hv')
/-! ### lists of arguments, displays -/
def EvA (z : Z) (O : List Nat) (EX : EXT) (t : TA) (f : FA) : Prop :=
  ∀ B P σ H ρ S Q, P.map (·.1) = O → Rel z B P σ H ρ S →
    Sat (f ρ S) (fun r => ∀ vs H', Grow z H H' → Rel z B P σ H' ρ r.2 → RpA z.K z.ca (Frz H' (z.L B P)) vs r.1 → Q vs H') EX → t σ H Q
structure PAd (X : Cx) (z : Z) (O : List Nat) (EX : EXT) (es : List Expr) (f : FA) : Prop where
  ex : ∃ t, PA X es t ∧ EvA z O EX t f
def consA (f : FE) (g : FA) : FA := fun ρ S => f ρ S >>= fun x => g ρ x.2 >>= fun y => R.ok (x.1 :: y.1, y.2)
def nilA : FA := fun _ S => R.ok ([], S)
variable {fa ga : FA}
theorem pad_nil : PAd X z O EX [] nilA := ⟨_, pa_nil, fun B P σ H ρ S Q hP rr hs => hs [] H Grow.refl rr .nil⟩
theorem pad_cons (ha : PD X z O EX e f) (hr : PAd X z O EX es fa) (hs : starEach (e :: es) X.env = (false, eval e X.env) :: starEach es X.env := by rfl) : PAd X z O EX (e :: es) (consA f fa) := by
  obtain ⟨t, p, q⟩ := ha.ex
  obtain ⟨u, p2, q2⟩ := hr.ex
  refine ⟨_, pa_cons p p2 hs, fun B P σ H ρ S Q hP rr hs => ?_⟩
  refine q B P σ H ρ S _ hP rr ((sat_bind.mp hs).imp fun x hx v H1 g1 r1 hv => ?_)
  refine q2 B P σ H1 ρ x.2 _ hP r1 ((sat_bind.mp hx).imp fun y hy vs H2 g2 r2 hvs => ?_)
  exact hy (v :: vs) H2 (g1.trans g2) r2 (.cons (hv.mono g2.frz) hvs)
def tupE (fa : FA) : FE := fun ρ S => fa ρ S >>= fun x => if x.1.length ≤ LINE then R.ok (.tup x.1, x.2) else R.bad
def lstE (fa : FA) : FE := fun ρ S => fa ρ S >>= fun x => if x.1.length ≤ LINE then R.ok (.lst x.1, x.2) else R.bad
theorem pd_tup {x1} (ha : PAd X z O EX es fa) : PD X z O EX (.Tuple es x1 pos) (tupE fa) := by
  obtain ⟨t, p, q⟩ := ha.ex
  refine ⟨_, pe_tup p, fun B P σ H ρ S Q hP rr hs => ?_⟩
  refine q B P σ H ρ S _ hP rr ((sat_bind.mp hs).imp fun x hx vs H1 g1 r1 hv => ?_)
  split at hx
  · rename_i w
    exact ⟨line_le (by rw [hv.length]; exact w), fun p hp => hx _ _ (g1.trans (Grow.of (Ex.new hp))) (r1.grow (Ex.new hp)) (new_tup hp (r1.fresh hp) hv)⟩
  · exact hx.elim
/-! ### subscripts -/
theorem pd_idx (hK : X.K = z.K) (ha : PB X z O EX a f) (hb : PD X z O EX b g) (hx : PlainIx b := by exact fun _ _ => rfl) : PD X z O EX (.Subscript a b pos) (bin2 idxD f g) := by
  obtain ⟨ta, p1, e1⟩ := ha.ex
  obtain ⟨tb, p2, e2⟩ := hb.pb.ex
  exact ⟨_, pe_ix (hK ▸ ix_seq) p1 p2 hx, ev_bin e1 e2 op2_idx⟩
abbrev FO := Env → List D → R (Option Int × List D)
def EvO (z : Z) (O : List Nat) (EX : EXT) (t : TO) (f : FO) : Prop :=
  ∀ B P σ H ρ S Q, P.map (·.1) = O → Rel z B P σ H ρ S →
    Sat (f ρ S) (fun r => ∀ H', Grow z H H' → Rel z B P σ H' ρ r.2 → Q r.1 H') EX → t σ H Q
structure POd (X : Cx) (z : Z) (O : List Nat) (EX : EXT) (e : Option Expr) (f : FO) : Prop where
  ex : ∃ t, PO X e t ∧ EvO z O EX t f
def noneO : FO := fun _ S => R.ok (none, S)
def someO (f : FE) : FO := fun ρ S => f ρ S >>= fun x => match x.1 with
  | .int i => R.ok (some i, x.2)
  | _ => R.bad
theorem pod_none : POd X z O EX none noneO := ⟨_, po_none, fun B P σ H ρ S Q hP rr hs => hs H Grow.refl rr⟩
theorem pod_some (ha : PD X z O EX e f) : POd X z O EX (some e) (someO f) := by
  obtain ⟨t, p, q⟩ := ha.ex
  refine ⟨_, po_some p, fun B P σ H ρ S Q hP rr hs => ?_⟩
  refine q B P σ H ρ S _ hP rr ((sat_bind.mp hs).imp fun x hx v H1 g1 r1 hv => ?_)
  obtain ⟨x1, x2⟩ := x
  cases x1 with
  | int i => cases hv; exact ⟨i, rfl, hx H1 g1 r1⟩
  | _ => exact hx.elim
def slcE (f : FE) (l h : FO) : FE := fun ρ S => f ρ S >>= fun x => l ρ x.2 >>= fun lo => h ρ lo.2 >>= fun hi => R.of (slcD x.1 lo.1 hi.1) >>= fun d => R.ok (d, hi.2)
theorem pd_slc (hK : X.K = z.K) {lo hi : Option Expr} {l u : FO} {p2 : Pos} (ha : PB X z O EX e f) (hl : POd X z O EX lo l) (hu : POd X z O EX hi u) : PD X z O EX (.Subscript e (.Slice lo hi none p2) pos) (slcE f l u) := by
  obtain ⟨t, p, q⟩ := ha.ex
  obtain ⟨tl, pl, ql⟩ := hl.ex
  obtain ⟨tu, pu, qu⟩ := hu.ex
  refine ⟨_, pe_slice sl_D p pl pu, fun B P σ H ρ S Q hP rr hs => ?_⟩
  refine q B P σ H ρ S _ hP rr ((sat_bind.mp hs).imp fun x hx v H1 g1 r1 hv => ?_)
  refine ql B P σ H1 ρ x.2 _ hP r1 ((sat_bind.mp hx).imp fun y hy H2 g2 r2 => ?_)
  refine qu B P σ H2 ρ y.2 _ hP r2 ((sat_bind.mp hy).imp fun w hw H3 g3 r3 => ?_)
  obtain ⟨d, hd, hq⟩ := sat_of (sat_bind.mp hw)
  show rSlD X.K v y.1 w.1 H3 Q
  rw [hK]
  exact slc_ok (L := z.L B P) (N := z.pls) (fun p hp => r3.fresh hp) ((hv.grow g2).grow g3) hd fun v' H' e' hv' => hq v' H' ((g1.trans g2).trans (g3.trans (Grow.of e'))) (r3.grow e') hv'
/-! ### built-in functions and types -/
/-- arguments that may be owned lists -/
inductive RbA (K : PySem.W.Frag) (ca : Str → Option Addr) (H : Hp) (L N : List Addr) : List V → List D → Prop
  | nil : RbA K ca H L N [] []
  | cons {v : V} {vs : List V} {d : D} {ds : List D} : Rb K ca H L N v d → RbA K ca H L N vs ds → RbA K ca H L N (v :: vs) (d :: ds)
def EvBA (z : Z) (O : List Nat) (EX : EXT) (t : TA) (f : FA) : Prop :=
  ∀ B P σ H ρ S Q, P.map (·.1) = O → Rel z B P σ H ρ S →
    Sat (f ρ S) (fun r => ∀ vs H', Grow z H H' → Rel z B P σ H' ρ r.2 → RbA z.K z.ca H' (z.L B P) z.pls vs r.1 → Q vs H') EX → t σ H Q
structure PBA (X : Cx) (z : Z) (O : List Nat) (EX : EXT) (es : List Expr) (f : FA) : Prop where
  ex : ∃ t, PA X es t ∧ EvBA z O EX t f
theorem RbA.grow {B : List Addr} {P : List (Nat × Addr)} {H H' : Hp} (g : Grow z H H') : ∀ {vs : List V} {ds : List D}, RbA z.K z.ca H (z.L B P) z.pls vs ds → RbA z.K z.ca H' (z.L B P) z.pls vs ds
  | _, _, .nil => .nil
  | _, _, .cons h r => .cons (h.grow g) (RbA.grow g r)
theorem pba_nil : PBA X z O EX [] nilA := ⟨_, pa_nil, fun B P σ H ρ S Q hP rr hs => hs [] H Grow.refl rr .nil⟩
theorem pba_cons (ha : PB X z O EX e f) (hr : PBA X z O EX es fa) (hs : starEach (e :: es) X.env = (false, eval e X.env) :: starEach es X.env := by rfl) : PBA X z O EX (e :: es) (consA f fa) := by
  obtain ⟨t, p, q⟩ := ha.ex
  obtain ⟨u, p2, q2⟩ := hr.ex
  refine ⟨_, pa_cons p p2 hs, fun B P σ H ρ S Q hP rr hs => ?_⟩
  refine q B P σ H ρ S _ hP rr ((sat_bind.mp hs).imp fun x hx v H1 g1 r1 hv => ?_)
  refine q2 B P σ H1 ρ x.2 _ hP r1 ((sat_bind.mp hx).imp fun y hy vs H2 g2 r2 hvs => ?_)
  exact hy (v :: vs) H2 (g1.trans g2) r2 (.cons (hv.grow g2) hvs)
/-- a call's rule r answers as g does -/
def CallD (K : PySem.W.Frag) (ca : Str → Option Addr) (r : List V → Hp → VK → Prop) (g : List D → Option D) : Prop :=
  ∀ (H : Hp) (L N : List Addr) (vs : List V) (ds : List D) (d : D) (Q : VK), (∀ p, H p = none → p ∉ L) → RbA K ca H L N vs ds → g ds = some d →
    (∀ v H', Ex H H' → Rp K ca (Frz H' L) v d → Q v H') → r vs H Q
def callE (g : List D → Option D) (fa : FA) : FE := fun ρ S => fa ρ S >>= fun x => R.of (g x.1) >>= fun d => R.ok (d, x.2)
theorem ev_call {t : TA} {r : List V → Hp → VK → Prop} {g : List D → Option D} (q : EvBA z O EX t fa) (hg : CallD z.K z.ca r g) : EvE z O EX (tCB r t) (callE g fa) := by
  intro B P σ H ρ S Q hP rr hs
  refine q B P σ H ρ S _ hP rr ((sat_bind.mp hs).imp fun x hx vs H1 g1 r1 hv => ?_)
  obtain ⟨d, hd, hq⟩ := sat_of (sat_bind.mp hx)
  exact hg H1 (z.L B P) z.pls vs x.1 d Q (fun p hp => r1.fresh hp) hv hd fun v H' e' hv' => hq v H' (g1.trans (Grow.of e')) (r1.grow e') hv'
theorem pd_callB {id : String} {x : Str} {p : Pos} {r : List V → Hp → VK → Prop} {g : List D → Option D} (hc : CallR X (.builtin id) r) (hg' : CallD z.K z.ca r g) (hm : X.mg x = none) (ha : PBA X z O EX (e :: es) fa)
    (hg : Gl X x := by rfl) (hv : bootBuiltins x = some (.builtin id) := by decide +kernel) (hn : x ≠ "__name__" := by decide) (hdb : (x == ("__debug__" : Str)) = false := by decide)
    (he : starEach (e :: es) X.env = (false, eval e X.env) :: starEach es X.env := by rfl) (hpl : (backTo pos (starEach es X.env)).any (·.1) = false := by rfl) : PD X z O EX (.Call (.Name x p) (e :: es) [] pos) (callE g fa) := by
  obtain ⟨t, p1, q⟩ := ha.ex
  exact ⟨_, pe_callB hc hg hm hv p1 hn hdb he hpl, ev_call q hg'⟩
theorem pd_callTy {T : String} {x : Str} {p : Pos} {r : List V → Hp → VK → Prop} {g : List D → Option D} (hc : CallR X (.type T) r) (hg' : CallD z.K z.ca r g) (hm : X.mg x = none) (ha : PBA X z O EX (e :: es) fa)
    (hg : Gl X x := by rfl) (hv : bootBuiltins x = some (.type T) := by decide +kernel) (hn : x ≠ "__name__" := by decide) (hdb : (x == ("__debug__" : Str)) = false := by decide)
    (he : starEach (e :: es) X.env = (false, eval e X.env) :: starEach es X.env := by rfl) (hpl : (backTo pos (starEach es X.env)).any (·.1) = false := by rfl) : PD X z O EX (.Call (.Name x p) (e :: es) [] pos) (callE g fa) := by
  obtain ⟨t, p1, q⟩ := ha.ex
  exact ⟨_, pe_callTy hc hg hm hv p1 hn hdb he hpl, ev_call q hg'⟩
/-- a method of a built-in type, by values -/
def MthD (K : PySem.W.Frag) (ca : Str → Option Addr) (T : String) (r : V → List V → Hp → VK → Prop) (g : D → List D → Option D) : Prop :=
  ∀ (H : Hp) (L N : List Addr) (x : V) (dx : D) (vs : List V) (ds : List D) (d : D) (Q : VK), (∀ p, H p = none → p ∉ L) → Rb K ca H L N x dx → RbA K ca H L N vs ds → g dx ds = some d →
    (∀ v H', Ex H H' → Rp K ca (Frz H' L) v d → Q v H') → r x vs H Q
/-- whose type is told by its data -/
def kindD : String → D → Bool
  | "str", .str _ => true
  | "list", .lst _ => true
  | "list", .scr _ => true
  | _, _ => false
theorem kind_ty {K : PySem.W.Frag} {ca : Str → Option Addr} {H : Hp} {T : String} {v : V} {d : D} (h : Rp K ca H v d) (k : kindD T d = true) : tyV K T v H := by
  unfold kindD at k
  split at k
  · cases h; rfl
  · cases h with
    | lst h r => exact .inl ⟨rfl, _, SqL.of h⟩
  · cases h with
    | scr h => exact .inl ⟨rfl, _, h⟩
  · cases k
def mthE (T : String) (g : D → List D → Option D) (f : FE) (fa : FA) : FE := fun ρ S => f ρ S >>= fun x => if kindD T x.1 then fa ρ x.2 >>= fun y => R.of (g x.1 y.1) >>= fun d => R.ok (d, y.2) else R.bad
theorem pd_mth (hK : X.K = z.K) {o : Expr} {name : Str} {apos cpos : Pos} {T id : String} {r : V → List V → Hp → VK → Prop} {g : D → List D → Option D} (pa : PlainAttrs T) (slot : Slot T name id) (hty : typeOf (.builtin id) = pure (.type "method_descriptor"))
    (hm : MtR X id r) (hg : MthD z.K z.ca T r g) (ho : PB X z O EX o f) (ha : PBA X z O EX (e :: es) fa) (hbase : attributeBase o name X.env (eval o X.env) = eval o X.env := by rfl)
    (hfew : ((backTo cpos (starEach (e :: es) X.env)).all (fun x => !x.1) && (backToKw cpos (keywordEach [] X.env)).all (fun x => x.1.isSome)
      && decide ((e :: es).length + ([] : List Keyword).length + (if ([] : List Keyword).isEmpty then 0 else 1) < 30)) = true := by rfl)
    (hline : (apos.endLine == cpos.line) = true := by rfl) (hs : starEach (e :: es) X.env = (false, eval e X.env) :: starEach es X.env := by rfl) (hplain : (backTo cpos (starEach es X.env)).any (·.1) = false := by rfl) :
    PD X z O EX (.Call (.Attribute o name apos) (e :: es) [] cpos) (mthE T g f fa) := by
  obtain ⟨t, p, q⟩ := ho.ex
  obtain ⟨u, p2, q2⟩ := ha.ex
  refine ⟨_, pe_bm pa slot hty hm p p2 hbase hfew hline hs hplain, fun B P σ H ρ S Q hP rr hs => ?_⟩
  refine q B P σ H ρ S _ hP rr ((sat_bind.mp hs).imp fun x hx v H1 g1 r1 hv => ?_)
  split at hx
  · rename_i k
    refine ⟨hK ▸ kind_ty hv.rp k, ?_⟩
    refine q2 B P σ H1 ρ x.2 _ hP r1 ((sat_bind.mp hx).imp fun y hy vs H2 g2 r2 hvs => ?_)
    obtain ⟨d, hd, hq⟩ := sat_of (sat_bind.mp hy)
    exact hg H2 (z.L B P) z.pls v x.1 vs y.1 d Q (fun p hp => r2.fresh hp) (hv.grow g2) hvs hd fun v' H' e' hv' => hq v' H' ((g1.trans g2).trans (Grow.of e')) (r2.grow e') hv'
  · exact hx.elim
end
end PL
set_option Elab.async false
set_option linter.all false
set_option maxRecDepth 100000
set_option maxHeartbeats 4000000
namespace PL
open PySem PySem.Spec PyProof.Rows L2
/-! ### statements -/
inductive Ctl where
  | nx | bk | ct | rt (d : D)
abbrev FS := Env → List D → R (Ctl × Env × List D)
/-- a def's end: what it hands back, the in-out list behind it -/
structure Fin (z : Z) (B : List Addr) (H' : Hp) (S : List D) (v : V) (d : D) : Prop where
  val : Rp z.K z.ca (Frz H' (z.pls ++ B)) v d
  ex : ∀ a o, z.H0 a = some o → a ∉ z.pls → H' a = some o
  pool : ∀ i a, z.pl = some (i, a) → ∃ xs, H' a = some (z.sh xs) ∧ RpA z.K z.ca (Frz H' (z.pls ++ B)) xs S
  tabs : LamX.Tabs z.tb H'
/-- OI: what is owned ahead, OO: behind, OL: at a loop's next turn -/
def PostS (z : Z) (B : List Addr) (F : Hp) (OO OL : List Nat) (D' : Ends) (r : Ctl × Env × List D) : Prop :=
  match r.1 with
  | .nx => ∀ P' σ' H', P'.map (·.1) = OO → Ex F (Frz H' (z.L B P')) → Rel z B P' σ' H' r.2.1 r.2.2 → D'.nx σ' H'
  | .bk => ∀ P' σ' H', P'.map (·.1) = OL → Ex F (Frz H' (z.L B P')) → Rel z B P' σ' H' r.2.1 r.2.2 → D'.bk σ' H'
  | .ct => ∀ P' σ' H', P'.map (·.1) = OL → Ex F (Frz H' (z.L B P')) → Rel z B P' σ' H' r.2.1 r.2.2 → D'.ct σ' H'
  | .rt d => ∀ v H', Fin z B H' r.2.2 v d → D'.rt v H'
def EvS (z : Z) (OI OO OL : List Nat) (EX : EXT) (t : TS) (f : FS) : Prop :=
  ∀ B P σ H ρ S D', P.map (·.1) = OI → Rel z B P σ H ρ S → Sat (f ρ S) (PostS z B (Frz H (z.L B P)) OO OL D') EX → t D' σ H
structure PSd (X : Cx) (z : Z) (OI OO OL : List Nat) (EX : EXT) (s : Stmt) (f : FS) : Prop where
  ex : ∃ t, PS X s t ∧ EvS z OI OO OL EX t f
structure PSS (X : Cx) (z : Z) (OI OO OL : List Nat) (EX : EXT) (s : List Stmt) (f : FS) : Prop where
  ex : ∃ t, PSs X s t ∧ EvS z OI OO OL EX t f
def nxS : FS := fun ρ S => R.ok (.nx, ρ, S)
def seqS (f g : FS) : FS := fun ρ S => f ρ S >>= fun r => match r.1 with
  | .nx => g r.2.1 r.2.2
  | _ => R.ok r
section
variable {X : Cx} {z : Z} {O OI OM OO OL : List Nat} {EX : EXT} {a b c e : Expr} {es : List Expr} {f g h : FE} {fs gs : FS} {pos : Pos} {st : Stmt} {sts : List Stmt}
theorem PostS.mono {B : List Addr} {F F' : Hp} {D' : Ends} {r : Ctl × Env × List D} (h : PostS z B F OO OL D' r) (e : Ex F F') : PostS z B F' OO OL D' r := by
  obtain ⟨c, ρ, S⟩ := r
  cases c with
  | nx => exact fun P' σ' H' h1 h2 h3 => h P' σ' H' h1 (e.trans h2) h3
  | bk => exact fun P' σ' H' h1 h2 h3 => h P' σ' H' h1 (e.trans h2) h3
  | ct => exact fun P' σ' H' h1 h2 h3 => h P' σ' H' h1 (e.trans h2) h3
  | rt d => exact h
theorem pss_nilD : PSS X z O O OL EX [] nxS := ⟨_, pss_nil, fun B P σ H ρ S D' hP rr hs => hs P σ H hP (Ex.refl _) rr⟩
theorem pss_consD (h1 : PSd X z OI OM OL EX st fs) (h2 : PSS X z OM OO OL EX sts gs) : PSS X z OI OO OL EX (st :: sts) (seqS fs gs) := by
  obtain ⟨t, p, q⟩ := h1.ex
  obtain ⟨u, p2, q2⟩ := h2.ex
  refine ⟨_, pss_cons p p2, fun B P σ H ρ S D' hP rr hs => ?_⟩
  refine q B P σ H ρ S _ hP rr ((sat_bind.mp hs).imp fun r hr => ?_)
  obtain ⟨c, ρ1, S1⟩ := r
  cases c with
  | nx =>
    intro P' σ' H' h1 h2 h3
    exact q2 B P' σ' H' ρ1 S1 D' h1 h3 (Sat.imp hr fun _ w => w.mono h2)
  | bk => exact fun P' σ' H' h1 h2 h3 => hr P' σ' H' h1 h2 h3
  | ct => exact fun P' σ' H' h1 h2 h3 => hr P' σ' H' h1 h2 h3
  | rt d => exact fun v H' hf => hr v H' hf
theorem pss_oneD (h1 : PSd X z OI OO OL EX st fs) : PSS X z OI OO OL EX [st] fs := by
  obtain ⟨t, p, q⟩ := h1.ex
  exact ⟨t, pss_one p, q⟩
/-- the in-out list's place is not this one, nor is it kept -/
def NotPl (z : Z) (i : Nat) : Prop := (∀ j a, z.pl = some (j, a) → j ≠ i) ∧ i ∉ z.kp
/-- an owned list is owned no longer -/
theorem Rel.drop {B : List Addr} {P : List (Nat × Addr)} {σ : L2.St} {H : Hp} {ρ : Env} {S : List D} (r : Rel z B P σ H ρ S) (k : Nat) : Rel z B (P.filter (·.1 != k)) σ H ρ S ∧ Ex (Frz H (z.L B P)) (Frz H (z.L B (P.filter (·.1 != k)))) := by
  have sub : ∀ a ∈ z.L B (P.filter (·.1 != k)), a ∈ z.L B P := fun a ha => by
    unfold Z.L at ha ⊢
    rcases List.mem_append.mp ha with h | h
    · obtain ⟨p, hp, rfl⟩ := List.mem_map.mp h
      exact List.mem_append_left _ (List.mem_map_of_mem (List.mem_filter.mp hp).1)
    · exact List.mem_append_right _ h
  have mono := frz_sub (H := H) sub
  refine ⟨⟨fun i d n e => ?_, fun p hp => ?_, fun i a e => ?_, ?_, r.there, r.ex, fun p hp => r.new p (List.mem_filter.mp hp).1, r.len, r.tabs, r.xt⟩, mono⟩
  · by_cases hk : ∃ p ∈ P, p.1 = i
    · obtain ⟨p, hp, rfl⟩ := hk
      obtain ⟨e1, xs, ds, e2, e3, q⟩ := r.own p hp
      rw [e] at e3
      cases e3
      have hn : p.1 = k := by
        by_cases z1 : p.1 = k
        · exact z1
        · exact absurd rfl (n p (List.mem_filter.mpr ⟨hp, by simp [z1]⟩))
      refine ⟨_, e1, .lst (frz_of e2 fun q => ?_) (q.mono mono)⟩
      have nd := r.nd
      unfold Z.L at nd q
      have nd' := List.nodup_append.mp nd
      rcases List.mem_append.mp q with q | q
      · obtain ⟨p', hp', e'⟩ := List.mem_map.mp q
        have hp'2 := List.mem_filter.mp hp'
        -- two entries of one address
        have inj : ∀ (l : List (Nat × Addr)), (l.map (·.2)).Nodup → ∀ x ∈ l, ∀ y ∈ l, x.2 = y.2 → x = y := by
          intro l
          induction l with
          | nil => intro _ x hx; cases hx
          | cons u l ih =>
            intro hl x hx y hy exy
            rw [List.map_cons, List.nodup_cons] at hl
            rcases List.mem_cons.mp hx with e1 | hx'
            · rcases List.mem_cons.mp hy with e2 | hy'
              · rw [e1, e2]
              · exact absurd (by rw [← e1, exy]; exact List.mem_map_of_mem hy') hl.1
            · rcases List.mem_cons.mp hy with e2 | hy'
              · exact absurd (by rw [← e2, ← exy]; exact List.mem_map_of_mem hx') hl.1
              · exact ih hl.2 x hx' y hy' exy
        have e3 := inj P nd'.1 p' hp'2.1 p hp e'
        rw [e3, hn] at hp'2
        simp at hp'2
      · exact nd'.2.2 p.2 (List.mem_map_of_mem hp) p.2 q rfl
    · obtain ⟨v, e1, q⟩ := r.val i d (fun p hp q => hk ⟨p, hp, q⟩) e
      exact ⟨v, e1, q.mono mono⟩
  · obtain ⟨e1, xs, ds, e2, e3, q⟩ := r.own p (List.mem_filter.mp hp).1
    exact ⟨e1, xs, ds, e2, e3, q.mono mono⟩
  · obtain ⟨e1, e0, xs, e2, q⟩ := r.pool i a e
    exact ⟨e1, e0, xs, e2, q.mono mono⟩
  · have nd := r.nd
    unfold Z.L at nd ⊢
    refine List.Nodup.sublist ?_ nd
    exact List.Sublist.append ((List.filter_sublist).map _) (List.Sublist.refl _)
theorem map_drop (P : List (Nat × Addr)) (k : Nat) : (P.filter (·.1 != k)).map (·.1) = (P.map (·.1)).filter (· != k) := by
  induction P with
  | nil => rfl
  | cons p P ih =>
    rw [List.map_cons, List.filter_cons, List.filter_cons]
    by_cases h : p.1 != k
    · rw [if_pos h, if_pos h, List.map_cons, ih]
    · rw [if_neg h, if_neg h, ih]
theorem EvS.frz {t : TS} (k : Nat) (q : EvS z OM OO OL EX t fs) (hO : OI.filter (· != k) = OM) : EvS z OI OO OL EX t fs := fun B P σ H ρ S D' hP rr hs => by
  obtain ⟨r1, m⟩ := rr.drop k
  exact q B _ σ H ρ S D' (by rw [map_drop, hP, hO]) r1 (hs.imp fun _ w => w.mono m)
/-! ### small statements -/
def bkS : FS := fun ρ S => R.ok (.bk, ρ, S)
def ctS : FS := fun ρ S => R.ok (.ct, ρ, S)
/-- what is never come to -/
def badS : FS := fun _ _ => R.bad
def retS (f : FE) : FS := fun ρ S => f ρ S >>= fun x => R.ok (.rt x.1, ρ, x.2)
theorem Rel.fin {B : List Addr} {P : List (Nat × Addr)} {σ : L2.St} {H : Hp} {ρ : Env} {S : List D} {v : V} {d : D} (r : Rel z B P σ H ρ S) (hv : Rp z.K z.ca (Frz H (z.L B P)) v d) : Fin z B H S v d := by
  have sub : Ex (Frz H (z.L B P)) (Frz H (z.pls ++ B)) := frz_sub fun a ha => by
    unfold Z.L
    exact List.mem_append_right _ ha
  refine ⟨hv.mono sub, r.ex, fun i a e => ?_, r.tabs⟩
  obtain ⟨_, _, xs, e2, q⟩ := r.pool i a e
  exact ⟨xs, e2, q.mono sub⟩
theorem psd_ret (ha : PD X z O EX e f) : PSd X z O OO OL EX (.Return (some e) pos) (retS f) := by
  obtain ⟨t, p, q⟩ := ha.ex
  refine ⟨_, ps_ret p, fun B P σ H ρ S D' hP rr hs => ?_⟩
  refine q B P σ H ρ S _ hP rr ((sat_bind.mp hs).imp fun x hx v H1 g1 r1 hv => ?_)
  exact hx v H1 (r1.fin hv)
def exprS (f : FE) : FS := fun ρ S => f ρ S >>= fun x => R.ok (.nx, ρ, x.2)
theorem psd_expr (ha : PD X z O EX e f) (hs : swapsWith e none pos.line X.env = pure false := by rfl) : PSd X z O O OL EX (.Expr e pos) (exprS f) := by
  obtain ⟨t, p, q⟩ := ha.ex
  refine ⟨_, ps_expr p hs, fun B P σ H ρ S D' hP rr hs => ?_⟩
  refine q B P σ H ρ S _ hP rr ((sat_bind.mp hs).imp fun x hx v H1 g1 r1 hv => ?_)
  exact hx P σ H1 hP g1.frz r1
def ifS (c : FT) (f g : FS) : FS := fun ρ S => c ρ S >>= fun x => if x.1 then f ρ x.2 else g ρ x.2
variable {ft : FT}
theorem psd_if {xs ys : List Stmt} (hc : PTd X z OI EX c ft) (ha : PSS X z OI OO OL EX xs fs) (hb : PSS X z OI OO OL EX ys gs) : PSd X z OI OO OL EX (.If c xs ys pos) (ifS ft fs gs) := by
  obtain ⟨t, p, q⟩ := hc.ex
  obtain ⟨ta, p1, q1⟩ := ha.ex
  obtain ⟨tb, p2, q2⟩ := hb.ex
  refine ⟨_, ps_if p p1 p2, fun B P σ H ρ S D' hP rr hs => ?_⟩
  refine q B P σ H ρ S _ hP rr ((sat_bind.mp hs).imp fun x hx H1 g1 r1 => ?_)
  obtain ⟨k, S1⟩ := x
  cases k with
  | true =>
    rw [if_pos rfl]
    have hx : Sat (fs ρ S1) _ EX := hx
    exact q1 B P σ H1 ρ S1 D' hP r1 (hx.imp fun _ w => w.mono g1.frz)
  | false =>
    rw [if_neg Bool.false_ne_true]
    have hx : Sat (gs ρ S1) _ EX := hx
    exact q2 B P σ H1 ρ S1 D' hP r1 (hx.imp fun _ w => w.mono g1.frz)
/-! ### targets -/
abbrev FG := D → Env → List D → R (Env × List D)
/-- ts: the places that are stored to -/
def EvG (z : Z) (O : List Nat) (EX : EXT) (ts : List Nat) (t : TG) (g : FG) : Prop :=
  ∀ B P σ H ρ S v d Q, P.map (·.1) = O → Rel z B P σ H ρ S → Rp z.K z.ca (Frz H (z.L B P)) v d →
    Sat (g d ρ S) (fun r => ∀ σ' H', Grow z H H' → Rel z B P σ' H' r.1 r.2 → σ'.length = σ.length → (∀ i, i ∉ ts → σ'[i]? = σ[i]?) → Q σ' H') EX → t v σ H Q
structure PGd (X : Cx) (z : Z) (O : List Nat) (EX : EXT) (ts : List Nat) (tg : Expr) (g : FG) : Prop where
  ex : ∃ t, PG X tg t ∧ EvG z O EX ts t g
/-- a place that is not owned is stored to -/
theorem Rel.set {B : List Addr} {P : List (Nat × Addr)} {σ : L2.St} {H : Hp} {ρ : Env} {S : List D} (r : Rel z B P σ H ρ S) {i : Nat} {v : V} {d : D} (hv : Rp z.K z.ca (Frz H (z.L B P)) v d) (hi : ∀ p ∈ P, p.1 ≠ i) (hz : NotPl z i) (hl : i < ρ.length) :
    Rel z B P (σ.set i (some v)) H (ρ.set i (some d)) S where
  val := fun j e n h => by
    by_cases hj : j = i
    · subst hj
      rw [List.getElem?_set_self hl] at h
      cases h
      exact ⟨v, by rw [List.getElem?_set_self (by rw [r.len]; exact hl)], hv⟩
    · rw [List.getElem?_set_ne (Ne.symm hj)] at h
      rw [List.getElem?_set_ne (Ne.symm hj)]
      exact r.val j e n h
  own := fun p hp => by
    obtain ⟨e1, xs, ds, e2, e3, q⟩ := r.own p hp
    have n := Ne.symm (hi p hp)
    exact ⟨by rw [List.getElem?_set_ne n]; exact e1, xs, ds, e2, by rw [List.getElem?_set_ne n]; exact e3, q⟩
  pool := fun j a h => by
    obtain ⟨e1, e0, xs, e2, q⟩ := r.pool j a h
    have n := Ne.symm (hz.1 j a h)
    exact ⟨by rw [List.getElem?_set_ne n]; exact e1, by rw [List.getElem?_set_ne n]; exact e0, xs, e2, q⟩
  nd := r.nd
  there := r.there
  ex := r.ex
  new := r.new
  len := by rw [List.length_set, List.length_set]; exact r.len
  tabs := r.tabs
  xt := ⟨r.xt.1, fun j hj => by rw [List.getElem?_set_ne fun e => hz.2 (by rw [e]; exact hj)]; exact r.xt.2 j hj⟩
def setE (ρ : Env) (i : Nat) (d : D) : R Env := if i < ρ.length then R.ok (ρ.set i (some d)) else R.bad
def nmG (i : Nat) : FG := fun d ρ S => setE ρ i d >>= fun ρ1 => R.ok (ρ1, S)
theorem sat_set {ρ : Env} {i : Nat} {d : D} {Q : Env → Prop} {EX : EXT} (h : Sat (setE ρ i d) Q EX) : i < ρ.length ∧ Q (ρ.set i (some d)) := by
  unfold setE at h
  split at h
  · rename_i w
    exact ⟨w, h⟩
  · exact h.elim
theorem own_ne {P : List (Nat × Addr)} {O : List Nat} {i : Nat} (hP : P.map (·.1) = O) (hi : O.all (· != i) = true) : ∀ p ∈ P, p.1 ≠ i := fun p hp q => by
  have hm : p.1 ∈ O := by rw [← hP]; exact List.mem_map_of_mem hp
  have := List.all_eq_true.mp hi p.1 hm
  rw [q] at this
  simp at this
theorem pgd_name (i : Nat) (hN : X.N.Nodup) (hz : NotPl z i) (hi : O.all (· != i) = true := by rfl) {x : Str} (hx : X.N[i]? = some x := by rfl) (hl : Loc X.env.scope x := by first | exact Or.inl rfl | exact Or.inr rfl)
    (hf : X.fn x = true ∨ X.env.scope.names.lookup x = some .local := by first | exact .inl rfl | exact .inr rfl) : PGd X z O EX [i] (.Name x pos) (nmG i) := by
  refine ⟨_, pg_name hN hx hl hf, fun B P σ H ρ S v d Q hP rr hv hs => ?_⟩
  obtain ⟨w, hq⟩ := sat_set (sat_bind.mp hs)
  exact hq _ H Grow.refl (rr.set hv (own_ne hP hi) hz w) (List.length_set) fun j hj => List.getElem?_set_ne fun e => hj (by simp [e])
abbrev FGs := List D → Env → List D → R (Env × List D)
def EvGs (z : Z) (O : List Nat) (EX : EXT) (ts : List Nat) (t : TGs) (g : FGs) : Prop :=
  ∀ B P σ H ρ S vs ds Q, P.map (·.1) = O → Rel z B P σ H ρ S → RpA z.K z.ca (Frz H (z.L B P)) vs ds →
    Sat (g ds ρ S) (fun r => ∀ σ' H', Grow z H H' → Rel z B P σ' H' r.1 r.2 → σ'.length = σ.length → (∀ i, i ∉ ts → σ'[i]? = σ[i]?) → Q σ' H') EX → t vs σ H Q
structure PGSd (X : Cx) (z : Z) (O : List Nat) (EX : EXT) (ts : List Nat) (tgs : List Expr) (g : FGs) : Prop where
  ex : ∃ t, PGs X tgs t ∧ EvGs z O EX ts t g
def nilG : FGs := fun ds ρ S => match ds with | [] => R.ok (ρ, S) | _ => R.bad
def consG (g : FG) (h : FGs) : FGs := fun ds ρ S => match ds with | [] => R.bad | d :: r => g d ρ S >>= fun ρ1 => h r ρ1.1 ρ1.2
theorem pgsd_nil : PGSd X z O EX [] [] nilG := ⟨_, pgs_nil, fun B P σ H ρ S vs ds Q hP rr hv hs => by
  cases hv with
  | nil => exact ⟨rfl, hs σ H Grow.refl rr rfl fun _ _ => rfl⟩
  | cons _ _ => exact hs.elim⟩
theorem pgsd_cons {ts us : List Nat} {gg : FG} {gr : FGs} (h1 : PGd X z O EX ts e gg) (h2 : PGSd X z O EX us es gr) (hs : (assignEach (e :: es) X.env).map (·.2) = assign e X.env :: (assignEach es X.env).map (·.2) := by rfl) : PGSd X z O EX (ts ++ us) (e :: es) (consG gg gr) := by
  obtain ⟨t, p, q⟩ := h1.ex
  obtain ⟨u, p2, q2⟩ := h2.ex
  refine ⟨_, pgs_cons p p2 hs, fun B P σ H ρ S vs ds Q hP rr hv hs => ?_⟩
  cases hv with
  | nil => exact hs.elim
  | cons hv hr =>
    refine ⟨_, _, rfl, q B P σ H ρ S _ _ _ hP rr hv ((sat_bind.mp hs).imp fun ρ1 h1 σ1 H1 g1 r1 l1 k1 => ?_)⟩
    refine q2 B P σ1 H1 ρ1.1 ρ1.2 _ _ _ hP r1 (hr.mono g1.frz) (h1.imp fun ρ2 h2 σ2 H2 g2 r2 l2 k2 => h2 σ2 H2 (g1.trans g2) r2 (l2.trans l1) fun i hi => ?_)
    rw [List.mem_append] at hi
    exact (k2 i fun z => hi (.inr z)).trans (k1 i fun z => hi (.inl z))
def tupG (n : Nat) (g : FGs) : FG := fun d ρ S => match d with | .tup ds => if ds.length = n then g ds ρ S else R.bad | _ => R.bad
theorem pgd_tup (hK : X.K = z.K) {k n : Nat} {ts : List Nat} {gr : FGs} (hc : X.calm = true) (h : PGSd X z O EX ts es gr) (hn : (assignEach es X.env).length = n := by rfl) (hst : (assignEach es X.env).findIdx? (·.1) = none := by rfl) :
    PGd X z O EX ts (.Tuple es k pos) (tupG n gr) := by
  obtain ⟨t, p, q⟩ := h.ex
  refine ⟨_, pg_tup hc p hn hst, fun B P σ H ρ S v d Q hP rr hv hs => ?_⟩
  cases d with
  | tup ds =>
    unfold tupG at hs
    dsimp only at hs
    split at hs
    · rename_i w
      cases hv with
      | tup h1 r1 => exact ⟨_, _, rfl, hK ▸ ex_t (frz_ex _ _) h1, by rw [r1.length]; exact w, q B P σ H ρ S _ _ _ hP rr r1 hs⟩
    · exact hs.elim
  | _ => exact hs.elim
/-- a, b = a list of two -/
def lstG (n : Nat) (g : FGs) : FG := fun d ρ S => match d with | .lst ds => if ds.length = n then g ds ρ S else R.bad | _ => R.bad
theorem pgd_lst (hK : X.K = z.K) {k n : Nat} {ts : List Nat} {gr : FGs} (hc : X.calm = true) (h : PGSd X z O EX ts es gr) (hn : (assignEach es X.env).length = n := by rfl) (hst : (assignEach es X.env).findIdx? (·.1) = none := by rfl) :
    PGd X z O EX ts (.Tuple es k pos) (lstG n gr) := by
  obtain ⟨t, p, q⟩ := h.ex
  refine ⟨_, pg_lst hc p hn hst, fun B P σ H ρ S v d Q hP rr hv hs => ?_⟩
  cases d with
  | lst ds =>
    unfold lstG at hs
    dsimp only at hs
    split at hs
    · rename_i w
      cases hv with
      | lst h1 r1 => exact ⟨_, _, rfl, SqL.of (frz_ex _ _ _ _ h1), by rw [r1.length]; exact w, q B P σ H ρ S _ _ _ hP rr r1 hs⟩
    · exact hs.elim
  | _ => exact hs.elim
def asgS (f : FE) (g : FG) : FS := fun ρ S => f ρ S >>= fun x => g x.1 ρ x.2 >>= fun r => R.ok (.nx, r.1, r.2)
theorem psd_asg {ts : List Nat} {tg : Expr} {gg : FG} (he : PD X z O EX e f) (hg : PGd X z O EX ts tg gg) (hs : swapsWithSole [tg] e pos.line X.env = pure false := by rfl) (hw : swappedStores [tg] e X.env = pure none := by rfl)
    (h1 : (assignEach [tg] X.env).map (·.2) = [assign tg X.env] := by rfl) : PSd X z O O OL EX (.Assign [tg] e pos) (asgS f gg) := by
  obtain ⟨t, p, q⟩ := he.ex
  obtain ⟨u, p2, q2⟩ := hg.ex
  refine ⟨_, ps_asg p p2 hs hw h1, fun B P σ H ρ S D' hP rr hs => ?_⟩
  refine q B P σ H ρ S _ hP rr ((sat_bind.mp hs).imp fun x hx v H1 g1 r1 hv => ?_)
  exact q2 B P σ H1 ρ x.2 v x.1 _ hP r1 hv ((sat_bind.mp hx).imp fun ρ1 h1 σ' H2 g2 r2 _ _ => h1 P σ' H2 hP (g1.trans g2).frz r2)
/-- x = e, x not owned -/
theorem psd_set (i : Nat) (hN : X.N.Nodup) (hz : NotPl z i) (he : PD X z O EX e f) (hi : O.all (· != i) = true := by rfl) {x : Str} {pos' : Pos} (hx : X.N[i]? = some x := by rfl) (hl : Loc X.env.scope x := by first | exact Or.inl rfl | exact Or.inr rfl)
    (hs : swapsWith e (some (.Name x pos')) pos.line X.env = pure false := by rfl) (hf : X.fn x = true ∨ X.env.scope.names.lookup x = some .local := by first | exact .inl rfl | exact .inr rfl) : PSd X z O O OL EX (.Assign [.Name x pos'] e pos) (asgS f (nmG i)) := by
  obtain ⟨t, p, q⟩ := he.ex
  refine ⟨_, ps_set hN hx hl p hs hf, fun B P σ H ρ S D' hP rr hs => ?_⟩
  refine q B P σ H ρ S _ hP rr ((sat_bind.mp hs).imp fun x hx v H1 g1 r1 hv => ?_)
  obtain ⟨w, hq⟩ := sat_set (sat_bind.mp (sat_bind.mp hx))
  exact hq P _ H1 hP g1.frz (r1.set hv (own_ne hP hi) hz w)
/-- a, b = e1, e2, both sides written -/
def parS (i j : Nat) (fa : FA) : FS := fun ρ S => fa ρ S >>= fun x => match x.1 with
  | [u, v] => setE ρ i u >>= fun ρ1 => setE ρ1 j v >>= fun ρ2 => R.ok (.nx, ρ2, x.2)
  | _ => R.bad
theorem psd_par (i j : Nat) (hc : X.calm = true) (hN : X.N.Nodup) (hzi : NotPl z i) (hzj : NotPl z j) {fa : FA} (ha : PAd X z O EX [a, b] fa) (hi : O.all (· != i) = true := by rfl) (hj : O.all (· != j) = true := by rfl) {x y : Str} {px py pt : Pos} {kt k2 pt2}
    (hx : X.N[i]? = some x := by rfl) (hy : X.N[j]? = some y := by rfl) (hij : i ≠ j := by decide) (lx : X.env.scope.names.lookup x = some .local := by rfl) (ly : X.env.scope.names.lookup y = some .local := by rfl)
    (hw : swappedStores [.Tuple [.Name x px, .Name y py] kt pt] (.Tuple [a, b] k2 pt2) X.env = pure (some [x, y]) := by rfl)
    (hs : swapsWithSole [.Tuple [.Name x px, .Name y py] kt pt] (.Tuple [a, b] k2 pt2) pos.line X.env = pure false := by rfl) : PSd X z O O OL EX (.Assign [.Tuple [.Name x px, .Name y py] kt pt] (.Tuple [a, b] k2 pt2) pos) (parS i j fa) := by
  obtain ⟨t, p, q⟩ := ha.ex
  refine ⟨_, ps_par hc hN hx hy hij lx ly p hw hs, fun B P σ H ρ S D' hP rr hs => ?_⟩
  refine q B P σ H ρ S _ hP rr ((sat_bind.mp hs).imp fun w hw vs H1 g1 r1 hv => ?_)
  obtain ⟨ds, S1⟩ := w
  match ds, hv, hw with
  | [u, v], .cons h1 (.cons h2 .nil), hw =>
    obtain ⟨w1, hq⟩ := sat_set (sat_bind.mp hw)
    obtain ⟨w2, hq⟩ := sat_set (sat_bind.mp hq)
    exact ⟨_, _, rfl, hq P _ H1 hP g1.frz ((r1.set h1 (own_ne hP hi) hzi w1).set h2 (own_ne hP hj) hzj w2)⟩
  | [], _, hw => exact hw.elim
  | [_], _, hw => exact hw.elim
  | _ :: _ :: _ :: _, _, hw => exact hw.elim
/-- x op= e -/
def augS (i : Nat) (g2 : D → D → Option D) (f : FE) : FS := fun ρ S => lk ρ i >>= fun u => f ρ S >>= fun x => R.of (g2 u x.1) >>= fun d => setE ρ i d >>= fun ρ1 => R.ok (.nx, ρ1, x.2)
/-! ### loops -/
/-- what a loop walks: the items from the frozen part F on -/
structure Items (z : Z) (J : It) (F : Hp) (ds : List D) : Prop where
  go : ∀ i B P H, Ex F (Frz H (z.L B P)) → i < ds.length → J.go i H
  stop : ∀ B P H, Ex F (Frz H (z.L B P)) → J.stop ds.length H
  yld : ∀ i B P H x H' d, Ex F (Frz H (z.L B P)) → (∀ p, H p = none → p ∉ z.L B P) → J.yld i H x H' → ds[i]? = some d → Ex H H' ∧ Rp z.K z.ca (Frz H' (z.L B P)) x d
def EvI (z : Z) (O : List Nat) (EX : EXT) (wi : TI) (f : FA) : Prop :=
  ∀ B P σ H ρ S R', P.map (·.1) = O → Rel z B P σ H ρ S →
    Sat (f ρ S) (fun r => ∀ J H1, Grow z H H1 → Rel z B P σ H1 ρ r.2 → Items z J (Frz H1 (z.L B P)) r.1 → R' J H1) EX → wi σ H R'
structure PId (X : Cx) (z : Z) (O : List Nat) (EX : EXT) (tg iter : Expr) (f : FA) : Prop where
  ex : ∃ w, PI X tg iter w ∧ EvI z O EX w f
def forL (g : FG) (fb : FS) : List D → Env → List D → R (Ctl × Env × List D)
  | [], ρ, S => R.ok (.nx, ρ, S)
  | d :: r, ρ, S => g d ρ S >>= fun ρ1 => fb ρ1.1 ρ1.2 >>= fun c => match c.1 with
    | .nx => forL g fb r c.2.1 c.2.2
    | .ct => forL g fb r c.2.1 c.2.2
    | .bk => R.ok (.nx, c.2.1, c.2.2)
    | .rt d => R.ok (.rt d, c.2.1, c.2.2)
def forS (fi : FA) (g : FG) (fb : FS) : FS := fun ρ S => fi ρ S >>= fun x => forL g fb x.1 ρ x.2
theorem psd_for {ts : List Nat} {tg iter : Expr} {body : List Stmt} {fi : FA} {gg : FG} {fb : FS} (hp : PassesOwn (model X.prog X.w) X.A X.env X.xe) (hc : X.calm = true) (hi : PId X z O EX tg iter fi) (hg : PGd X z O EX ts tg gg)
    (hb : PSS X z O O O EX body fb) (hs : ∀ x, foldedSetIterable iter X.env x = pure x := by intro _; rfl) : PSd X z O O OL EX (.For tg iter body [] pos) (forS fi gg fb) := by
  obtain ⟨w, pw, qw⟩ := hi.ex
  obtain ⟨tgt, pg, qg⟩ := hg.ex
  obtain ⟨tb, pb, qb⟩ := hb.ex
  refine ⟨_, ps_for hp hc pw pg pb hs, fun B P σ H ρ S D' hP rr hs => ?_⟩
  refine qw B P σ H ρ S _ hP rr ((sat_bind.mp hs).imp fun x hx J H1 g1 r1 it => ?_)
  obtain ⟨items, S1⟩ := x
  refine ⟨fun i m σ H => m = items.length - i ∧ i ≤ items.length ∧ ∃ P' ρ' S', P'.map (·.1) = O ∧ Rel z B P' σ H ρ' S' ∧ Ex (Frz H1 (z.L B P)) (Frz H (z.L B P')) ∧
    Sat (forL gg fb (items.drop i) ρ' S') (PostS z B (Frz H1 (z.L B P)) O OL D') EX, ⟨items.length, by simp, Nat.zero_le _, P, ρ, S1, hP, r1, Ex.refl _, Sat.imp hx fun _ w => w.mono g1.frz⟩, ?_⟩
  rintro i m σ2 H2 ⟨rfl, hil, P2, ρ2, S2, hP2, r2, e2, h2⟩
  by_cases hlt : i < items.length
  · have ed : items.drop i = items[i] :: items.drop (i + 1) := List.drop_eq_getElem_cons hlt
    rw [ed] at h2
    refine .inr ⟨it.go i B P2 H2 e2 hlt, fun σ' H' => items.length - (i + 1) = items.length - (i + 1) ∧ i + 1 ≤ items.length ∧ ∃ P' ρ' S', P'.map (·.1) = O ∧ Rel z B P' σ' H' ρ' S' ∧ Ex (Frz H1 (z.L B P)) (Frz H' (z.L B P')) ∧
      Sat (forL gg fb (items.drop (i + 1)) ρ' S') (PostS z B (Frz H1 (z.L B P)) O OL D') EX, fun σ' H' n => ⟨items.length - (i + 1), by omega, n⟩, fun x H' y => ?_⟩
    obtain ⟨ex', rp'⟩ := it.yld i B P2 H2 x H' items[i] e2 (fun p hp => r2.fresh hp) y (by simp [hlt])
    refine qg B P2 σ2 H' ρ2 S2 x items[i] _ hP2 (r2.grow ex') rp' ((sat_bind.mp h2).imp fun ρ3 h3 σ3 H3 g3 r3 _ _ => ?_)
    have e3 : Ex (Frz H1 (z.L B P)) (Frz H3 (z.L B P2)) := (e2.trans (Grow.of (z := z) ex').frz).trans g3.frz
    refine qb B P2 σ3 H3 ρ3.1 ρ3.2 _ hP2 r3 ((sat_bind.mp h3).imp fun c hcc => ?_)
    obtain ⟨c1, ρ4, S4⟩ := c
    cases c1 with
    | nx => exact fun P4 σ4 H4 h4 e4 r4 => ⟨rfl, hlt, P4, ρ4, S4, h4, r4, e3.trans e4, hcc⟩
    | ct => exact fun P4 σ4 H4 h4 e4 r4 => ⟨rfl, hlt, P4, ρ4, S4, h4, r4, e3.trans e4, hcc⟩
    | bk => exact fun P4 σ4 H4 h4 e4 r4 => hcc P4 σ4 H4 h4 (e3.trans e4) r4
    | rt d => exact fun v H4 hf => hcc v H4 hf
  · have e : i = items.length := by omega
    subst e
    rw [List.drop_length] at h2
    exact .inl ⟨it.stop B P2 H2 e2, h2 P2 σ2 H2 hP2 e2 r2⟩
/-! what is walked -/
theorem items_int {F : Hp} {lo : Int} {n : Nat} : Items z (Itr lo n) F ((List.range n).map fun i => D.int (lo + (i : Nat))) where
  go := fun i B P H _ hi => by
    show i < n
    simpa using hi
  stop := fun B P H _ => by
    show n ≤ _
    simp
  yld := fun i B P H x H' d _ _ y e => by
    obtain ⟨rfl, rfl⟩ := y
    rw [List.getElem?_map] at e
    cases q : (List.range n)[i]? with
    | none => rw [q] at e; cases e
    | some k =>
      rw [q] at e
      cases e
      obtain ⟨_, q⟩ := List.getElem?_eq_some_iff.mp q
      rw [List.getElem_range] at q
      subst q
      exact ⟨Ex.refl _, .int _⟩
def rng1D : List D → Option (List D)
  | [.int n] => if -(2 ^ 62) ≤ n ∧ n < 2 ^ 62 then some ((List.range n.toNat).map fun i => D.int (0 + (i : Nat))) else none
  | _ => none
def rng2D : List D → Option (List D)
  | [.int a, .int b] => if -(2 ^ 62) ≤ a ∧ a < 2 ^ 62 ∧ -(2 ^ 62) ≤ b ∧ b < 2 ^ 62 then some ((List.range (b - a).toNat).map fun i => D.int (a + (i : Nat))) else none
  | _ => none
def rngI (g : List D → Option (List D)) (fa : FA) : FA := fun ρ S => fa ρ S >>= fun x => R.of (g x.1) >>= fun ds => R.ok (ds, x.2)
theorem pid_range1 {tg : Expr} {p : Pos} {fa : FA} (hm : X.mg "range" = none) (ha : PAd X z O EX [a] fa) (hg : Gl X "range" := by rfl) (hs : starEach [a] X.env = [(false, eval a X.env)] := by rfl) : PId X z O EX tg (.Call (.Name "range" p) [a] [] pos) (rngI rng1D fa) := by
  obtain ⟨t, pt, q⟩ := ha.ex
  refine ⟨_, pi_range1 hg hm pt hs, fun B P σ H ρ S R' hP rr hs => ?_⟩
  refine q B P σ H ρ S _ hP rr ((sat_bind.mp hs).imp fun x hx vs H1 g1 r1 hv => ?_)
  obtain ⟨ds, hd, hq⟩ := sat_of (sat_bind.mp hx)
  obtain ⟨xs, S1⟩ := x
  dsimp only at hd hv
  unfold rng1D at hd
  split at hd
  · rename_i n
    split at hd
    · rename_i w
      cases hd
      cases hv with
      | cons h r =>
        cases h
        cases r
        refine ⟨n, rfl, w.1, w.2, hq _ H1 g1 r1 ?_⟩
        exact items_int
    · cases hd
  · cases hd
theorem items_seq {F : Hp} {J : It} {xs : List V} {ds : List D} (r : RpA z.K z.ca F xs ds) (go : ∀ i H, Ex F H → i < xs.length → J.go i H) (stop : ∀ H, Ex F H → J.stop xs.length H) (yld : ∀ i H x H', Ex F H → J.yld i H x H' → H' = H ∧ xs[i]? = some x) : Items z J F ds where
  go := fun i B P H e hi => go i H (e.trans (frz_ex _ _)) (by rw [r.length]; exact hi)
  stop := fun B P H e => by rw [← r.length]; exact stop H (e.trans (frz_ex _ _))
  yld := fun i B P H x H' d e _ y h => by
    obtain ⟨rfl, hx⟩ := yld i H x H' (e.trans (frz_ex _ _)) y
    obtain ⟨v, hv, q⟩ := r.get h
    rw [hv] at hx
    cases hx
    exact ⟨Ex.refl _, q.mono e⟩
/-- a list (not owned) -/
def itemsL : D → Option (List D) | .lst ds => some ds | .scr ns => some (ns.map .int) | _ => none
def itemsT : D → Option (List D) | .tup ds => some ds | _ => none
def seqI (g : D → Option (List D)) (f : FE) : FA := fun ρ S => f ρ S >>= fun x => R.of (g x.1) >>= fun ds => R.ok (ds, x.2)
theorem pid_list (hK : X.K = z.K) {tg : Expr} (ha : PD X z O EX e f) : PId X z O EX tg e (seqI itemsL f) := by
  obtain ⟨t, pt, q⟩ := ha.ex
  refine ⟨_, pi_list pt, fun B P σ H ρ S R' hP rr hs => ?_⟩
  refine q B P σ H ρ S _ hP rr ((sat_bind.mp hs).imp fun x hx v H1 g1 r1 hv => ?_)
  obtain ⟨ds, hd, hq⟩ := sat_of (sat_bind.mp hx)
  obtain ⟨x1, S1⟩ := x
  rw [hK]
  have fin : ∀ {a : Addr} {xs : List V}, SqL z.K (Frz H1 (z.L B P)) a xs → RpA z.K z.ca (Frz H1 (z.L B P)) xs ds → v = .ref a → ∃ a, v = .ref a ∧ (∃ xs, SqL z.K H1 a xs) ∧ R' (Itl z.K a) H1 := fun {a xs} h r e => by
    refine ⟨a, e, ⟨xs, ex_l (frz_ex _ _) h⟩, hq _ H1 g1 r1 ?_⟩
    exact items_seq r (fun i H e hi => ⟨xs, xs[i], ex_l e h, by simp [hi]⟩) (fun H e => ⟨xs, ex_l e h, Nat.le_refl _⟩) fun i H x H' e y => ⟨y.1, y.2 xs (ex_l e h)⟩
  cases x1 <;> simp only [itemsL, reduceCtorEq, Option.some.injEq] at hd
  · subst hd
    cases hv with
    | lst h r => exact fin (SqL.of h) r rfl
  · subst hd
    cases hv with
    | scr h => exact fin h (RpA.ofInts _) rfl
end
end PL
set_option Elab.async false
set_option linter.all false
set_option maxRecDepth 100000
set_option maxHeartbeats 4000000
namespace PL
open PySem PySem.Spec PyProof.Rows L2
abbrev EX0 : EXT := fun _ _ _ => False
section
variable {X : Cx} {z : Z} {O OI OM OO OL : List Nat} {EX : EXT} {a b c e : Expr} {es : List Expr} {f g h : FE} {fa : FA} {fs gs : FS} {pos : Pos} {st : Stmt} {sts : List Stmt}
variable {B : List Addr} {P : List (Nat × Addr)} {σ σ' : L2.St} {H H' : Hp} {ρ ρ' : Env} {S S' : List D}
/-! ### frames: more -/
theorem frz_congr {L L' : List Addr} (h : ∀ a, a ∈ L ↔ a ∈ L') : Frz H L = Frz H L' := by
  funext a
  unfold Frz
  by_cases ha : a ∈ L
  · rw [if_pos ha, if_pos ((h a).mp ha)]
  · rw [if_neg ha, if_neg fun q => ha ((h a).mpr q)]
/-- hidden no more -/
theorem Rel.show1 {p : Addr} (r : Rel z (p :: B) P σ H ρ S) (h0 : z.H0 p = none) : Rel z B P σ H ρ S ∧ Ex (Frz H (z.L (p :: B) P)) (Frz H (z.L B P)) ∧ p ∉ z.L B P := by
  have sub : ∀ a ∈ z.L B P, a ∈ z.L (p :: B) P := fun a ha => by
    unfold Z.L at ha ⊢
    rcases List.mem_append.mp ha with h | h
    · exact List.mem_append_left _ h
    · rcases List.mem_append.mp h with h | h
      · exact List.mem_append_right _ (List.mem_append_left _ h)
      · exact List.mem_append_right _ (List.mem_append_right _ (List.mem_cons_of_mem _ h))
  have m := frz_sub (H := H) sub
  have nd := r.nd
  have pm : List.Perm (z.L (p :: B) P) (p :: z.L B P) := by
    unfold Z.L
    rw [← List.append_assoc, ← List.append_assoc]
    exact List.perm_middle
  have nd2 := pm.nodup nd
  refine ⟨⟨fun i d n h => ?_, fun q hq => ?_, fun i a e => ?_, (List.nodup_cons.mp nd2).2, fun b hb => r.there b (List.mem_cons_of_mem _ hb), r.ex, r.new, r.len, r.tabs, ⟨fun a ha => ⟨(r.xt.1 a ha).1, ((List.mem_cons.mp (r.xt.1 a ha).2).resolve_left fun e => (r.xt.1 a ha).1 (by rw [e]; exact h0))⟩, r.xt.2⟩⟩, m, (List.nodup_cons.mp nd2).1⟩
  · obtain ⟨v, e1, q⟩ := r.val i d n h
    exact ⟨v, e1, q.mono m⟩
  · obtain ⟨e1, xs, ds, e2, e3, q⟩ := r.own q hq
    exact ⟨e1, xs, ds, e2, e3, q.mono m⟩
  · obtain ⟨e1, e0, xs, e2, q⟩ := r.pool i a e
    exact ⟨e1, e0, xs, e2, q.mono m⟩
/-- a fresh object is hidden -/
theorem Rel.hide {p : Addr} {o : HO} (r : Rel z B P σ H ρ S) (hp : H p = none) : Rel z (p :: B) P σ (upd H p o) ρ S ∧ Ex (Frz H (z.L B P)) (Frz (upd H p o) (z.L (p :: B) P)) := by
  have hn := r.fresh hp
  have m : Ex (Frz H (z.L B P)) (Frz (upd H p o) (z.L (p :: B) P)) := fun a u ha => by
    unfold Frz at ha ⊢
    split at ha
    · cases ha
    · rename_i n
      have ne : a ≠ p := ne_of_none ha hp
      rw [if_neg, upd_ne ne]
      · exact ha
      · intro q
        apply n
        unfold Z.L at q ⊢
        rcases List.mem_append.mp q with h | h
        · exact List.mem_append_left _ h
        · rcases List.mem_append.mp h with h | h
          · exact List.mem_append_right _ (List.mem_append_left _ h)
          · rcases List.mem_cons.mp h with h | h
            · exact absurd h ne
            · exact List.mem_append_right _ (List.mem_append_right _ h)
  have pm : List.Perm (z.L (p :: B) P) (p :: z.L B P) := by
    unfold Z.L
    rw [← List.append_assoc, ← List.append_assoc]
    exact List.perm_middle
  refine ⟨⟨fun i d n h => ?_, fun q hq => ?_, fun i a e => ?_, pm.symm.nodup (List.nodup_cons.mpr ⟨hn, r.nd⟩), fun b hb => ?_, fun a u h n => Ex.new hp _ _ (r.ex a u h n), r.new, r.len, tabs_new r.tabs hp, ⟨fun a ha => ⟨(r.xt.1 a ha).1, List.mem_cons_of_mem _ (r.xt.1 a ha).2⟩, r.xt.2⟩⟩, m⟩
  · obtain ⟨v, e1, q⟩ := r.val i d n h
    exact ⟨v, e1, q.mono m⟩
  · obtain ⟨e1, xs, ds, e2, e3, q⟩ := r.own q hq
    exact ⟨e1, xs, ds, Ex.new hp _ _ e2, e3, q.mono m⟩
  · obtain ⟨e1, e0, xs, e2, q⟩ := r.pool i a e
    exact ⟨e1, e0, xs, Ex.new hp _ _ e2, q.mono m⟩
  · rcases List.mem_cons.mp hb with h | h
    · rw [h, upd_same]
      exact fun z => nomatch z
    · have q := r.there b h
      cases e : H b with
      | none => exact absurd e q
      | some u => rw [Ex.new hp _ _ e]; exact fun z => nomatch z
/-- another frame's places, the heap as it is now -/
theorem Rel.back (r : Rel z B P σ H ρ S) (g : Grow z H H') (r' : Rel z B P σ' H' ρ' S') : Rel z B P σ H' ρ S' where
  val := fun i d n h => let ⟨v, e1, q⟩ := r.val i d n h; ⟨v, e1, q.mono g.frz⟩
  own := fun p hp => by
    obtain ⟨e1, xs, ds, e2, e3, q⟩ := r.own p hp
    have n : p.2 ∉ z.pls := fun h => by
      have nd := r.nd
      unfold Z.L at nd
      exact (List.nodup_append.mp nd).2.2 p.2 (List.mem_map_of_mem hp) p.2 (List.mem_append_left _ h) rfl
    exact ⟨e1, xs, ds, g _ _ n e2, e3, q.mono g.frz⟩
  pool := fun i a e => by
    obtain ⟨e1, e0, _⟩ := r.pool i a e
    obtain ⟨_, _, xs, e2, q⟩ := r'.pool i a e
    exact ⟨e1, e0, xs, e2, q⟩
  nd := r.nd
  there := r'.there
  ex := r'.ex
  new := r.new
  len := r.len
  tabs := r'.tabs
  xt := r.xt
/-! ### new lists -/
/-- e gives a new list that nobody else holds -/
def EvF (z : Z) (O : List Nat) (EX : EXT) (t : TE) (f : FA) : Prop :=
  ∀ B P σ H ρ S Q, P.map (·.1) = O → Rel z B P σ H ρ S →
    Sat (f ρ S) (fun r => ∀ p xs H', Grow z H H' → H' p = some (.lst xs) → z.H0 p = none → H p = none → Rel z (p :: B) P σ H' ρ r.2 → Ex (Frz H (z.L B P)) (Frz H' (z.L (p :: B) P)) → RpA z.K z.ca (Frz H' (z.L (p :: B) P)) xs r.1 → Q (.ref p) H') EX → t σ H Q
structure PF (X : Cx) (z : Z) (O : List Nat) (EX : EXT) (e : Expr) (f : FA) : Prop where
  ex : ∃ t, PE X e t ∧ EvF z O EX t f
def ofF (f : FA) : FE := fun ρ S => f ρ S >>= fun x => R.ok (.lst x.1, x.2)
theorem EvF.toE {t : TE} (q : EvF z O EX t fa) : EvE z O EX t (ofF fa) := fun B P σ H ρ S Q hP rr hs => by
  refine q B P σ H ρ S _ hP rr ((sat_bind.mp hs).imp fun x hx p xs H' g e1 e0 en r m hv => ?_)
  obtain ⟨r1, m1, n1⟩ := r.show1 e0
  exact hx (.ref p) H' g r1 (.lst (frz_of e1 n1) (hv.mono m1))
theorem PF.pd (ha : PF X z O EX e fa) : PD X z O EX e (ofF fa) := by
  obtain ⟨t, p, q⟩ := ha.ex
  exact ⟨t, p, q.toE⟩
theorem h0_none {p : Addr} (r : Rel z B P σ H ρ S) (hp : H p = none) (hn : p ∉ z.pls) : z.H0 p = none := by
  cases e : z.H0 p with
  | none => rfl
  | some o => rw [r.ex p o e hn] at hp; cases hp
theorem not_pls {p : Addr} (h : p ∉ z.L B P) : p ∉ z.pls := fun q => h (by unfold Z.L; exact List.mem_append_right _ (List.mem_append_left _ q))
theorem Grow.none {p : Addr} (g : Grow z H H') (hn : p ∉ z.pls) (hp : H' p = none) : H p = none := by
  cases e : H p with
  | none => rfl
  | some o => rw [g p o hn e] at hp; cases hp
def lstF (fa : FA) : FA := fun ρ S => fa ρ S >>= fun x => if x.1.length ≤ LINE then R.ok x else R.bad
theorem pf_lst (ha : PAd X z O EX es fa) : PF X z O EX (.List es pos) (lstF fa) := by
  obtain ⟨t, p, q⟩ := ha.ex
  refine ⟨_, pe_lst p, fun B P σ H ρ S Q hP rr hs => ?_⟩
  refine q B P σ H ρ S _ hP rr ((sat_bind.mp hs).imp fun x hx vs H1 g1 r1 hv => ?_)
  split at hx
  · rename_i w
    refine ⟨line_le (by rw [hv.length]; exact w), fun p hp => ?_⟩
    obtain ⟨r2, m⟩ := r1.hide (o := .lst vs) hp
    exact hx p vs _ (g1.trans (Grow.of (Ex.new hp))) upd_same (h0_none r1 hp (not_pls (r1.fresh hp))) (g1.none (not_pls (r1.fresh hp)) hp) r2 (g1.frz.trans m) (hv.mono m)
  · exact hx.elim
/-- a rule of two operands that makes a new list -/
def Op2F (K : PySem.W.Frag) (ca : Str → Option Addr) (r : R2) (g : D → D → Option (List D)) : Prop :=
  ∀ (H : Hp) (L N : List Addr) (x y : V) (dx dy : D) (d : List D) (Q : VK), Rb K ca H L N x dx → Rb K ca H L N y dy → g dx dy = some d →
    (∀ p xs, H p = none → RpA K ca (Frz H L) xs d → Q (.ref p) (upd H p (.lst xs))) → r x y H Q
def catF : D → D → Option (List D) | .lst a, .lst b => if a.length + b.length ≤ LINE then some (a ++ b) else none | _, _ => none
def repF : D → D → Option (List D) | .lst a, .int k => if -(2 ^ 63) ≤ k ∧ k < 2 ^ 63 ∧ a.length * k.toNat ≤ LINE then some (List.replicate k.toNat a).flatten else none | _, _ => none
theorem op2F_cat {K : PySem.W.Frag} {ca : Str → Option Addr} : Op2F K ca rCat catF := by
  intro H L N x y dx dy d Q hx hy e hq
  cases dx <;> cases dy <;> simp only [catF, reduceCtorEq] at e
  split at e
  · rename_i z
    cases e
    obtain ⟨a, xs, rfl, h1, r1⟩ := hx.lst
    obtain ⟨b, ys, rfl, h2, r2⟩ := hy.lst
    exact ⟨a, b, xs, ys, rfl, rfl, h1, h2, line_le (by rw [r1.length, r2.length]; exact z), fun p hp => hq p _ hp (r1.append r2)⟩
  · cases e
theorem op2F_rep {K : PySem.W.Frag} {ca : Str → Option Addr} : Op2F K ca rRep repF := by
  intro H L N x y dx dy d Q hx hy e hq
  cases dx <;> cases dy <;> simp only [repF, reduceCtorEq] at e
  split at e
  · rename_i z
    cases e
    obtain ⟨a, xs, rfl, h1, r1⟩ := hx.lst
    exact ⟨a, _, xs, rfl, hy.int, h1, z.1, z.2.1, line_le (by rw [r1.length]; exact z.2.2), fun p hp => hq p _ hp (r1.rep _)⟩
  · cases e
def bin2F (g2 : D → D → Option (List D)) (f g : FE) : FA := fun ρ S => f ρ S >>= fun x => g ρ x.2 >>= fun y => R.of (g2 x.1 y.1) >>= fun d => R.ok (d, y.2)
theorem pf_op {op : Operator} {r : R2} {g2 : D → D → Option (List D)} (ho : OpR X (binaryOp op) r) (hg : Op2F z.K z.ca r g2) (ha : PB X z O EX a f) (hb : PB X z O EX b g) : PF X z O EX (.BinOp a op b pos) (bin2F g2 f g) := by
  obtain ⟨ta, p1, e1⟩ := ha.ex
  obtain ⟨tb, p2, e2⟩ := hb.ex
  refine ⟨_, pe_op ho p1 p2, fun B P σ H ρ S Q hP rr hs => ?_⟩
  refine e1 B P σ H ρ S _ hP rr ((sat_bind.mp hs).imp fun x hx v H1 g1 r1 hv => ?_)
  refine e2 B P σ H1 ρ x.2 _ hP r1 ((sat_bind.mp hx).imp fun y hy u H2 g2' r2 hu => ?_)
  obtain ⟨d, hd, hq⟩ := sat_of (sat_bind.mp hy)
  refine hg H2 (z.L B P) z.pls v u x.1 y.1 d Q (hv.grow g2') hu hd fun p xs hp hxs => ?_
  obtain ⟨r3, m⟩ := r2.hide (o := .lst xs) hp
  exact hq p xs _ ((g1.trans g2').trans (Grow.of (Ex.new hp))) upd_same (h0_none r2 hp (not_pls (r2.fresh hp))) ((g1.trans g2').none (not_pls (r2.fresh hp)) hp) r3 ((g1.trans g2').frz.trans m) (hxs.mono m)
theorem pf_cat (ha : PB X z O EX a f) (hb : PB X z O EX b g) : PF X z O EX (.BinOp a .Add b pos) (bin2F catF f g) := pf_op op_cat op2F_cat ha hb
theorem pf_rep (ha : PB X z O EX a f) (hb : PB X z O EX b g) : PF X z O EX (.BinOp a .Mult b pos) (bin2F repF f g) := pf_op op_rep op2F_rep ha hb
def callF (g : List D → Option (List D)) (fa : FA) : FA := fun ρ S => fa ρ S >>= fun x => R.of (g x.1) >>= fun d => R.ok (d, x.2)
/-- places hold what is owned -/
theorem Rel.own1 {p : Addr} {xs : List V} {ds : List D} {i : Nat} (r : Rel z (p :: B) P σ H ρ S) (h : H p = some (.lst xs)) (h0 : z.H0 p = none) (rp : RpA z.K z.ca (Frz H (z.L (p :: B) P)) xs ds) (hi : ∀ q ∈ P, q.1 ≠ i) (hz : NotPl z i) (hl : i < ρ.length) :
    Rel z B ((i, p) :: P) (σ.set i (some (.ref p))) H (ρ.set i (some (.lst ds))) S ∧ Frz H (z.L (p :: B) P) = Frz H (z.L B ((i, p) :: P)) := by
  have pm : List.Perm (z.L (p :: B) P) (p :: z.L B P) := by
    unfold Z.L
    rw [← List.append_assoc, ← List.append_assoc]
    exact List.perm_middle
  have ef : Frz H (z.L (p :: B) P) = Frz H (z.L B ((i, p) :: P)) := frz_congr fun a => by
    show a ∈ z.L (p :: B) P ↔ a ∈ p :: z.L B P
    exact pm.mem_iff
  refine ⟨⟨fun j d n h => ?_, fun q hq => ?_, fun j a e => ?_, pm.nodup r.nd, fun b hb => r.there b (List.mem_cons_of_mem _ hb), r.ex, fun q hq => ?_, by rw [List.length_set, List.length_set]; exact r.len, r.tabs, ⟨fun a ha => ⟨(r.xt.1 a ha).1, ((List.mem_cons.mp (r.xt.1 a ha).2).resolve_left fun e => (r.xt.1 a ha).1 (by rw [e]; exact h0))⟩, fun j hj => by rw [List.getElem?_set_ne fun e => hz.2 (by rw [e]; exact hj)]; exact r.xt.2 j hj⟩⟩, ef⟩
  · have hj : j ≠ i := fun e => n (i, p) List.mem_cons_self e.symm
    rw [List.getElem?_set_ne (Ne.symm hj)] at h
    obtain ⟨v, e1, q⟩ := r.val j d (fun q hq => n q (List.mem_cons_of_mem _ hq)) h
    exact ⟨v, by rw [List.getElem?_set_ne (Ne.symm hj)]; exact e1, ef ▸ q⟩
  · rcases List.mem_cons.mp hq with e | hq
    · subst e
      exact ⟨List.getElem?_set_self (by rw [r.len]; exact hl), xs, ds, h, List.getElem?_set_self hl, ef ▸ rp⟩
    · obtain ⟨e1, xs', ds', e2, e3, q'⟩ := r.own q hq
      have n := Ne.symm (hi q hq)
      exact ⟨by rw [List.getElem?_set_ne n]; exact e1, xs', ds', e2, by rw [List.getElem?_set_ne n]; exact e3, ef ▸ q'⟩
  · obtain ⟨e1, e0, xs', e2, q'⟩ := r.pool j a e
    have n := Ne.symm (hz.1 j a e)
    exact ⟨by rw [List.getElem?_set_ne n]; exact e1, by rw [List.getElem?_set_ne n]; exact e0, xs', e2, ef ▸ q'⟩
  · rcases List.mem_cons.mp hq with e | hq
    · subst e; exact h0
    · exact r.new q hq
def ownS (i : Nat) (f : FA) : FS := fun ρ S => f ρ S >>= fun x => setE ρ i (.lst x.1) >>= fun ρ1 => R.ok (.nx, ρ1, x.2)
/-- x = a new list, owned from here -/
theorem psd_own (i : Nat) (hN : X.N.Nodup) (hz : NotPl z i) (he : PF X z O EX e fa) (hi : O.all (· != i) = true := by rfl) {x : Str} {pos' : Pos} (hx : X.N[i]? = some x := by rfl) (hl : Loc X.env.scope x := by first | exact Or.inl rfl | exact Or.inr rfl)
    (hs : swapsWith e (some (.Name x pos')) pos.line X.env = pure false := by rfl) (hf : X.fn x = true ∨ X.env.scope.names.lookup x = some .local := by first | exact .inl rfl | exact .inr rfl) : PSd X z O (i :: O) OL EX (.Assign [.Name x pos'] e pos) (ownS i fa) := by
  obtain ⟨t, p, q⟩ := he.ex
  refine ⟨_, ps_set hN hx hl p hs hf, fun B P σ H ρ S D' hP rr hs => ?_⟩
  refine q B P σ H ρ S _ hP rr ((sat_bind.mp hs).imp fun x hx p xs H1 g1 e1 e0 en r1 m hv => ?_)
  obtain ⟨w, hq⟩ := sat_set (sat_bind.mp hx)
  obtain ⟨r2, ef⟩ := r1.own1 e1 e0 hv (own_ne hP hi) hz w
  exact hq ((i, p) :: P) _ H1 (by rw [List.map_cons, hP]) (ef ▸ m) r2
/-! ### owned lists changed -/
/-- an owned list's new content -/
theorem Rel.put {i : Nat} {p : Addr} {xs : List V} {ds : List D} (r : Rel z B P σ H ρ S) (hp : (i, p) ∈ P) (hP : (P.map (·.1)).Nodup) (rp : RpA z.K z.ca (Frz H (z.L B P)) xs ds) :
    Rel z B P σ (upd H p (.lst xs)) (ρ.set i (some (.lst ds))) S ∧ Frz (upd H p (.lst xs)) (z.L B P) = Frz H (z.L B P) := by
  have hm : p ∈ z.L B P := by
    unfold Z.L
    exact List.mem_append_left _ (List.mem_map_of_mem (f := (·.2)) hp)
  have ef : Frz (upd H p (.lst xs)) (z.L B P) = Frz H (z.L B P) := by
    funext a
    unfold Frz
    by_cases ha : a ∈ z.L B P
    · rw [if_pos ha, if_pos ha]
    · rw [if_neg ha, if_neg ha, upd_ne fun (e1 : a = p) => ha (by rw [e1]; exact hm)]
  have nd := r.nd
  unfold Z.L at nd
  have nd' := List.nodup_append.mp nd
  have npl : p ∉ z.pls ++ B := fun h => nd'.2.2 p (List.mem_map_of_mem (f := (·.2)) hp) p h rfl
  have il : i < ρ.length := by
    obtain ⟨_, _, _, _, e3, _⟩ := r.own (i, p) hp
    exact (List.getElem?_eq_some_iff.mp e3).1
  have inj : ∀ (l : List (Nat × Addr)), (l.map (·.1)).Nodup → ∀ x ∈ l, ∀ y ∈ l, x.1 = y.1 → x = y := by
    intro l
    induction l with
    | nil => intro _ x hx; cases hx
    | cons u l ih =>
      intro hl x hx y hy exy
      rw [List.map_cons, List.nodup_cons] at hl
      rcases List.mem_cons.mp hx with e1 | hx'
      · rcases List.mem_cons.mp hy with e2 | hy'
        · rw [e1, e2]
        · exact absurd (by rw [← e1, exy]; exact List.mem_map_of_mem hy') hl.1
      · rcases List.mem_cons.mp hy with e2 | hy'
        · exact absurd (by rw [← e2, ← exy]; exact List.mem_map_of_mem hx') hl.1
        · exact ih hl.2 x hx' y hy' exy
  have inj2 : ∀ (l : List (Nat × Addr)), (l.map (·.2)).Nodup → ∀ x ∈ l, ∀ y ∈ l, x.2 = y.2 → x = y := by
    intro l
    induction l with
    | nil => intro _ x hx; cases hx
    | cons u l ih =>
      intro hl x hx y hy exy
      rw [List.map_cons, List.nodup_cons] at hl
      rcases List.mem_cons.mp hx with e1 | hx'
      · rcases List.mem_cons.mp hy with e2 | hy'
        · rw [e1, e2]
        · exact absurd (by rw [← e1, exy]; exact List.mem_map_of_mem hy') hl.1
      · rcases List.mem_cons.mp hy with e2 | hy'
        · exact absurd (by rw [← e2, ← exy]; exact List.mem_map_of_mem hx') hl.1
        · exact ih hl.2 x hx' y hy' exy
  refine ⟨⟨fun j d n h => ?_, fun q hq => ?_, fun j a e => ?_, r.nd, fun b hb => ?_, fun a o h n => ?_, r.new, by rw [List.length_set]; exact r.len, let ⟨_, xs0, _, e0, _⟩ := r.own (i, p) hp; tabs_upd r.tabs e0 (fun _ z => nomatch z) (fun _ z => nomatch z), r.xt⟩, ef⟩
  · have hj : j ≠ i := fun e => n (i, p) hp e.symm
    rw [List.getElem?_set_ne (Ne.symm hj)] at h
    obtain ⟨v, e1, q⟩ := r.val j d n h
    exact ⟨v, e1, ef ▸ q⟩
  · obtain ⟨e1, xs', ds', e2, e3, q'⟩ := r.own q hq
    by_cases hqi : q.1 = i
    · have e := inj P hP q hq (i, p) hp hqi
      subst e
      exact ⟨e1, xs, ds, upd_same, List.getElem?_set_self il, ef ▸ rp⟩
    · have hne : q.2 ≠ p := fun e => hqi (by rw [inj2 P nd'.1 q hq (i, p) hp e])
      exact ⟨e1, xs', ds', by rw [upd_ne hne]; exact e2, by rw [List.getElem?_set_ne (Ne.symm hqi)]; exact e3, ef ▸ q'⟩
  · obtain ⟨e1, e0, xs', e2, q'⟩ := r.pool j a e
    have ha : a ∈ z.pls := by
      unfold Z.pls
      rw [e]
      exact List.mem_append_left _ List.mem_cons_self
    have hj : j ≠ i := fun z1 => by
      obtain ⟨_, _, _, _, e3, _⟩ := r.own (i, p) hp
      rw [z1, e3] at e0
      cases e0
    exact ⟨e1, by rw [List.getElem?_set_ne (Ne.symm hj)]; exact e0, xs', by rw [upd_ne fun (e9 : a = p) => npl (List.mem_append_left _ (by rw [← e9]; exact ha))]; exact e2, ef ▸ q'⟩
  · by_cases hbp : b = p
    · rw [hbp, upd_same]; exact fun z => nomatch z
    · rw [upd_ne hbp]; exact r.there b hb
  · have hne : a ≠ p := fun e => by
      have q := r.new (i, p) hp
      rw [← e, h] at q
      cases q
    rw [upd_ne hne]
    exact r.ex a o h n
def appS (i : Nat) (f : FE) : FS := fun ρ S => f ρ S >>= fun x => lk ρ i >>= fun l => match l with
  | .lst ds => if ds.length < LINE then setE ρ i (.lst (ds ++ [x.1])) >>= fun ρ1 => R.ok (.nx, ρ1, x.2) else R.bad
  | _ => R.bad
theorem own_at {i : Nat} (hP : P.map (·.1) = O) (hi : O.contains i = true) : ∃ p, (i, p) ∈ P := by
  have hm : i ∈ P.map (·.1) := by rw [hP]; simpa using hi
  obtain ⟨p, hp, e⟩ := List.mem_map.mp hm
  obtain ⟨j, p⟩ := p
  cases e
  exact ⟨p, hp⟩
/-- x.append(e), x owned -/
theorem psd_append (i : Nat) (hK : X.K = z.K) {x : Str} {p0 apos cpos : Pos} (he : PD X z O EX e f) (hO : O.Nodup := by decide) (hi : O.contains i = true := by rfl) (hN : X.N[i]? = some x := by rfl) (hv : Vis X.env.scope x := by first | exact Or.inl rfl | exact Or.inr (Or.inl rfl) | exact Or.inr (Or.inr rfl))
    (hd : (x == ("__debug__" : Str)) = false := by decide) (hcd : (x == ("__classdict__" : Str)) = false := by decide)
    (hbase : attributeBase (.Name x p0) "append" X.env (eval (.Name x p0) X.env) = eval (.Name x p0) X.env := by rfl)
    (hfew : ((backTo cpos (starEach (e :: []) X.env)).all (fun x => !x.1) && (backToKw cpos (keywordEach [] X.env)).all (fun x => x.1.isSome)
      && decide ((e :: []).length + ([] : List Keyword).length + (if ([] : List Keyword).isEmpty then 0 else 1) < 30)) = true := by rfl)
    (hline : (apos.endLine == cpos.line) = true := by rfl) (hs : starEach (e :: []) X.env = (false, eval e X.env) :: starEach [] X.env := by rfl) (hplain : (backTo cpos (starEach [] X.env)).any (·.1) = false := by rfl)
    (hsw : swapsWith (.Call (.Attribute (.Name x p0) "append" apos) [e] [] cpos) none pos.line X.env = pure false := by rfl) :
    PSd X z O O OL EX (.Expr (.Call (.Attribute (.Name x p0) "append" apos) [e] [] cpos) pos) (appS i f) := by
  obtain ⟨t, p, q⟩ := he.ex
  refine ⟨_, ps_expr (pe_bm PySem.F.plainAttrs_list PySem.F.slot_list_append PySem.F.type_list_append mt_append (pe_var hN hv hd hcd) (pa_cons p pa_nil hs) hbase hfew hline hs hplain) hsw, fun B P σ H ρ S D' hP rr hs => ?_⟩
  obtain ⟨ad, hp⟩ := own_at hP hi
  obtain ⟨e1, xs, ds, e2, e3, q3⟩ := rr.own (i, ad) hp
  refine ⟨_, e1, .inl ⟨rfl, xs, SqL.of e2⟩, ?_⟩
  refine q B P σ H ρ S _ hP rr ((sat_bind.mp hs).imp fun w hw v H1 g1 r1 hv => ?_)
  obtain ⟨e1', xs', ds', e2', e3', q3'⟩ := r1.own (i, ad) hp
  have hw := sat_bind.mp hw
  unfold lk at hw
  rw [e3'] at hw
  dsimp only [Option.join, R.of] at hw
  have hw : Sat (if ds'.length < LINE then setE ρ i (.lst (ds' ++ [w.1])) >>= fun ρ1 => R.ok (.nx, ρ1, w.2) else R.bad) (PostS z B (Frz H (z.L B P)) O OL D') EX := hw
  split at hw
  · rename_i l
    obtain ⟨w2, hq⟩ := sat_set (sat_bind.mp hw)
    refine ⟨ad, xs', v, rfl, rfl, e2', line_lt (by rw [q3'.length]; exact l), ?_⟩
    obtain ⟨r4, ef⟩ := r1.put hp (by rw [hP]; exact hO) (q3'.append (.cons hv .nil))
    exact hq P σ _ hP (by rw [ef]; exact g1.frz) r4
  · exact hw.elim
/-- x[i] = e, x owned -/
def stoS (i : Nat) (f g : FE) : FS := fun ρ S => f ρ S >>= fun x => g ρ x.2 >>= fun y => lk ρ i >>= fun l => match l, y.1 with
  | .lst ds, .int k => match ixN ds.length k with
    | some j => setE ρ i (.lst (ds.set j x.1)) >>= fun ρ1 => R.ok (.nx, ρ1, y.2)
    | none => R.bad
  | _, _ => R.bad
end
end PL
set_option Elab.async false
set_option linter.all false
set_option maxRecDepth 100000
set_option maxHeartbeats 4000000
/-! Defs whose callers stand under no guard (repr looks at the guards): promises, calls, the law's own call. -/
namespace PL
open PySem PySem.Spec PyProof.Rows L2
/-- a promise kept wherever no guard stands around -/
structure FnG (Pg : Program) (w : World) (K : PySem.W.Frag) (mg : Str → Option Value) (base : Heap) (k : Nat) (fA : Addr) (fd : FuncData) (ps : List Str) (sp : Sp) : Prop where
  num : ∀ vs H Q E, sp vs H Q E → vs.length = ps.length
  go : ∀ (A : Around) (up : List PySem.Env) (s : Shared) (H : Hp) (args : Args) (us : List Value) (vs : List V) (Q : VK) (E : XK), Room k A → A.guards = some [] → Env0 Pg w K mg base A up s H →
    BindsTo s fd args (ps.zip us) → Vals vs us → sp vs H Q E → codeAny (model Pg w) A (.call (.ref fA) args) (CR CX0 up Pg w H s Q E) s
section
variable {Pg : Program} {w : World} {K : PySem.W.Frag} {mg : Str → Option Value} {base : Heap} {j k : Nat} {fA : Addr} {fd : FuncData} {ps : List Str} {sp : Sp}
theorem FnG.up (F : FnG Pg w K mg base j fA fd ps sp) (h : j ≤ k) : FnG Pg w K mg base k fA fd ps sp :=
  ⟨F.num, fun A up s H args us vs Q E hr hgu => F.go A up s H args us vs Q E (hr.mono h) hgu⟩
/-- from the body -/
theorem fn_body {x qual : Str} {st : Stmt} {N : List Str} (F : Fun K x qual st fA fd) (Sc : FnScope N ps (defScope st)) (num : ∀ vs H Q E, sp vs H Q E → vs.length = ps.length)
    (body : ∀ (cdv : Value) (A : Around) (up : List PySem.Env) (s : Shared) (H : Hp) (vs : List V) (Q : VK) (E : XK), Room k (A.deeper (envOfC qual (defScope st) s.heap.objs.size fA cdv)) → A.guards = some [] → sp vs H Q E →
      ∃ t, PSs (cxOf CX0 Pg w K mg base N qual (defScope st) fA cdv A up s H E).nox (defBody st) t ∧ t { nx := fun _ H' => Q .non H', rt := Q } (L2.start N vs) H) : FnG Pg w K mg base (k + 1) fA fd ps sp := by
  obtain ⟨oc, od, kV, doc, pm, an, cdv, ct, osl, rfl, lk, hcd⟩ := F.ex
  constructor
  · exact num
  · intro A up s H args us vs Q E hr hgu e0 hb rv hsp
    have hlen := num _ _ _ _ hsp
    have kin : K.In s.heap := e0.mod.kin.keeps fun b o e => (e0.bs b o e).1
    have nolim : s.heap.NoLimit := e0.mod.nolimit.keeps fun b o e => (e0.bs b o e).1
    refine codeAny_call_function hr.depth (kin _ _ lk) rfl Sc.co Sc.gen rfl (PySem.W.codeRec_of kin hcd) (hb _ _ _ _ (wpAny_newFunctionEnv_cells Sc.kind (fun y hy => ?_) fun env he s1 x => ?_))
    · obtain ⟨n, v⟩ := y
      exact (Sc.par n (List.of_mem_zip hy).1).imp id fun q => ⟨q, PySem.W.cellsFrom_some _ _ _ (.inl q)⟩
    · subst he
      obtain ⟨t, ht, hq⟩ := body cdv A up s H vs Q E (hr.deeper _) hgu hsp
      have J : Inv (cxOf CX0 Pg w K mg base N qual (defScope st) fA cdv A up s H E) [] (L2.start N vs) H s1 := inv_start Sc hr.hd e0 hlen rv x
      refine ⟨nolim.keeps x.toInCall.keep, codeAny_func (wpAny_mono (ht.nox.run [] s1 _ H _ J hq) (fun fl s' hs => ?_) fun e s' hs => hs)⟩
      cases fl with
      | ret u => obtain ⟨v, σ', H', J2, r2, q2⟩ := hs; exact ⟨v, H', J2.os, J2.bare, J2.base, J2.hok, r2, q2⟩
      | next => obtain ⟨σ', H', J2, q2⟩ := hs; exact ⟨V.non, H', J2.os, J2.bare, J2.base, J2.hok, rfl, q2⟩
      | brk => obtain ⟨_, _, _, q2⟩ := hs; exact q2.elim
      | cont => obtain ⟨_, _, _, q2⟩ := hs; exact q2.elim
end
/-- where a body stands: room for k calls, no guard around -/
structure Rm (k : Nat) (A : Around) : Prop where
  r : Room k A
  g : A.guards = some []
theorem Rm.mono {j k : Nat} {A : Around} (h : Rm k A) (l : j ≤ k) : Rm j A := ⟨h.r.mono l, h.g⟩
section
variable {X : Cx} {k : Nat} {fA C : Addr} {fd : FuncData} {ps ks : List Str} {sp : Sp} {dvs : List V} {ds : List Value} {E : XK} {x m : Str} {p pos apos : Pos} {e o : Expr} {es : List Expr} {kws : List Keyword} {ta : TE} {t tk : TA}
variable {pins : List (Addr × Obj)} {σ : L2.St} {H : Hp} {s : Shared} {Q : VK}
/-- the callee runs -/
theorem run_g {args : Args} {us : List Value} {vs : List V} (F : FnG X.prog X.w X.K X.mg X.base k fA fd ps sp) (hr : Rm k X.A) (hb : BindsTo s fd args (ps.zip us)) (I : Inv X pins σ H s) (r : Vals vs us) (h : sp vs H Q E) :
    wpAny (model X.prog X.w) X.A (call (.ref fA) args.pos args.kw) (EP X pins σ Q) X.xe s := by
  refine wpAny_call (codeAny_mono (F.go X.A X.stack s H args us vs Q E hr.r hr.g I.env0 hb r h) fun res s' hq => ?_)
  match res, hq with
  | .ok (.ret u), hq => exact I.after hq
  | .ok .next, hq => exact False.elim hq
  | .ok .brk, hq => exact False.elim hq
  | .ok .cont, hq => exact False.elim hq
  | .error er, hq => exact False.elim hq
theorem pe_g (F : FnG X.prog X.w X.K X.mg X.base k fA fd ps sp) (hr : Rm k X.A) (hg : Gl X x) (hm : X.mg x = some (.ref fA)) (hk : PySem.W.keepIn X.K (.ref fA) = true) (hb : Binds X.K fd ps ds) (hd : Vals dvs ds)
    (ha : PA X (e :: es) t) (hdb : (x == ("__debug__" : Str)) = false) (he : starEach (e :: es) X.env = (false, eval e X.env) :: starEach es X.env) (hpl : (backTo pos (starEach es X.env)).any (·.1) = false) :
    PE X (.Call (.Name x p) (e :: es) [] pos) (tCall sp dvs E t) := ⟨fun pins s σ H Q I h => by
  refine wpAny_Call_Name_kw (ld_glob I hg hm (PySem.W.callWith_K (h₀ := X.base) I.ok.mod.kin hk (thn (ha.run pos pins s σ H _ I h) fun us s1 hv => ?_) he hpl) hdb)
  obtain ⟨vs, H1, I1, r, q⟩ := hv
  have r2 := r.append hd
  exact ⟨I1.kIn, run_g (args := ⟨us, []⟩) F hr (hb s1 us I1.kIn (by rw [← r2.length]; exact F.num _ _ _ _ q)) I1 r2 q⟩⟩
theorem pe_g0 (F : FnG X.prog X.w X.K X.mg X.base k fA fd ps sp) (hr : Rm k X.A) (hg : Gl X x) (hm : X.mg x = some (.ref fA)) (hk : PySem.W.keepIn X.K (.ref fA) = true) (hb : Binds X.K fd ps ds) (hd : Vals dvs ds)
    (hdb : (x == ("__debug__" : Str)) = false) : PE X (.Call (.Name x p) [] [] pos) (tCall sp dvs E tNil) := ⟨fun pins s σ H Q I h =>
  wpAny_Call_Name_kw (ld_glob I hg hm (PySem.W.callWith_K0 I.kIn hk (run_g (args := ⟨[], []⟩) F hr (hb s [] I.kIn (by rw [List.nil_append, ← hd.length]; exact F.num _ _ _ _ h)) I hd h)) hdb)⟩
/-- by places -/
def pick {α : Type} (ix : List Nat) (l : List α) : List α := ix.filterMap fun i => l[i]?
theorem vals_pick {vs : List V} {us : List Value} (r : Vals vs us) : ∀ ix : List Nat, Vals (pick ix vs) (pick ix us)
  | [] => .nil
  | i :: ix => by
    have ih := vals_pick r ix
    unfold pick at ih ⊢
    rw [List.filterMap_cons, List.filterMap_cons]
    cases e : vs[i]? with
    | none => rw [r.none_of e]; exact ih
    | some v =>
      obtain ⟨u, e1, h⟩ := r.get e
      rw [e1]
      exact .cons h ih
/-- n positional arguments, the keywords ks: how they come to the parameters -/
structure KBd (K : PySem.W.Frag) (fd : FuncData) (ps ks : List Str) (n : Nat) (ix : List Nat) : Prop where
  to : ∀ (s : Shared) (us ws : List Value), K.In s.heap → us.length = n → ws.length = ks.length → BindsTo s fd ⟨us, ks.zip ws⟩ (ps.zip (pick ix (us ++ ws)))
/-- a new instance -/
theorem run_gmk {us ws : List Value} {vs : List V} {ix : List Nat} {n : Nat} (M : Mk X.K C fA) (F : FnG X.prog X.w X.K X.mg X.base k fA fd ps sp) (hr : Rm (k + 1) X.A) (hb : KBd X.K fd ps ks n ix) (l1 : us.length + 1 = n) (l2 : ws.length = ks.length)
    (I : Inv X pins σ H s) (r : Vals vs (us ++ ws)) (h : ∀ xa dx, H xa = none → H dx = none → dx ≠ xa → sp (pick ix (.ref xa :: vs)) (upd (upd H dx (.own xa)) xa (.ins C dx [])) (fun v H2 => v = .non ∧ Q (.ref xa) H2) E) :
    wpAny (model X.prog X.w) X.A (call (.ref C) us (ks.zip ws)) (EP X pins σ Q) X.xe s := by
  have hnew := h (s.heap.objs.size + 1) s.heap.objs.size (I.hok.fresh (Nat.le_succ _)) (I.hok.fresh (Nat.le_refl _)) (Nat.ne_of_lt (Nat.lt_succ_self _))
  have I2 := Inv.made (C := C) I
  have rn : Vals (V.ref (s.heap.objs.size + 1) :: vs) ((Value.ref (s.heap.objs.size + 1) :: us) ++ ws) := .cons rfl r
  have hgu : (X.A.under (.builtin "type.__call__" ⟨.ref C :: us, ks.zip ws⟩)).guards = some [] := by
    show pushGuards (Code.guards (.builtin "type.__call__" ⟨.ref C :: us, ks.zip ws⟩)) X.A.guards = some []
    rw [hr.g]
    first
      | rfl
      | simp [Code.guards, Code.isGuard, pushGuards]
  refine wpAny_call (make_map (f := fA) I.kIn M.makes M.init (beq_iff_eq.mp M.fn) (codeAny_mono (F.go _ X.stack _ _ ⟨Value.ref (s.heap.objs.size + 1) :: us, ks.zip ws⟩ _ _ _ E (hr.r.make C us (ks.zip ws)) hgu
    (I2.env0.make C us (ks.zip ws)) (hb.to _ (Value.ref (s.heap.objs.size + 1) :: us) ws I2.kIn l1 l2) (vals_pick rn ix) hnew) fun res s' hq => ?_))
  match res, hq with
  | .ok (.ret u), hq =>
    obtain ⟨v, H', I3, rv, ev, q3⟩ := I2.after hq
    subst ev
    exact ⟨rv, V.ref (s.heap.objs.size + 1), H', I3, rfl, q3⟩
  | .ok .next, hq => exact False.elim hq
  | .ok .brk, hq => exact False.elim hq
  | .ok .cont, hq => exact False.elim hq
  | .error er, hq => exact False.elim hq
/-- C(.., k = ..): n the positional ones with self -/
def tMkI (C : Addr) (sp : Sp) (n m : Nat) (ix : List Nat) (E : XK) (t tk : TA) : TE := fun σ H Q => t σ H fun vs H1 => tk σ H1 fun zs H2 => vs.length + 1 = n ∧ zs.length = m ∧ ∀ xa dx, H2 xa = none → H2 dx = none → dx ≠ xa →
  sp (pick ix (.ref xa :: (vs ++ zs))) (upd (upd H2 dx (.own xa)) xa (.ins C dx [])) (fun v H3 => v = .non ∧ Q (.ref xa) H3) E
theorem pe_gmk {n : Nat} {ix : List Nat} (M : Mk X.K C fA) (F : FnG X.prog X.w X.K X.mg X.base k fA fd ps sp) (hr : Rm (k + 1) X.A) (hg : Gl X x) (hm : X.mg x = some (.ref C)) (hb : KBd X.K fd ps [] n ix)
    (ha : PA X (e :: es) t) (hdb : (x == ("__debug__" : Str)) = false) (he : starEach (e :: es) X.env = (false, eval e X.env) :: starEach es X.env) (hpl : (backTo pos (starEach es X.env)).any (·.1) = false) :
    PE X (.Call (.Name x p) (e :: es) [] pos) (tMkI C sp n 0 ix E t tNil) := ⟨fun pins s σ H Q I h => by
  refine wpAny_Call_Name_kw (ld_glob I hg hm (PySem.W.callWith_K (h₀ := X.base) I.ok.mod.kin M.kp (thn (ha.run pos pins s σ H _ I h) fun us s1 hv => ?_) he hpl) hdb)
  obtain ⟨vs, H1, I1, r, l1, l2, q⟩ := hv
  exact ⟨I1.kIn, run_gmk (us := us) (ks := []) (ws := []) M F hr hb (by rw [← r.length]; exact l1) rfl I1 (by rw [List.append_nil]; exact r) (by rw [List.append_nil] at q; exact q)⟩⟩
/-- a property -/
theorem pe_gp {fn : Str} {pA : Addr} (he : PE X e ta) (c : Cls X.K C) (hp : PropOf X.K C fn pA fA) (F : FnG X.prog X.w X.K X.mg X.base k fA fd ps sp) (hr : Rm (k + 1) X.A) (hb : Binds X.K fd ps [])
    (hab : attributeBase e fn X.env (eval e X.env) = eval e X.env) : PE X (.Attribute e fn pos) (tProp C sp [] E ta) := ⟨fun pins s σ H Q I h => by
  refine attr_of hab (thn (he.run pins s σ H _ I h) fun u s1 hv => ?_)
  obtain ⟨x, H1, I1, rx, a, dx, fs, ex, ea, q⟩ := hv
  subst ex
  obtain rfl : u = Value.ref a := rx
  obtain ⟨mA, O, _⟩ := ins_get I1.hok ea
  obtain ⟨od, J, _⟩ := O.look
  obtain ⟨rest, hrec⟩ := hp.rec_
  have I3 := I1.tok (s1.toks + 1)
  have hc : (PySem.W.clsIn X.K C).isSome = true := by
    obtain ⟨cd, hc, _⟩ := PySem.W.any_some c.hd
    rw [hc]
    rfl
  have r2 : Vals [V.ref a] [Value.ref a] := .cons rfl .nil
  refine PySem.W.get_bind I1.kIn J (PySem.W.plainGet_of (c.get fn)).1 (PySem.W.findObj_data hc hp.at_ hp.get hp.tak) (PySem.W.plainGet_of (c.get fn)).2 (wpAny_call (PySem.W.prop_get (s := { s1 with toks := s1.toks + 1 }) I1.kIn hrec ?_))
  refine codeAny_mono (F.go X.A.in1 X.stack { s1 with toks := s1.toks + 1 } H1 ⟨[.ref a], []⟩ [.ref a] [.ref a] Q E hr.r.in1 hr.g I3.env0.in1 (hb _ [.ref a] I3.kIn (by rw [List.append_nil, ← r2.length]; exact F.num _ _ _ _ q)) r2 q) fun res s' hq => ?_
  match res, hq with
  | .ok (.ret u), hq =>
    obtain ⟨v, H', I4, rv, q3⟩ := I3.after hq
    show wpAny _ _ (handedOut u) _ _ _
    rw [PySem.W.handedOut_of (handed_of rv)]
    exact wpAny_pure ⟨v, H', I4, rv, q3⟩
  | .ok .next, hq => exact False.elim hq
  | .ok .brk, hq => exact False.elim hq
  | .ok .cont, hq => exact False.elim hq
  | .error er, hq => exact False.elim hq⟩
end
end PL
set_option Elab.async false
set_option linter.all false
set_option maxRecDepth 100000
set_option maxHeartbeats 4000000
namespace PL
open PySem PySem.Spec PyProof.Rows L2
section
variable {X : Cx} {z : Z} {O OI OM OO OL : List Nat} {EX : EXT} {a b c e : Expr} {es : List Expr} {f g h : FE} {fa : FA} {fs gs : FS} {pos : Pos} {st : Stmt} {sts : List Stmt}
variable {B : List Addr} {P : List (Nat × Addr)} {σ σ' : L2.St} {H H' : Hp} {ρ ρ' : Env} {S S' : List D}
/-! ### one reading for all contexts -/
def tCanE (z : Z) (O : List Nat) (EX : EXT) (f : FE) : TE := fun σ H Q => ∃ B P ρ S, P.map (·.1) = O ∧ Rel z B P σ H ρ S ∧ Sat (f ρ S) (fun r => ∀ v H', Grow z H H' → Rel z B P σ H' ρ r.2 → Rp z.K z.ca (Frz H' (z.L B P)) v r.1 → Q v H') EX
theorem PD.can (ha : PD X z O EX e f) : PE X e (tCanE z O EX f) := by
  obtain ⟨t, p, q⟩ := ha.ex
  exact ⟨fun pins s σ H Q I ⟨B, P, ρ, S, hP, r, h⟩ => p.run pins s σ H Q I (q B P σ H ρ S Q hP r h)⟩
theorem can_E : EvE z O EX (tCanE z O EX f) f := fun B P σ H ρ S Q hP r h => ⟨B, P, ρ, S, hP, r, h⟩
def tCanT (z : Z) (O : List Nat) (EX : EXT) (f : FT) : TT := fun σ H Q => ∃ B P ρ S, P.map (·.1) = O ∧ Rel z B P σ H ρ S ∧ Sat (f ρ S) (fun r => ∀ H', Grow z H H' → Rel z B P σ H' ρ r.2 → Q r.1 H') EX
theorem PTd.can {f : FT} (ha : PTd X z O EX e f) : PT X e (tCanT z O EX f) := by
  obtain ⟨t, p, q⟩ := ha.ex
  exact ⟨fun pins s σ H Q I ⟨B, P, ρ, S, hP, r, h⟩ => p.run pins s σ H Q I (q B P σ H ρ S Q hP r h)⟩
def tCanG (z : Z) (O : List Nat) (EX : EXT) (ts : List Nat) (g : FG) : TG := fun v σ H Q => ∃ B P ρ S d, P.map (·.1) = O ∧ Rel z B P σ H ρ S ∧ Rp z.K z.ca (Frz H (z.L B P)) v d ∧
  Sat (g d ρ S) (fun r => ∀ σ' H', Grow z H H' → Rel z B P σ' H' r.1 r.2 → σ'.length = σ.length → (∀ i, i ∉ ts → σ'[i]? = σ[i]?) → Q σ' H') EX
theorem PGd.can {ts : List Nat} {g : FG} (ha : PGd X z O EX ts e g) : PG X e (tCanG z O EX ts g) := by
  obtain ⟨t, p, q⟩ := ha.ex
  exact ⟨fun pins s σ H v u Q I rv ⟨B, P, ρ, S, d, hP, r, hv, h⟩ => p.run pins s σ H v u Q I rv (q B P σ H ρ S v d Q hP r hv h)⟩
theorem can_G {ts : List Nat} {g : FG} : EvG z O EX ts (tCanG z O EX ts g) g := fun B P σ H ρ S v d Q hP r hv h => ⟨B, P, ρ, S, d, hP, r, hv, h⟩
/-! ### list comprehensions -/
def wipeE (ρ : Env) : List Nat → Env
  | [] => ρ
  | v :: vs => (wipeE ρ vs).set v none
theorem wipeE_len (ρ : Env) : ∀ vs, (wipeE ρ vs).length = ρ.length
  | [] => rfl
  | v :: vs => by show ((wipeE ρ vs).set v none).length = _; rw [List.length_set, wipeE_len ρ vs]
theorem wipeE_get (ρ : Env) : ∀ vs i, i ∉ vs → (wipeE ρ vs)[i]? = ρ[i]?
  | [], i, _ => rfl
  | v :: vs, i, h => by
    show ((wipeE ρ vs).set v none)[i]? = _
    rw [List.mem_cons, not_or] at h
    rw [List.getElem?_set_ne (Ne.symm h.1), wipeE_get ρ vs i h.2]
theorem wipeE_in (ρ : Env) : ∀ vs i, i ∈ vs → ∀ d, (wipeE ρ vs)[i]? ≠ some (some d)
  | v :: vs, i, h, d => by
    show ((wipeE ρ vs).set v none)[i]? ≠ _
    by_cases e : v = i
    · subst e
      rw [List.getElem?_set]
      simp only [if_true]
      split
      · exact fun z => nomatch z
      · exact fun z => nomatch z
    · rw [List.getElem?_set_ne e]
      rcases List.mem_cons.mp h with h | h
      · exact absurd h.symm e
      · exact wipeE_in ρ vs i h d
theorem wipe_get (σ : L2.St) : ∀ vs i, i ∉ vs → (wipe σ vs)[i]? = σ[i]?
  | [], i, _ => rfl
  | v :: vs, i, h => by
    show ((wipe σ vs).set v none)[i]? = _
    rw [List.mem_cons, not_or] at h
    rw [List.getElem?_set_ne (Ne.symm h.1), wipe_get σ vs i h.2]
theorem wipe_in (σ : L2.St) : ∀ vs i, i ∈ vs → i < σ.length → (wipe σ vs)[i]? = some none
  | v :: vs, i, h, hl => by
    show ((wipe σ vs).set v none)[i]? = _
    by_cases e : v = i
    · subst e
      rw [List.getElem?_set_self (by rw [wipe_length]; exact hl)]
    · rw [List.getElem?_set_ne e]
      rcases List.mem_cons.mp h with h | h
      · exact absurd h.symm e
      · exact wipe_in σ vs i h hl
theorem wipe_eq {vs : List Nat} (hl : σ'.length = σ.length) (k : ∀ i, i ∉ vs → σ'[i]? = σ[i]?) : wipe σ' vs = wipe σ vs := by
  apply List.ext_getElem?
  intro i
  by_cases h : i ∈ vs
  · by_cases hi : i < σ.length
    · rw [wipe_in σ vs i h hi, wipe_in σ' vs i h (by rw [hl]; exact hi)]
    · rw [List.getElem?_eq_none (by rw [wipe_length]; omega), List.getElem?_eq_none (by rw [wipe_length]; omega)]
  · rw [wipe_get σ vs i h, wipe_get σ' vs i h, k i h]
theorem Rel.wipe {vs : List Nat} (r : Rel z B P σ H ρ S) (hP : ∀ p ∈ P, p.1 ∉ vs) (hz : ∀ i a, z.pl = some (i, a) → i ∉ vs) (hk : ∀ i ∈ vs, i ∉ z.kp) : Rel z B P (L2.wipe σ vs) H (wipeE ρ vs) S where
  val := fun i d n h => by
    by_cases hi : i ∈ vs
    · exact absurd h (wipeE_in ρ vs i hi d)
    · rw [wipeE_get ρ vs i hi] at h
      rw [wipe_get σ vs i hi]
      exact r.val i d n h
  own := fun p hp => by
    rw [wipe_get σ vs _ (hP p hp), wipeE_get ρ vs _ (hP p hp)]
    exact r.own p hp
  pool := fun i a e => by
    rw [wipe_get σ vs _ (hz i a e), wipeE_get ρ vs _ (hz i a e)]
    exact r.pool i a e
  nd := r.nd
  there := r.there
  ex := r.ex
  new := r.new
  len := by rw [wipe_length, wipeE_len]; exact r.len
  tabs := r.tabs
  xt := ⟨r.xt.1, fun j hj => by rw [wipe_get σ vs j fun h => hk j h hj]; exact r.xt.2 j hj⟩
def noX {α : Type} (r : R α) : R α := match r with | .ok a => .ok a | _ => .bad
theorem sat_noX {α : Type} {r : R α} {Q : α → Prop} {EX : EXT} (h : Sat (noX r) Q EX) : Sat r Q EX0 := by
  cases r with
  | ok a => exact h
  | exc c ns vs => exact False.elim h
  | bad => exact h
def lcL (vs : List Nat) (g : FG) (tt : FT) (te : FE) (ρ : Env) : List D → List D → List D → R (List D × List D)
  | [], S, acc => R.ok (acc, S)
  | d :: r, S, acc => g d (wipeE ρ vs) S >>= fun ρ1 => tt ρ1.1 ρ1.2 >>= fun b => if b.1 then te ρ1.1 b.2 >>= fun y => (if acc.length < LINE then lcL vs g tt te ρ r y.2 (acc ++ [y.1]) else R.bad) else lcL vs g tt te ρ r b.2 acc
def lcE (vs : List Nat) (fi : FA) (g : FG) (tt : FT) (te : FE) : FA := fun ρ S => fi ρ S >>= fun x => noX (lcL vs g tt te ρ x.1 x.2 [])
def yesT : FT := fun _ S => R.ok (true, S)
theorem evT_yes : EvT z O EX tYes yesT := fun B P σ H ρ S Q hP r h => h H Grow.refl r
theorem ev_lc {ts vs : List Nat} {wi : TI} {gt : TG} {tt : TT} {te : TE} {fi : FA} {gg : FG} {ft : FT} {fe : FE} (qi : EvI z O EX wi fi) (qg : EvG z O EX0 ts gt gg) (qt : EvT z O EX0 tt ft) (qe : EvE z O EX0 te fe)
    (hts : ∀ i ∈ ts, i ∈ vs) (hO : ∀ i ∈ O, i ∉ vs) (hz : ∀ i ∈ vs, NotPl z i) : EvF z O EX (tLc wi gt tt te vs) (lcE vs fi gg ft fe) := by
  intro B P σ H ρ S Q hP rr hs
  refine qi B P σ H ρ S _ hP rr ((sat_bind.mp hs).imp fun x hx J H1 g1 r1 it => ?_)
  intro Da hD
  have hPv : ∀ p ∈ P, p.1 ∉ vs := fun p hp => hO p.1 (by rw [← hP]; exact List.mem_map_of_mem hp)
  have hzv : ∀ i a, z.pl = some (i, a) → i ∉ vs := fun i a e h => (hz i h).1 i a e rfl
  obtain ⟨items, S1⟩ := x
  have hx := sat_noX hx
  obtain ⟨r2, m2⟩ := r1.hide (o := .lst []) hD
  have h0 := h0_none r1 hD (not_pls (r1.fresh hD))
  refine ⟨fun i m H2 => m = items.length - i ∧ i ≤ items.length ∧ ∃ S2 acc av, H2 Da = some (.lst av) ∧ Grow z H1 H2 ∧ Rel z (Da :: B) P σ H2 ρ S2 ∧ Ex (Frz H1 (z.L B P)) (Frz H2 (z.L (Da :: B) P)) ∧ RpA z.K z.ca (Frz H2 (z.L (Da :: B) P)) av acc ∧
    Sat (lcL vs gg ft fe ρ (items.drop i) S2 acc) (fun r => ∀ p xs H', Grow z H H' → H' p = some (.lst xs) → z.H0 p = none → H p = none → Rel z (p :: B) P σ H' ρ r.2 → Ex (Frz H (z.L B P)) (Frz H' (z.L (p :: B) P)) → RpA z.K z.ca (Frz H' (z.L (p :: B) P)) xs r.1 → Q (.ref p) H') EX0,
    ⟨items.length, by simp, Nat.zero_le _, S1, [], [], upd_same, Grow.of (Ex.new hD), r2, m2, .nil, hx⟩, ?_⟩
  rintro i m H2 ⟨rfl, hil, S2, acc, av, e2, g2, r3, m3, ra, h2⟩
  by_cases hlt : i < items.length
  · have ed : items.drop i = items[i] :: items.drop (i + 1) := List.drop_eq_getElem_cons hlt
    rw [ed] at h2
    have it3 : Ex (Frz H1 (z.L B P)) (Frz H2 (z.L (Da :: B) P)) := m3
    refine .inr ⟨it.go i (Da :: B) P H2 it3 hlt, fun H' => items.length - (i + 1) = items.length - (i + 1) ∧ i + 1 ≤ items.length ∧ ∃ S2 acc av, H' Da = some (.lst av) ∧ Grow z H1 H' ∧ Rel z (Da :: B) P σ H' ρ S2 ∧ Ex (Frz H1 (z.L B P)) (Frz H' (z.L (Da :: B) P)) ∧ RpA z.K z.ca (Frz H' (z.L (Da :: B) P)) av acc ∧
      Sat (lcL vs gg ft fe ρ (items.drop (i + 1)) S2 acc) (fun r => ∀ p xs H', Grow z H H' → H' p = some (.lst xs) → z.H0 p = none → H p = none → Rel z (p :: B) P σ H' ρ r.2 → Ex (Frz H (z.L B P)) (Frz H' (z.L (p :: B) P)) → RpA z.K z.ca (Frz H' (z.L (p :: B) P)) xs r.1 → Q (.ref p) H') EX0,
      fun H' n => ⟨items.length - (i + 1), by omega, n⟩, fun x H' y => ?_⟩
    obtain ⟨ex', rp'⟩ := it.yld i (Da :: B) P H2 x H' items[i] it3 (fun p hp => r3.fresh hp) y (by simp [hlt])
    have r3' := r3.grow ex'
    have hDn : Da ∉ z.pls := fun q => by
      have nd := r3.nd
      unfold Z.L at nd
      exact (List.nodup_append.mp (List.nodup_append.mp nd).2.1).2.2 Da q Da List.mem_cons_self rfl
    refine qg (Da :: B) P (L2.wipe σ vs) H' (wipeE ρ vs) S2 x items[i] _ hP (r3'.wipe hPv hzv fun i h => (hz i h).2) rp' ((sat_bind.mp h2).imp fun ρ3 h3 σ3 H3 g3 r4 l4 k4 => ?_)
    refine ⟨?_, ?_⟩
    · have e5 : wipe σ3 vs = wipe (wipe σ vs) vs := wipe_eq l4 fun i hi => k4 i fun q => hi (hts i q)
      have e6 : wipe (wipe σ vs) vs = wipe σ vs := wipe_eq (wipe_length _ _) fun i hi => wipe_get σ vs i hi
      rw [e5, e6]
    · refine qt (Da :: B) P σ3 H3 ρ3.1 ρ3.2 _ hP r4 ((sat_bind.mp h3).imp fun b hb H4 g4 r5 => ?_)
      obtain ⟨k, S5⟩ := b
      cases k with
      | true =>
        show te σ3 H4 _
        have hb : Sat (fe ρ3.1 S5 >>= fun y => if acc.length < LINE then lcL vs gg ft fe ρ (items.drop (i + 1)) y.2 (acc ++ [y.1]) else R.bad) _ EX0 := hb
        refine qe (Da :: B) P σ3 H4 ρ3.1 S5 _ hP r5 ((sat_bind.mp hb).imp fun y hy v H5 g5 r6 hv => ?_)
        split at hy
        · rename_i w
          have gall : Grow z H2 H5 := (Grow.of ex').trans (g3.trans (g4.trans g5))
          have e5 : H5 Da = some (.lst av) := gall Da _ hDn e2
          refine ⟨av, e5, line_lt (by rw [ra.length]; exact w), rfl, hlt, y.2, acc ++ [y.1], av ++ [v], upd_same, ?_, ?_, ?_, ?_, hy⟩
          · intro a o n h
            have ne : a ≠ Da := ne_of_none h hD
            rw [upd_ne ne]
            exact gall a o n (g2 a o n h)
          · -- the new list's content is not looked at by the frame
            have rb := r3.back gall r6
            have hm : Da ∈ z.L (Da :: B) P := by
              unfold Z.L
              exact List.mem_append_right _ (List.mem_append_right _ List.mem_cons_self)
            have ef : Frz (upd H5 Da (.lst (av ++ [v]))) (z.L (Da :: B) P) = Frz H5 (z.L (Da :: B) P) := by
              funext a
              unfold Frz
              by_cases ha : a ∈ z.L (Da :: B) P
              · rw [if_pos ha, if_pos ha]
              · rw [if_neg ha, if_neg ha, upd_ne fun (e1 : a = Da) => ha (by rw [e1]; exact hm)]
            have nP : ∀ p ∈ P, p.2 ≠ Da := fun p hp e => by
              have nd := r3.nd
              unfold Z.L at nd
              exact (List.nodup_append.mp nd).2.2 p.2 (List.mem_map_of_mem hp) Da (List.mem_append_right _ List.mem_cons_self) e
            refine ⟨fun i d n h => ?_, fun p hp => ?_, fun i a e => ?_, rb.nd, fun b hb => ?_, fun a o h n => ?_, rb.new, rb.len, tabs_upd rb.tabs e5 (fun _ z => nomatch z) (fun _ z => nomatch z), rb.xt⟩
            · obtain ⟨v', e1, q⟩ := rb.val i d n h
              exact ⟨v', e1, ef ▸ q⟩
            · obtain ⟨e1, xs, ds, e2, e3, q⟩ := rb.own p hp
              exact ⟨e1, xs, ds, by rw [upd_ne (nP p hp)]; exact e2, e3, ef ▸ q⟩
            · obtain ⟨e1, e0, xs, e2, q⟩ := rb.pool i a e
              have ha : a ∈ z.pls := by
                unfold Z.pls
                rw [e]
                exact List.mem_append_left _ List.mem_cons_self
              exact ⟨e1, e0, xs, by rw [upd_ne fun (e9 : a = Da) => hDn (by rw [← e9]; exact ha)]; exact e2, ef ▸ q⟩
            · by_cases hbD : b = Da
              · rw [hbD, upd_same]; exact fun z => nomatch z
              · rw [upd_ne hbD]; exact rb.there b hb
            · have ne : a ≠ Da := fun e9 => by
                rw [e9, h0] at h
                cases h
              rw [upd_ne ne]
              exact rb.ex a o h n
          · refine m3.trans (gall.frz.trans fun a o h => ?_)
            unfold Frz at h ⊢
            split at h
            · cases h
            · rename_i n
              rw [if_neg n, upd_ne fun (e9 : a = Da) => n (by
                rw [e9]
                unfold Z.L
                exact List.mem_append_right _ (List.mem_append_right _ List.mem_cons_self))]
              exact h
          · have ef : Ex (Frz H5 (z.L (Da :: B) P)) (Frz (upd H5 Da (.lst (av ++ [v]))) (z.L (Da :: B) P)) := fun a o h => by
              unfold Frz at h ⊢
              split at h
              · cases h
              · rename_i n
                rw [if_neg n, upd_ne fun (e9 : a = Da) => n (by
                  rw [e9]
                  unfold Z.L
                  exact List.mem_append_right _ (List.mem_append_right _ List.mem_cons_self))]
                exact h
            exact ((ra.mono gall.frz).append (.cons hv .nil)).mono ef
        · exact hy.elim
      | false =>
        show _ = _ ∧ _
        have gall : Grow z H2 H4 := (Grow.of ex').trans (g3.trans g4)
        exact ⟨rfl, hlt, S5, acc, av, gall Da _ hDn e2, g2.trans gall, r3.back gall r5, m3.trans gall.frz, ra.mono gall.frz, hb⟩
  · have e : i = items.length := by omega
    subst e
    rw [List.drop_length] at h2
    refine .inl ⟨it.stop (Da :: B) P H2 m3, ?_⟩
    exact h2 Da av H2 (g1.trans g2) e2 h0 (g1.none (not_pls (r1.fresh hD)) hD) r3 (g1.frz.trans m3) ra
theorem pf_lc {ts vs : List Nat} {tg iter elt : Expr} {ifs : List Expr} {scope : Scope} {own : List (Str × Nat)} {fi : FA} {gg : FG} {ft : FT} {fe : FE} {tt : TT} (hc : X.calm = true) (hN : X.N.Nodup) (hi : PId X z O EX tg iter fi) (ok : BlkOk X.N X.env.scope scope own)
    (hg : ∀ (s : Shared) (H : Hp) (C : Addr) (cl : List (Str × Addr)) (fp : List Addr), PGd (X.blk s H scope (compEnvC scope cl C X.env) fp) z O EX0 ts tg gg)
    (ht : ∀ (s : Shared) (H : Hp) (C : Addr) (cl : List (Str × Addr)) (fp : List Addr), PTs (X.blk s H scope (compEnvC scope cl C X.env) fp) ifs tt) (qt : EvT z O EX0 tt ft)
    (he : ∀ (s : Shared) (H : Hp) (C : Addr) (cl : List (Str × Addr)) (fp : List Addr), PD (X.blk s H scope (compEnvC scope cl C X.env) fp) z O EX0 elt fe) (hz : ∀ i ∈ own.map (·.2), NotPl z i)
    (hts : (ts.all fun i => (own.map (·.2)).contains i) = true := by rfl) (hO : (O.all fun i => !(own.map (·.2)).contains i) = true := by rfl)
    (hs : ∀ x, foldedSetIterable iter X.env x = pure x := by intro _; rfl) : PF X z O EX (.ListComp elt [⟨tg, iter, ifs, 0⟩] scope pos) (lcE (own.map (·.2)) fi gg ft fe) := by
  obtain ⟨w, pw, qw⟩ := hi.ex
  refine ⟨_, pe_lc hc hN pw ok (fun s H C cl fp => (hg s H C cl fp).can) ht (fun s H C cl fp => (he s H C cl fp).can) hs, ev_lc qw can_G qt can_E (fun i hi => ?_) (fun i hi => ?_) hz⟩
  · have := List.all_eq_true.mp hts i hi
    simpa using this
  · have := List.all_eq_true.mp hO i hi
    simpa using this
/-! ### defs -/
/-- a def's promise: it hands back what F tells; L: what is hidden, the tables T among it -/
def spF (K : PySem.W.Frag) (ca : Str → Option Addr) (T : Tb) (F : List D → R D) : Sp := fun vs H Q _ => ∃ ds B, B.Nodup ∧ (∀ b ∈ B, H b ≠ none) ∧ TIn T B H ∧ RpA K ca (Frz H B) vs ds ∧ Sat (F ds) (fun d => ∀ v H', GrT T H H' → LamX.Tabs T H' → Rp K ca (Frz H' B) v d → Q v H') EX0
/-- .. it changes its first argument, a list of the caller's -/
def spP (K : PySem.W.Frag) (ca : Str → Option Addr) (T : Tb) (F : List D → List D → R (D × List D)) : Sp := fun vs H Q _ => ∃ p ws xs S ds B, vs = .ref p :: ws ∧ H p = some (.lst xs) ∧ (p :: B).Nodup ∧ (∀ b ∈ B, H b ≠ none) ∧ TIn T B H ∧ RpA K ca (Frz H (p :: B)) xs S ∧ RpA K ca (Frz H (p :: B)) ws ds ∧
  Sat (F S ds) (fun r => ∀ v H' xs', (∀ a o, a ≠ p → a ∉ tbs T → H a = some o → H' a = some o) → LamX.Tabs T H' → H' p = some (.lst xs') → RpA K ca (Frz H' (p :: B)) xs' r.2 → Rp K ca (Frz H' (p :: B)) v r.1 → Q v H') EX0
/-- .. it hands back a new list -/
def spN (K : PySem.W.Frag) (ca : Str → Option Addr) (T : Tb) (F : List D → R (List D)) : Sp := fun vs H Q _ => ∃ ds B, B.Nodup ∧ (∀ b ∈ B, H b ≠ none) ∧ TIn T B H ∧ RpA K ca (Frz H B) vs ds ∧
  Sat (F ds) (fun d => ∀ p xs H', H p = none → GrT T H H' → LamX.Tabs T H' → H' p = some (.lst xs) → RpA K ca (Frz H' (p :: B)) xs d → Q (.ref p) H') EX0
def endD (r : Ctl × Env × List D) : R D := match r.1 with | .rt d => R.ok d | .nx => R.ok .non | _ => R.bad
def startE (n : Nat) (ds : List D) : Env := ds.map some ++ List.replicate (n - ds.length) none
/-- a def's function: n places, k parameters -/
def runF (n k : Nat) (fs : FS) : List D → R D := fun ds => if ds.length = k then fs (startE n ds) [] >>= endD else R.bad
/-- what is hidden beside the tables -/
def beside (T : Tb) (L : List Addr) : List Addr := L.filter fun a => !decide (a ∈ tbs T)
theorem beside_mem {T : Tb} {L : List Addr} {a : Addr} : a ∈ beside T L ↔ a ∈ L ∧ a ∉ tbs T := by
  unfold beside
  rw [List.mem_filter]
  simp
theorem beside_nd {T : Tb} {L : List Addr} (h : L.Nodup) (t : (tbs T).Nodup) : (tbs T ++ beside T L).Nodup :=
  List.nodup_append.mpr ⟨t, h.filter _, fun a ha b hb e => (beside_mem.mp hb).2 (e ▸ ha)⟩
theorem beside_iff {T : Tb} {L : List Addr} (s : ∀ a ∈ tbs T, a ∈ L) (a : Addr) : a ∈ tbs T ++ beside T L ↔ a ∈ L := by
  rw [List.mem_append, beside_mem]
  refine ⟨fun h => h.elim (s a) (·.1), fun h => ?_⟩
  by_cases q : a ∈ tbs T
  · exact .inl q
  · exact .inr ⟨h, q⟩
theorem rel_start {K : PySem.W.Frag} {ca : Str → Option Addr} {T : Tb} {N : List Str} {vs : List V} {ds : List D} (hB : B.Nodup) (hb : ∀ b ∈ B, H b ≠ none) (ti : TIn T B H) (hv : RpA K ca (Frz H B) vs ds) : Rel ⟨K, ca, H, none, .lst, T, [], [], []⟩ (beside T B) [] (L2.start N vs) H (startE N.length ds) [] where
  val := fun i d _ h => by
    have hl := hv.length
    unfold startE at h
    unfold L2.start
    by_cases hi : i < ds.length
    · rw [List.getElem?_append_left (by simpa using hi), List.getElem?_map] at h
      cases e : ds[i]? with
      | none => rw [e] at h; cases h
      | some d' =>
        rw [e] at h
        cases h
        obtain ⟨v, e1, q⟩ := hv.get e
        have ef : Frz H (Z.L ⟨K, ca, H, none, .lst, T, [], [], []⟩ (beside T B) []) = Frz H B := frz_congr fun a => beside_iff ti.sub a
        exact ⟨v, by rw [List.getElem?_append_left (by simp; omega), List.getElem?_map, e1]; rfl, ef ▸ q⟩
    · rw [List.getElem?_append_right (by simp; omega)] at h
      have := List.mem_of_getElem? h
      rw [List.mem_replicate] at this
      cases this.2
  own := fun p hp => nomatch hp
  pool := fun i a h => nomatch h
  nd := beside_nd hB ti.nd
  there := fun b hb' => hb b (beside_mem.mp hb').1
  ex := fun a o h _ => h
  new := fun p hp => nomatch hp
  len := by unfold L2.start startE; simp [hv.length]
  tabs := ti.tabs
  xt := ⟨fun _ h => (nomatch h), fun _ h => (nomatch h)⟩
section
variable {Pg : Program} {w : World} {K : PySem.W.Frag} {mg : Str → Option Value} {base : Heap} {ca : Str → Option Addr} {T : Tb}
theorem fn_d {x qual : Str} {st : Stmt} {fA : Addr} {fd : FuncData} {N ps : List Str} {k : Nat} {fs : FS} {OO : List Nat} (F : Fun K x qual st fA fd) (Sc : FnScope N ps (defScope st))
    (body : ∀ (cdv : Value) (A : Around) (outer : List PySem.Env) (s : Shared) (H : Hp) (E : XK), Rm k (A.deeper (envOfC qual (defScope st) s.heap.objs.size fA cdv)) →
      PSS (cxOf CX0 Pg w K mg base N qual (defScope st) fA cdv A outer s H E).nox ⟨K, ca, H, none, .lst, T, [], [], []⟩ [] OO [] EX0 (defBody st) fs) :
    FnG Pg w K mg base (k + 1) fA fd ps (spF K ca T (runF N.length ps.length fs)) := by
  refine fn_body F Sc (fun vs H Q E h => ?_) (fun cdv A outer s H vs Q E hr hgu h => ?_)
  · obtain ⟨ds, B, _, _, _, hv, hs⟩ := h
    rw [hv.length]
    unfold runF at hs
    split at hs
    · assumption
    · exact hs.elim
  · obtain ⟨ds, B, hB, hb, ti, hv, hs⟩ := h
    obtain ⟨t, p, q⟩ := (body cdv A outer s H E ⟨hr, hgu⟩).ex
    refine ⟨t, p, ?_⟩
    unfold runF at hs
    split at hs
    · have ef : ∀ H', Frz H' (Z.L ⟨K, ca, H, none, .lst, T, [], [], []⟩ (beside T B) []) = Frz H' B := fun H' => frz_congr fun a => beside_iff ti.sub a
      refine q (beside T B) [] (L2.start N vs) H (startE N.length ds) [] _ rfl (rel_start hB hb ti hv) ((sat_bind.mp hs).imp fun r hr => ?_)
      obtain ⟨c, ρ1, S1⟩ := r
      cases c with
      | nx =>
        intro P' σ' H' h1 h2 h3
        have hr : ∀ v H', GrT T H H' → LamX.Tabs T H' → Rp K ca (Frz H' B) v .non → Q v H' := hr
        exact hr .non H' (fun a o n e => h3.ex a o e n) h3.tabs .non
      | rt d =>
        intro v H' hf
        have hr : ∀ v H', GrT T H H' → LamX.Tabs T H' → Rp K ca (Frz H' B) v d → Q v H' := hr
        exact hr v H' (fun a o n e => hf.ex a o e n) hf.tabs (ef H' ▸ hf.val)
      | bk => exact hr.elim
      | ct => exact hr.elim
    · exact hs.elim
end
end
end PL
set_option Elab.async false
set_option linter.all false
set_option maxRecDepth 100000
set_option maxHeartbeats 4000000
namespace PL
open PySem PySem.Spec PyProof.Rows L2
section
variable {X : Cx} {z : Z} {O OI OM OO OL : List Nat} {EX : EXT} {a b c e o : Expr} {es : List Expr} {f g h : FE} {fa ga : FA} {fs gs : FS} {pos p apos : Pos} {st : Stmt} {sts : List Stmt}
variable {B : List Addr} {P : List (Nat × Addr)} {σ σ' : L2.St} {H H' : Hp} {ρ ρ' : Env} {S S' : List D} {x m : Str}
variable {k : Nat} {fA C : Addr} {fd : FuncData} {ps : List Str} {ds : List Value} {dvs : List V} {dds : List D} {kws : List Keyword}
/-! ### calls of defs -/
theorem Rel.tin (r : Rel z B P σ H ρ S) : TIn z.tb (z.L B P) H := by
  have nd := r.nd
  unfold Z.L Z.pls at nd
  refine ⟨(List.nodup_append.mp (List.nodup_append.mp (List.nodup_append.mp nd).2.1).1).2.1, fun a ha => ?_, r.tabs⟩
  unfold Z.L Z.pls
  exact List.mem_append_right _ (List.mem_append_left _ (List.mem_append_right _ ha))
theorem GrT.grow (g : GrT z.tb H H') : Grow z H H' := fun a o n h => g a o (fun q => n (by unfold Z.pls; exact List.mem_append_right _ q)) h
/-- behind a call: all as it was, but for the tables -/
theorem Rel.growT (r : Rel z B P σ H ρ S) (g : GrT z.tb H H') (tt : LamX.Tabs z.tb H') : Rel z B P σ H' ρ S := by
  have g' : Grow z H H' := g.grow
  have nd := r.nd
  have npl : ∀ a ∈ P.map (·.2), a ∉ z.pls := fun a ha hb => by
    unfold Z.L at nd
    exact (List.nodup_append.mp nd).2.2 a ha a (List.mem_append_left _ hb) rfl
  have nB : ∀ a ∈ B, a ∉ z.pls := fun a ha hb => by
    unfold Z.L at nd
    exact (List.nodup_append.mp (List.nodup_append.mp nd).2.1).2.2 a hb a ha rfl
  refine ⟨fun i d n h => ?_, fun q hq => ?_, fun i a e => ?_, r.nd, fun b hb => ?_, fun a o h n => g' a o n (r.ex a o h n), r.new, r.len, tt, r.xt⟩
  · obtain ⟨v, e1, q⟩ := r.val i d n h
    exact ⟨v, e1, q.mono g'.frz⟩
  · obtain ⟨e1, xs, ds, e2, e3, q'⟩ := r.own q hq
    exact ⟨e1, xs, ds, g' _ _ (npl _ (List.mem_map_of_mem hq)) e2, e3, q'.mono g'.frz⟩
  · obtain ⟨e1, e0, xs, e2, q⟩ := r.pool i a e
    refine ⟨e1, e0, xs, g a _ (fun h => ?_) e2, q.mono g'.frz⟩
    unfold Z.L Z.pls at nd
    exact (List.nodup_append.mp (List.nodup_append.mp (List.nodup_append.mp nd).2.1).1).2.2 a (by rw [e]; exact List.mem_cons_self) a h rfl
  · have q := r.there b hb
    cases e : H b with
    | none => exact absurd e q
    | some u => rw [g' b u (nB b hb) e]; exact fun z => nomatch z
def callD (F : List D → R D) (dds : List D) (fa : FA) : FE := fun ρ S => fa ρ S >>= fun x => noX (F (x.1 ++ dds)) >>= fun d => R.ok (d, x.2)
theorem spF_of {F : List D → R D} {vs : List V} {xs : List D} {Q : VK} {E : XK} (r1 : Rel z B P σ H ρ S) (hv : RpA z.K z.ca (Frz H (z.L B P)) vs xs)
    (hs : Sat (noX (F xs) >>= fun d => R.ok (d, S)) (fun r => ∀ v H', Grow z H H' → Rel z B P σ H' ρ r.2 → Rp z.K z.ca (Frz H' (z.L B P)) v r.1 → Q v H') EX) : spF z.K z.ca z.tb F vs H Q E := by
  refine ⟨xs, z.L B P, r1.nd, fun b hb => r1.lt hb, r1.tin, hv, ?_⟩
  exact (sat_noX (sat_bind.mp hs)).imp fun d hd v H' e' tt hv' => hd v H' e'.grow (r1.growT e' tt) hv'
theorem pd_call {F : List D → R D} (G : FnG X.prog X.w X.K X.mg X.base k fA fd ps (spF z.K z.ca z.tb F)) (hr : Rm k X.A) (hm : X.mg x = some (.ref fA)) (hk : PySem.W.keepIn X.K (.ref fA) = true) (hb : Binds X.K fd ps ds) (hd : Vals dvs ds) (hdd : ∀ F', RpA z.K z.ca F' dvs dds)
    (ha : PAd X z O EX (e :: es) fa) (hg : Gl X x := by rfl) (hdb : (x == ("__debug__" : Str)) = false := by decide) (he : starEach (e :: es) X.env = (false, eval e X.env) :: starEach es X.env := by rfl) (hpl : (backTo pos (starEach es X.env)).any (·.1) = false := by rfl) :
    PD X z O EX (.Call (.Name x p) (e :: es) [] pos) (callD F dds fa) := by
  obtain ⟨t, pt, q⟩ := ha.ex
  refine ⟨_, pe_g (E := E0) G hr hg hm hk hb hd pt hdb he hpl, fun B P σ H ρ S Q hP rr hs => ?_⟩
  refine q B P σ H ρ S _ hP rr ((sat_bind.mp hs).imp fun w hw vs H1 g1 r1 hv => ?_)
  refine spF_of r1 (hv.append (hdd _)) (hw.imp fun r hr v H' g' r' hv' => hr v H' (g1.trans g') r' hv')
theorem pd_call0 {F : List D → R D} (G : FnG X.prog X.w X.K X.mg X.base k fA fd ps (spF z.K z.ca z.tb F)) (hr : Rm k X.A) (hm : X.mg x = some (.ref fA)) (hk : PySem.W.keepIn X.K (.ref fA) = true) (hb : Binds X.K fd ps ds) (hd : Vals dvs ds) (hdd : ∀ F', RpA z.K z.ca F' dvs dds)
    (hg : Gl X x := by rfl) (hdb : (x == ("__debug__" : Str)) = false := by decide) : PD X z O EX (.Call (.Name x p) [] [] pos) (callD F dds nilA) := by
  refine ⟨_, pe_g0 (E := E0) G hr hg hm hk hb hd hdb, fun B P σ H ρ S Q hP rr hs => ?_⟩
  exact spF_of (E := E0) rr (hdd _) (by simpa [callD, nilA] using hs)
/-- a def that hands back a new list -/
def callN (F : List D → R (List D)) (dds : List D) (fa : FA) : FA := fun ρ S => fa ρ S >>= fun x => noX (F (x.1 ++ dds)) >>= fun d => R.ok (d, x.2)
theorem pf_call {F : List D → R (List D)} (G : FnG X.prog X.w X.K X.mg X.base k fA fd ps (spN z.K z.ca z.tb F)) (hr : Rm k X.A) (hm : X.mg x = some (.ref fA)) (hk : PySem.W.keepIn X.K (.ref fA) = true) (hb : Binds X.K fd ps ds) (hd : Vals dvs ds) (hdd : ∀ F', RpA z.K z.ca F' dvs dds)
    (ha : PAd X z O EX (e :: es) fa) (hg : Gl X x := by rfl) (hdb : (x == ("__debug__" : Str)) = false := by decide) (he : starEach (e :: es) X.env = (false, eval e X.env) :: starEach es X.env := by rfl) (hpl : (backTo pos (starEach es X.env)).any (·.1) = false := by rfl) :
    PF X z O EX (.Call (.Name x p) (e :: es) [] pos) (callN F dds fa) := by
  obtain ⟨t, pt, q⟩ := ha.ex
  refine ⟨_, pe_g (E := E0) G hr hg hm hk hb hd pt hdb he hpl, fun B P σ H ρ S Q hP rr hs => ?_⟩
  refine q B P σ H ρ S _ hP rr ((sat_bind.mp hs).imp fun w hw vs H1 g1 r1 hv => ?_)
  refine ⟨w.1 ++ dds, z.L B P, r1.nd, fun b hb => r1.lt hb, r1.tin, hv.append (hdd _), ?_⟩
  refine (sat_noX (sat_bind.mp hw)).imp fun d hd p xs H' hp e' tt hp' hxs => ?_
  have r9 := r1.growT e' tt
  have hn := r1.fresh hp
  have pm : List.Perm (z.L (p :: B) P) (p :: z.L B P) := by
    unfold Z.L
    rw [← List.append_assoc, ← List.append_assoc]
    exact List.perm_middle
  have ef : Frz H' (z.L (p :: B) P) = Frz H' (p :: z.L B P) := frz_congr fun a => pm.mem_iff
  have m : Ex (Frz H1 (z.L B P)) (Frz H' (z.L (p :: B) P)) := fun a u h => by
    rw [ef]
    have ha := frz_ex _ _ _ _ h
    have hl : a ∉ z.L B P := fun q => by
      unfold Frz at h
      rw [if_pos q] at h
      cases h
    refine frz_of (e' a u (fun q => hl (r1.tin.sub a q)) ha) fun q => ?_
    rcases List.mem_cons.mp q with q | q
    · rw [q, hp] at ha; cases ha
    · exact hl q
  refine hd p xs H' (g1.trans e'.grow) hp' (h0_none r1 hp (not_pls hn)) (g1.none (not_pls hn) hp) ⟨fun i d n h => ?_, fun q hq => ?_, fun i a e => ?_, pm.symm.nodup (List.nodup_cons.mpr ⟨hn, r1.nd⟩), fun b hb => ?_, fun a u h n => r9.ex a u h n, r1.new, r1.len, tt, ⟨fun a ha => ⟨(r1.xt.1 a ha).1, List.mem_cons_of_mem _ (r1.xt.1 a ha).2⟩, r1.xt.2⟩⟩ (g1.frz.trans m) (ef ▸ hxs)
  · obtain ⟨v, e1, q⟩ := r1.val i d n h
    exact ⟨v, e1, q.mono m⟩
  · obtain ⟨e1, xs, ds, e2, e3, q⟩ := r1.own q hq
    obtain ⟨_, xs', ds', e2', e3', _⟩ := r9.own _ hq
    obtain ⟨_, xs2, ds2, e5, e6, q6⟩ := r1.own _ hq
    have nT : ∀ a, a ∈ tbs z.tb → a ∈ z.pls := fun a ha => by unfold Z.pls; exact List.mem_append_right _ ha
    rename_i q0 hq0 _ _
    have n0 := r1.nd
    unfold Z.L at n0
    exact ⟨e1, xs, ds, e' _ _ (fun h => (List.nodup_append.mp n0).2.2 _ (List.mem_map_of_mem hq) _ (List.mem_append_left _ (nT _ h)) rfl) e2, e3, q.mono m⟩
  · obtain ⟨e1, e0, xs, e2, q⟩ := r1.pool i a e
    have n0 := r1.nd
    unfold Z.L Z.pls at n0
    exact ⟨e1, e0, xs, e' _ _ (fun h => (List.nodup_append.mp (List.nodup_append.mp (List.nodup_append.mp n0).2.1).1).2.2 a (by rw [e]; exact List.mem_cons_self) a h rfl) e2, q.mono m⟩
  · rcases List.mem_cons.mp hb with h | h
    · rw [h, hp']
      exact fun z => nomatch z
    · exact r9.there b h
/-- a def called with the in-out list first -/
def callP (F : List D → List D → R (D × List D)) (fa : FA) : FE := fun ρ S => fa ρ S >>= fun x => noX (F x.2 x.1)
theorem Z.pls_at {i : Nat} {p : Addr} (hz : z.pl = some (i, p)) : z.pls = p :: tbs z.tb := by
  unfold Z.pls
  rw [hz]
  rfl
theorem Rel.repool {i : Nat} {p : Addr} {xs : List V} (r : Rel z B P σ H ρ S) (hz : z.pl = some (i, p)) (e : ∀ a o, a ≠ p → a ∉ tbs z.tb → H a = some o → H' a = some o) (tt : LamX.Tabs z.tb H') (hp : H' p = some (z.sh xs)) (rp : RpA z.K z.ca (Frz H' (z.L B P)) xs S') : Rel z B P σ H' ρ S' ∧ Grow z H H' := by
  have hpls := Z.pls_at hz
  have g : Grow z H H' := fun a o n h => e a o (fun q => n (by rw [hpls, q]; exact List.mem_cons_self)) (fun q => n (by rw [hpls]; exact List.mem_cons_of_mem _ q)) h
  have nd := r.nd
  unfold Z.L at nd
  refine ⟨⟨fun i d n h => ?_, fun q hq => ?_, fun j a h => ?_, r.nd, fun b hb => ?_, fun a o h n => g a o n (r.ex a o h n), r.new, r.len, tt, r.xt⟩, g⟩
  · obtain ⟨v, e1, q⟩ := r.val i d n h
    exact ⟨v, e1, q.mono g.frz⟩
  · obtain ⟨e1, xs, ds, e2, e3, q'⟩ := r.own q hq
    have n : q.2 ∉ z.pls := fun h => (List.nodup_append.mp nd).2.2 q.2 (List.mem_map_of_mem hq) q.2 (List.mem_append_left _ h) rfl
    exact ⟨e1, xs, ds, g _ _ n e2, e3, q'.mono g.frz⟩
  · obtain ⟨e1, e0, _⟩ := r.pool j a h
    rw [hz] at h
    cases h
    exact ⟨e1, e0, xs, hp, rp⟩
  · have q := r.there b hb
    cases h : H b with
    | none => exact absurd h q
    | some u =>
      rw [g b u (fun q => (List.nodup_append.mp (List.nodup_append.mp nd).2.1).2.2 b q b hb rfl) h]
      exact fun z => nomatch z
theorem pd_callP (i : Nat) {y : Str} {py : Pos} {F : List D → List D → R (D × List D)} (hsh : z.sh = .lst) (hzi : ∃ a, z.pl = some (i, a)) (G : FnG X.prog X.w X.K X.mg X.base k fA fd ps (spP z.K z.ca z.tb F)) (hr : Rm k X.A) (hm : X.mg x = some (.ref fA)) (hk : PySem.W.keepIn X.K (.ref fA) = true) (hb : Binds X.K fd ps [])
    (ha : PAd X z O EX es fa) (hN : X.N[i]? = some y := by rfl) (hv : Vis X.env.scope y := by first | exact Or.inl rfl | exact Or.inr (Or.inl rfl) | exact Or.inr (Or.inr rfl))
    (hd : (y == ("__debug__" : Str)) = false := by decide) (hcd : (y == ("__classdict__" : Str)) = false := by decide)
    (hg : Gl X x := by rfl) (hdb : (x == ("__debug__" : Str)) = false := by decide) (he : starEach (.Name y py :: es) X.env = (false, eval (.Name y py) X.env) :: starEach es X.env := by rfl) (hpl : (backTo pos (starEach es X.env)).any (·.1) = false := by rfl) :
    PD X z O EX (.Call (.Name x p) (.Name y py :: es) [] pos) (callP F fa) := by
  obtain ⟨t, pt, q⟩ := ha.ex
  refine ⟨_, pe_g (E := E0) G hr hg hm hk hb .nil (pa_cons (pe_var hN hv hd hcd) pt he) hdb he hpl, fun B P σ H ρ S Q hP rr hs => ?_⟩
  obtain ⟨a, hz⟩ := hzi
  obtain ⟨e1, e0, xs0, e2, _⟩ := rr.pool i a hz
  refine ⟨_, e1, ?_⟩
  refine q B P σ H ρ S _ hP rr ((sat_bind.mp hs).imp fun w hw vs H1 g1 r1 hv => ?_)
  obtain ⟨_, _, xs, e2, q3⟩ := r1.pool i a hz
  rw [hsh] at e2
  have hpls := Z.pls_at hz
  have pm : List.Perm (z.L B P) (a :: (P.map (·.2) ++ (tbs z.tb ++ B))) := by
    unfold Z.L
    rw [hpls]
    exact List.perm_middle
  have ef : ∀ H2, Frz H2 (z.L B P) = Frz H2 (a :: (P.map (·.2) ++ (tbs z.tb ++ B))) := fun H2 => frz_congr fun b => pm.mem_iff
  refine ⟨a, vs, xs, w.2, w.1, P.map (·.2) ++ (tbs z.tb ++ B), by rw [List.append_nil], e2, pm.nodup r1.nd, fun b hb => r1.lt (pm.mem_iff.mpr (List.mem_cons_of_mem _ hb)), ⟨r1.tin.nd, fun b hb => List.mem_append_right _ (List.mem_append_left _ hb), r1.tabs⟩, ef H1 ▸ q3, ef H1 ▸ hv, ?_⟩
  refine (sat_noX hw).imp fun r hr v H' xs' e' tt hp' hxs hv' => ?_
  obtain ⟨r2, g2⟩ := r1.repool (S' := r.2) hz e' tt (by rw [hsh]; exact hp') (ef H' ▸ hxs)
  exact hr v H' (g1.trans g2) r2 (ef H' ▸ hv')
/-- a def called with a new list first, that nobody looks at behind it -/
def callPN (F : List D → List D → R (D × List D)) (fn : FA) : FE := fun ρ S => fn ρ S >>= fun x => noX (F x.1 []) >>= fun r => R.ok (r.1, x.2)
theorem pd_callPN {F : List D → List D → R (D × List D)} (G : FnG X.prog X.w X.K X.mg X.base k fA fd ps (spP z.K z.ca z.tb F)) (hr : Rm k X.A) (hm : X.mg x = some (.ref fA)) (hk : PySem.W.keepIn X.K (.ref fA) = true) (hb : Binds X.K fd ps [])
    (ha : PF X z O EX e fa) (hg : Gl X x := by rfl) (hdb : (x == ("__debug__" : Str)) = false := by decide) (he : starEach [e] X.env = (false, eval e X.env) :: starEach [] X.env := by rfl) (hpl : (backTo pos (starEach [] X.env)).any (·.1) = false := by rfl) :
    PD X z O EX (.Call (.Name x p) [e] [] pos) (callPN F fa) := by
  obtain ⟨t, pt, q⟩ := ha.ex
  refine ⟨_, pe_g (E := E0) G hr hg hm hk hb .nil (pa_cons pt pa_nil he) hdb he hpl, fun B P σ H ρ S Q hP rr hs => ?_⟩
  refine q B P σ H ρ S _ hP rr ((sat_bind.mp hs).imp fun w hw a xs H1 g1 e1 e0 en r1 m hv => ?_)
  have pm : List.Perm (z.L (a :: B) P) (a :: z.L B P) := by
    unfold Z.L
    rw [← List.append_assoc, ← List.append_assoc]
    exact List.perm_middle
  have ef : ∀ H2, Frz H2 (z.L (a :: B) P) = Frz H2 (a :: z.L B P) := fun H2 => frz_congr fun b => pm.mem_iff
  refine ⟨a, [], xs, w.1, [], z.L B P, by rfl, e1, pm.nodup r1.nd, fun b hb => r1.lt (pm.mem_iff.mpr (List.mem_cons_of_mem _ hb)), ⟨r1.tin.nd, fun b hb => by unfold Z.L Z.pls; exact List.mem_append_right _ (List.mem_append_left _ (List.mem_append_right _ hb)), r1.tabs⟩, ef H1 ▸ hv, .nil, ?_⟩
  refine (sat_noX (sat_bind.mp hw)).imp fun r hr v H' xs' e' tt hp' hxs hv' => ?_
  -- behind the call the list is as any other
  have r1s := r1.show1 e0
  have hna := r1s.2.2
  have nT : ∀ b, b ∉ z.pls → b ∉ tbs z.tb := fun b h q => h (by unfold Z.pls; exact List.mem_append_right _ q)
  have mm : Ex (Frz H1 (z.L (a :: B) P)) (Frz H' (z.L B P)) := fun b u h => by
    have hb := frz_ex _ _ _ _ h
    have nb : b ∉ z.L (a :: B) P := fun q => by
      unfold Frz at h
      rw [if_pos q] at h
      cases h
    have nba : b ≠ a := fun q => nb (pm.mem_iff.mpr (by rw [q]; exact List.mem_cons_self))
    exact frz_of (e' b u nba (nT b (not_pls nb)) hb) fun q => nb (pm.mem_iff.mpr (List.mem_cons_of_mem _ q))
  have n0 := r1.nd
  unfold Z.L at n0
  refine hr v H' (fun b u n h => e' b u (ne_of_none h en) (nT b n) (g1 b u n h)) ⟨fun i d n h => ?_, fun q hq => ?_, fun i c h => ?_, r1s.1.nd, fun b hb => ?_, fun b u h n => ?_, r1.new, r1.len, tt, r1s.1.xt⟩ (hv'.mono (frz_sub fun b hb => List.mem_cons_of_mem _ hb))
  · obtain ⟨v, e1, q⟩ := r1.val i d n h
    exact ⟨v, e1, q.mono mm⟩
  · obtain ⟨e1, xs, ds, e2, e3, q'⟩ := r1.own q hq
    have n : q.2 ≠ a := fun e9 => hna (by
      rw [← e9]
      unfold Z.L
      exact List.mem_append_left _ (List.mem_map_of_mem hq))
    exact ⟨e1, xs, ds, e' _ _ n (nT _ fun h => (List.nodup_append.mp n0).2.2 _ (List.mem_map_of_mem hq) _ (List.mem_append_left _ h) rfl) e2, e3, q'.mono mm⟩
  · obtain ⟨e1, e0, xs, e2, q'⟩ := r1.pool i c h
    have n : c ≠ a := fun e9 => hna (by
      rw [← e9]
      unfold Z.L Z.pls
      rw [h]
      exact List.mem_append_right _ (List.mem_append_left _ (List.mem_append_left _ List.mem_cons_self)))
    refine ⟨e1, e0, xs, e' _ _ n (fun q => ?_) e2, q'.mono mm⟩
    unfold Z.pls at n0
    exact (List.nodup_append.mp (List.nodup_append.mp (List.nodup_append.mp n0).2.1).1).2.2 c (by rw [h]; exact List.mem_cons_self) c q rfl
  · have q := r1s.1.there b hb
    have n : b ≠ a := fun e9 => hna (by
      rw [← e9]
      unfold Z.L
      exact List.mem_append_right _ (List.mem_append_right _ hb))
    cases h : H1 b with
    | none => exact absurd h q
    | some u =>
      rw [e' b u n (nT b fun z1 => (List.nodup_append.mp (List.nodup_append.mp n0).2.1).2.2 b z1 b (List.mem_cons_of_mem _ hb) rfl) h]
      exact fun z => nomatch z
  · have n' : b ≠ a := fun e9 => by
      rw [e9, e0] at h
      cases h
    exact e' b u n' (nT b n) (r1.ex b u h n)
end
end PL
set_option Elab.async false
set_option linter.all false
set_option maxRecDepth 100000
set_option maxHeartbeats 4000000
namespace PL
open PySem PySem.Spec PyProof.Rows L2
section
variable {X : Cx} {z : Z} {O OI OM OO OL : List Nat} {EX : EXT} {a b c e o : Expr} {es : List Expr} {f g h : FE} {fa ga fk : FA} {fs gs : FS} {pos p apos : Pos} {st : Stmt} {sts : List Stmt}
variable {B : List Addr} {P : List (Nat × Addr)} {σ σ' : L2.St} {H H' : Hp} {ρ ρ' : Env} {S S' : List D} {x m : Str}
variable {k : Nat} {fA C : Addr} {fd : FuncData} {ps ks : List Str} {ds : List Value} {dvs : List V} {dds : List D} {kws : List Keyword}
/-! ### keywords -/
theorem rpa_pick {K : PySem.W.Frag} {ca : Str → Option Addr} {F : Hp} {vs : List V} {es : List D} (r : RpA K ca F vs es) : ∀ ix : List Nat, RpA K ca F (pick ix vs) (pick ix es)
  | [] => .nil
  | i :: ix => by
    have ih := rpa_pick r ix
    unfold pick at ih ⊢
    rw [List.filterMap_cons, List.filterMap_cons]
    cases e : vs[i]? with
    | none =>
      have : es[i]? = none := by
        rw [List.getElem?_eq_none_iff] at e ⊢
        rw [← r.length]
        exact e
      rw [this]; exact ih
    | some v =>
      obtain ⟨u, e1, h⟩ := r.getV e
      rw [e1]
      exact .cons h ih
structure PKd (X : Cx) (z : Z) (O : List Nat) (EX : EXT) (kws : List Keyword) (f : FA) : Prop where
  ex : ∃ t, PK X kws t ∧ EvA z O EX t f
theorem pkd_nil : PKd X z O EX [] nilA := ⟨_, pk_nil, fun B P σ H ρ S Q hP rr hs => hs [] H Grow.refl rr .nil⟩
theorem pkd_cons {nm : Option Str} {kpos : Pos} (ha : PD X z O EX e f) (hr : PKd X z O EX kws fa) : PKd X z O EX (⟨nm, e, kpos⟩ :: kws) (consA f fa) := by
  obtain ⟨t, p, q⟩ := ha.ex
  obtain ⟨u, p2, q2⟩ := hr.ex
  refine ⟨_, pk_cons p p2, fun B P σ H ρ S Q hP rr hs => ?_⟩
  refine q B P σ H ρ S _ hP rr ((sat_bind.mp hs).imp fun x hx v H1 g1 r1 hv => ?_)
  refine q2 B P σ H1 ρ x.2 _ hP r1 ((sat_bind.mp hx).imp fun y hy vs H2 g2 r2 hvs => ?_)
  exact hy (v :: vs) H2 (g1.trans g2) r2 (.cons (hv.mono g2.frz) hvs)
def callKD (F : List D → R D) (n m : Nat) (ix : List Nat) (fa fk : FA) : FE := fun ρ S => fa ρ S >>= fun x => fk ρ x.2 >>= fun y => if x.1.length = n ∧ y.1.length = m then noX (F (pick ix (x.1 ++ y.1))) >>= fun d => R.ok (d, y.2) else R.bad
/-! ### instances -/
/-- an own class's __init__: the attributes' names nm, F gives their values -/
def spI (K : PySem.W.Frag) (ca : Str → Option Addr) (T : Tb) (C : Addr) (nm : List Str) (F : List D → R (List D)) : Sp := fun vs H Q _ => ∃ x dx ws ds B, vs = .ref x :: ws ∧ H x = some (.ins C dx []) ∧ (x :: B).Nodup ∧ (∀ b ∈ B, H b ≠ none) ∧ TIn T B H ∧ RpA K ca (Frz H (x :: B)) ws ds ∧
  Sat (F ds) (fun es => ∀ H' xs, (∀ a o, a ≠ x → a ∉ tbs T → H a = some o → H' a = some o) → LamX.Tabs T H' → H' x = some (.ins C dx (nm.zip xs)) → xs.length = nm.length → RpA K ca (Frz H' (x :: B)) xs es → Q .non H') EX0
def mkD (c : Str) (nm : List Str) (F : List D → R (List D)) (fa : FA) : FE := fun ρ S => fa ρ S >>= fun x => noX (F x.1) >>= fun es => R.ok (.ins c nm es, x.2)
theorem spI_of {cn : Str} {nm : List Str} {F : List D → R (List D)} {vs : List V} {xs : List D} {Q : VK} {E : XK} {xa dx : Addr} (hca : z.ca cn = some C) (r1 : Rel z B P σ H ρ S) (hv : RpA z.K z.ca (Frz H (z.L B P)) vs xs)
    (nx : H xa = none) (ndx : H dx = none) (nex : dx ≠ xa)
    (hs : Sat (noX (F xs) >>= fun es => R.ok (D.ins cn nm es, S)) (fun r => ∀ v H', Grow z H H' → Rel z B P σ H' ρ r.2 → Rp z.K z.ca (Frz H' (z.L B P)) v r.1 → Q v H') EX) :
    spI z.K z.ca z.tb C nm F (.ref xa :: vs) (upd (upd H dx (.own xa)) xa (.ins C dx [])) (fun v H2 => v = .non ∧ Q (.ref xa) H2) E := by
  have e1 : Ex H (upd (upd H dx (.own xa)) xa (.ins C dx [])) := fun a u h => by
    rw [upd_ne (ne_of_none h nx), upd_ne (ne_of_none h ndx)]
    exact h
  have hn := r1.fresh nx
  have m : Ex (Frz H (z.L B P)) (Frz (upd (upd H dx (.own xa)) xa (.ins C dx [])) (xa :: z.L B P)) := fun a u h => by
    have ha := frz_ex _ _ _ _ h
    refine frz_of (e1 a u ha) fun q => ?_
    rcases List.mem_cons.mp q with q | q
    · rw [q, nx] at ha; cases ha
    · unfold Frz at h
      rw [if_pos q] at h
      cases h
  have r9 := r1.grow e1
  refine ⟨xa, dx, vs, xs, z.L B P, rfl, upd_same, List.nodup_cons.mpr ⟨hn, r1.nd⟩, fun b hb => r9.lt hb, r9.tin, hv.mono m, ?_⟩
  refine (sat_noX (sat_bind.mp hs)).imp fun es hes H' ys e' tt hx hl hys => ⟨rfl, ?_⟩
  have e2 : GrT z.tb H H' := fun a u n h => e' a u (ne_of_none h nx) n (e1 a u h)
  have hnm : (nm.zip ys).map (·.1) = nm := List.map_fst_zip (by omega)
  have hys2 : (nm.zip ys).map (·.2) = ys := List.map_snd_zip (by omega)
  have := hes (.ref xa) H' e2.grow (r1.growT e2 tt)
  refine this ?_
  have q := Rp.ins (K := z.K) (F := Frz H' (z.L B P)) (c := cn) (frz_of hx hn) hca (by rw [hys2]; exact hys.mono (frz_sub fun a ha => List.mem_cons_of_mem _ ha))
  rw [hnm] at q
  exact q
theorem pick_cons {α : Type} (a : α) (l : List α) : ∀ ix : List Nat, pick (ix.map (· + 1)) (a :: l) = pick ix l
  | [] => rfl
  | i :: ix => by
    have ih := pick_cons a l ix
    unfold pick at ih ⊢
    rw [List.map_cons, List.filterMap_cons, List.filterMap_cons, List.getElem?_cons_succ, ih]
theorem pick_self {α : Type} (a : α) (l : List α) (ix : List Nat) : pick (0 :: ix.map (· + 1)) (a :: l) = a :: pick ix l := by
  have := pick_cons a l ix
  unfold pick at this ⊢
  rw [List.filterMap_cons, List.getElem?_cons_zero, this]
def mkI (c : Str) (nm : List Str) (F : List D → R (List D)) (n m : Nat) (ix : List Nat) (fa fk : FA) : FE := fun ρ S => fa ρ S >>= fun x => fk ρ x.2 >>= fun y => if x.1.length = n ∧ y.1.length = m then noX (F (pick ix (x.1 ++ y.1))) >>= fun es => R.ok (.ins c nm es, y.2) else R.bad
theorem pd_make {cn : Str} {nm : List Str} {F : List D → R (List D)} {n : Nat} {ix : List Nat} (hca : z.ca cn = some C) (M : Mk X.K C fA) (G : FnG X.prog X.w X.K X.mg X.base k fA fd ps (spI z.K z.ca z.tb C nm F)) (hr : Rm (k + 1) X.A) (hm : X.mg x = some (.ref C)) (hb : KBd X.K fd ps [] (n + 1) (0 :: ix.map (· + 1)))
    (ha : PAd X z O EX (e :: es) fa) (hg : Gl X x := by rfl) (hdb : (x == ("__debug__" : Str)) = false := by decide) (he : starEach (e :: es) X.env = (false, eval e X.env) :: starEach es X.env := by rfl) (hpl : (backTo pos (starEach es X.env)).any (·.1) = false := by rfl) :
    PD X z O EX (.Call (.Name x p) (e :: es) [] pos) (mkI cn nm F n 0 ix fa nilA) := by
  obtain ⟨t, pt, q⟩ := ha.ex
  refine ⟨_, pe_gmk (E := E0) M G hr hg hm hb pt hdb he hpl, fun B P σ H ρ S Q hP rr hs => ?_⟩
  refine q B P σ H ρ S _ hP rr ((sat_bind.mp hs).imp fun w hw vs H1 g1 r1 hv => ?_)
  have hw : Sat (if w.1.length = n ∧ ([] : List D).length = 0 then noX (F (pick ix (w.1 ++ []))) >>= fun es => R.ok (D.ins cn nm es, w.2) else R.bad) (fun r => ∀ v H', Grow z H H' → Rel z B P σ H' ρ r.2 → Rp z.K z.ca (Frz H' (z.L B P)) v r.1 → Q v H') EX := hw
  split at hw
  · rename_i l
    refine ⟨by rw [hv.length, l.1], rfl, fun xa dx nx ndx nex => ?_⟩
    rw [pick_self]
    exact spI_of hca r1 (rpa_pick (hv.append .nil) ix) nx ndx nex (hw.imp fun r hr v H' g' r' hv' => hr v H' (g1.trans g') r' hv')
  · exact hw.elim
/-- e.f, an attribute -/
def lookF : List Str → List D → Str → Option D
  | n :: ns, d :: ds, f => if n = f then some d else lookF ns ds f
  | _, _, _ => none
theorem look_rp {K : PySem.W.Frag} {ca : Str → Option Addr} {F : Hp} {f : Str} {d : D} : ∀ {fs : List (Str × V)} {ds : List D}, RpA K ca F (fs.map (·.2)) ds → lookF (fs.map (·.1)) ds f = some d → ∃ v, fs.lookup f = some v ∧ Rp K ca F v d
  | [], _, _, h => by simp [lookF] at h
  | (n, v) :: fs, [], r, h => by simp [lookF] at h
  | (n, v) :: fs, d' :: ds, r, h => by
    rw [List.map_cons] at r
    cases r with
    | cons h1 r1 =>
      rw [List.map_cons] at h
      unfold lookF at h
      dsimp only at h
      split at h
      · rename_i e
        cases h
        exact ⟨v, by rw [← e]; simp [List.lookup], h1⟩
      · rename_i e
        obtain ⟨u, e1, q⟩ := look_rp r1 h
        refine ⟨u, ?_, q⟩
        have : (f == n) = false := by simpa using Ne.symm e
        simp [List.lookup, this, e1]
def fldD (cn fn : Str) : D → Option D | .ins c ns vs => if c = cn then lookF ns vs fn else none | _ => none
theorem pd_fld (hK : X.K = z.K) {cn fn : Str} (hca : z.ca cn = some C) (cl : Cls z.K C) (na : NoAttr z.K C fn) (ha : PD X z O EX e f) (hb : attributeBase e fn X.env (eval e X.env) = eval e X.env := by rfl) : PD X z O EX (.Attribute e fn pos) (un1 (fldD cn fn) f) := by
  obtain ⟨t, pt, q⟩ := ha.ex
  refine ⟨_, pe_fld pt hb, fun B P σ H ρ S Q hP rr hs => ?_⟩
  refine q B P σ H ρ S _ hP rr ((sat_bind.mp hs).imp fun w hw v H1 g1 r1 hv => ?_)
  obtain ⟨d, hd, hq⟩ := sat_of (sat_bind.mp hw)
  rw [hK]
  obtain ⟨w1, w2⟩ := w
  cases w1 <;> simp only [fldD, reduceCtorEq] at hd
  split at hd
  · rename_i ec
    cases hv with
    | ins h c r =>
      rw [ec, hca] at c
      cases c
      obtain ⟨u, e1, qu⟩ := look_rp r hd
      exact ⟨_, _, _, _, u, rfl, frz_ex _ _ _ _ h, cl, na, e1, hq u H1 g1 r1 qu⟩
  · cases hd
/-- o.m(..) -/
def mthC (cn m : Str) (F : List D → R D) (dds : List D) (f : FE) (fa : FA) : FE := fun ρ S => f ρ S >>= fun x => match x.1 with
  | .ins c ns _ => if c = cn ∧ ns.contains m = false then fa ρ x.2 >>= fun y => noX (F (x.1 :: (y.1 ++ dds))) >>= fun d => R.ok (d, y.2) else R.bad
  | _ => R.bad
/-- e.f, a property -/
def propD (cn : Str) (F : List D → R D) (f : FE) : FE := fun ρ S => f ρ S >>= fun x => match x.1 with
  | .ins c _ _ => if c = cn then noX (F [x.1]) >>= fun d => R.ok (d, x.2) else R.bad
  | _ => R.bad
theorem pd_prop {cn fn : Str} {pA : Addr} {F : List D → R D} (hca : z.ca cn = some C) (cl : Cls X.K C) (hp : PropOf X.K C fn pA fA) (G : FnG X.prog X.w X.K X.mg X.base k fA fd ps (spF z.K z.ca z.tb F)) (hr : Rm (k + 1) X.A) (hb : Binds X.K fd ps [])
    (ha : PD X z O EX e f) (hab : attributeBase e fn X.env (eval e X.env) = eval e X.env := by rfl) : PD X z O EX (.Attribute e fn pos) (propD cn F f) := by
  obtain ⟨t, pt, q⟩ := ha.ex
  refine ⟨_, pe_gp (E := E0) pt cl hp G hr hb hab, fun B P σ H ρ S Q hP rr hs => ?_⟩
  refine q B P σ H ρ S _ hP rr ((sat_bind.mp hs).imp fun w hw v H1 g1 r1 hv => ?_)
  obtain ⟨w1, w2⟩ := w
  cases w1 with
  | ins c ns vs =>
    dsimp only at hw
    split at hw
    · rename_i ec
      cases hv with
      | ins h c r =>
        have c' := c
        rw [ec, hca] at c'
        cases c'
        exact ⟨_, _, _, rfl, frz_ex _ _ _ _ h, spF_of r1 (.cons (.ins h c r) .nil) (hw.imp fun r hr v H' g' r' hv' => hr v H' (g1.trans g') r' hv')⟩
    · exact hw.elim
  | _ => exact hw.elim
end
/-! ### defs that change their first argument; that hand back a new list -/
section
variable {Pg : Program} {w : World} {K : PySem.W.Frag} {mg : Str → Option Value} {base : Heap} {ca : Str → Option Addr} {T : Tb}
def startP (n : Nat) (ds : List D) : Env := none :: startE (n - 1) ds
def endP (r : Ctl × Env × List D) : R (D × List D) := match r.1 with | .rt d => R.ok (d, r.2.2) | .nx => R.ok (.non, r.2.2) | _ => R.bad
def runP (n k : Nat) (fs : FS) : List D → List D → R (D × List D) := fun S ds => if ds.length + 1 = k then fs (startP n ds) S >>= endP else R.bad
theorem besideP_iff {B : List Addr} {H : Hp} {sh : List V → HO} {p : Addr} (s : ∀ a ∈ tbs T, a ∈ B) (a : Addr) : a ∈ Z.L ⟨K, ca, H, some (0, p), sh, T, [], [], []⟩ (beside T B) [] ↔ a ∈ p :: B := by
  show a ∈ ([] : List Addr) ++ (([p] ++ tbs T) ++ beside T B) ↔ _
  rw [List.nil_append, List.append_assoc, List.singleton_append, List.mem_cons, List.mem_cons, beside_iff s]
theorem besideP_nd {B : List Addr} {p : Addr} (hB : (p :: B).Nodup) (s : ∀ a ∈ tbs T, a ∈ B) (t : (tbs T).Nodup) : (([] : List Addr) ++ (([p] ++ tbs T) ++ beside T B)).Nodup := by
  rw [List.nil_append, List.append_assoc, List.singleton_append, List.nodup_cons]
  rw [List.nodup_cons] at hB
  exact ⟨fun h => hB.1 ((beside_iff s p).mp h), beside_nd hB.2 t⟩
theorem rel_startP {N : List Str} {p : Addr} {ws xs : List V} {ds S : List D} {H : Hp} {B : List Addr} {sh : List V → HO} (hN : 0 < N.length) (hp : H p = some (sh xs)) (hB : (p :: B).Nodup) (hb : ∀ b ∈ B, H b ≠ none) (ti : TIn T B H) (hxs : RpA K ca (Frz H (p :: B)) xs S) (hv : RpA K ca (Frz H (p :: B)) ws ds) :
    Rel ⟨K, ca, H, some (0, p), sh, T, [], [], []⟩ (beside T B) [] (L2.start N (.ref p :: ws)) H (startP N.length ds) S where
  val := fun i d _ h => by
    have hl := hv.length
    unfold startP startE at h
    unfold L2.start
    cases i with
    | zero => simp at h
    | succ i =>
      rw [List.getElem?_cons_succ] at h
      by_cases hi : i < ds.length
      · rw [List.getElem?_append_left (by simpa using hi), List.getElem?_map] at h
        cases e : ds[i]? with
        | none => rw [e] at h; cases h
        | some d' =>
          rw [e] at h
          cases h
          obtain ⟨v, e1, q⟩ := hv.get e
          have ef : Frz H (Z.L ⟨K, ca, H, some (0, p), sh, T, [], [], []⟩ (beside T B) []) = Frz H (p :: B) := frz_congr fun a => besideP_iff ti.sub a
          exact ⟨v, by rw [List.getElem?_append_left (by simp; omega), List.getElem?_map, List.getElem?_cons_succ, e1]; rfl, ef ▸ q⟩
      · rw [List.getElem?_append_right (by simp; omega)] at h
        have := List.mem_of_getElem? h
        rw [List.mem_replicate] at this
        cases this.2
  own := fun p hp => nomatch hp
  pool := fun i a h => by
    cases h
    have ef : Frz H (Z.L ⟨K, ca, H, some (0, p), sh, T, [], [], []⟩ (beside T B) []) = Frz H (p :: B) := frz_congr fun a => besideP_iff ti.sub a
    refine ⟨?_, rfl, xs, hp, ef ▸ hxs⟩
    unfold L2.start
    rfl
  nd := besideP_nd hB ti.sub ti.nd
  there := fun b hb' => hb b (beside_mem.mp hb').1
  ex := fun a o h _ => h
  new := fun p hp => nomatch hp
  len := by
    unfold L2.start startP startE
    simp only [List.length_append, List.length_map, List.length_cons, List.length_replicate, hv.length]
    omega
  tabs := ti.tabs
  xt := ⟨fun _ h => (nomatch h), fun _ h => (nomatch h)⟩
theorem fn_p {x qual : Str} {st : Stmt} {fA : Addr} {fd : FuncData} {N ps : List Str} {k : Nat} {fs : FS} {OO : List Nat} (F : Fun K x qual st fA fd) (Sc : FnScope N ps (defScope st)) (hN : 0 < N.length)
    (body : ∀ (cdv : Value) (A : Around) (outer : List PySem.Env) (s : Shared) (H : Hp) (E : XK) (p : Addr), Rm k (A.deeper (envOfC qual (defScope st) s.heap.objs.size fA cdv)) →
      PSS (cxOf CX0 Pg w K mg base N qual (defScope st) fA cdv A outer s H E).nox ⟨K, ca, H, some (0, p), .lst, T, [], [], []⟩ [] OO [] EX0 (defBody st) fs) :
    FnG Pg w K mg base (k + 1) fA fd ps (spP K ca T (runP N.length ps.length fs)) := by
  refine fn_body F Sc (fun vs H Q E h => ?_) (fun cdv A outer s H vs Q E hr hgu h => ?_)
  · obtain ⟨p, ws, xs, S, ds, B, rfl, _, _, _, _, _, hv, hs⟩ := h
    unfold runP at hs
    split at hs
    · rw [List.length_cons, hv.length]; assumption
    · exact hs.elim
  · obtain ⟨p, ws, xs, S, ds, B, rfl, hp, hB, hb, ti, hxs, hv, hs⟩ := h
    obtain ⟨t, pt, q⟩ := (body cdv A outer s H E p ⟨hr, hgu⟩).ex
    refine ⟨t, pt, ?_⟩
    unfold runP at hs
    split at hs
    · have ef : ∀ H', Frz H' (([p] ++ tbs T) ++ beside T B) = Frz H' (p :: B) := fun H' => frz_congr fun a => besideP_iff (K := K) (ca := ca) (H := H') (sh := .lst) ti.sub a
      refine q (beside T B) [] (L2.start N (.ref p :: ws)) H (startP N.length ds) S _ rfl (rel_startP hN hp hB hb ti hxs hv) ((sat_bind.mp hs).imp fun r hr => ?_)
      obtain ⟨c, ρ1, S1⟩ := r
      cases c with
      | nx =>
        intro P' σ' H' h1 h2 h3
        have hr : ∀ v H' xs', (∀ a o, a ≠ p → a ∉ tbs T → H a = some o → H' a = some o) → LamX.Tabs T H' → H' p = some (.lst xs') → RpA K ca (Frz H' (p :: B)) xs' S1 → Rp K ca (Frz H' (p :: B)) v .non → Q v H' := hr
        have hf := h3.fin (v := .non) (d := .non) .non
        obtain ⟨xs', e1, q1⟩ := hf.pool 0 p rfl
        exact hr .non H' xs' (fun a o n n2 e => hf.ex a o e (by simpa [Z.pls] using ⟨n, n2⟩)) hf.tabs e1 (ef H' ▸ q1) .non
      | rt d =>
        intro v H' hf
        have hr : ∀ v H' xs', (∀ a o, a ≠ p → a ∉ tbs T → H a = some o → H' a = some o) → LamX.Tabs T H' → H' p = some (.lst xs') → RpA K ca (Frz H' (p :: B)) xs' S1 → Rp K ca (Frz H' (p :: B)) v d → Q v H' := hr
        obtain ⟨xs', e1, q1⟩ := hf.pool 0 p rfl
        exact hr v H' xs' (fun a o n n2 e => hf.ex a o e (by simpa [Z.pls] using ⟨n, n2⟩)) hf.tabs e1 (ef H' ▸ q1) (ef H' ▸ hf.val)
      | bk => exact hr.elim
      | ct => exact hr.elim
    · exact hs.elim
/-! a def that hands back a new list -/
def EvN (z : Z) (O : List Nat) (EX : EXT) (t : TS) (f : FA) : Prop :=
  ∀ B P σ H ρ S D', P.map (·.1) = O → Rel z B P σ H ρ S →
    Sat (f ρ S) (fun r => ∀ p xs H', z.H0 p = none → (∀ a o, z.H0 a = some o → a ∉ z.pls → H' a = some o) → LamX.Tabs z.tb H' → H' p = some (.lst xs) → RpA z.K z.ca (Frz H' (p :: (z.pls ++ B))) xs r.1 → D'.rt (.ref p) H') EX → t D' σ H
structure PSN (X : Cx) (z : Z) (O : List Nat) (EX : EXT) (s : List Stmt) (f : FA) : Prop where
  ex : ∃ t, PSs X s t ∧ EvN z O EX t f
theorem psn_ret {X : Cx} {z : Z} {O : List Nat} {EX : EXT} {e : Expr} {fa : FA} {pos : Pos} (ha : PF X z O EX e fa) : PSN X z O EX [.Return (some e) pos] fa := by
  obtain ⟨t, p, q⟩ := ha.ex
  refine ⟨_, pss_one (ps_ret p), fun B P σ H ρ S D' hP rr hs => ?_⟩
  refine q B P σ H ρ S _ hP rr (hs.imp fun x hx p xs H' g e1 e0 en r m hv => ?_)
  refine hx p xs H' e0 r.ex r.tabs e1 (hv.mono (frz_sub fun a ha => ?_))
  unfold Z.L
  rcases List.mem_cons.mp ha with h | h
  · exact List.mem_append_right _ (List.mem_append_right _ (by rw [h]; exact List.mem_cons_self))
  · rcases List.mem_append.mp h with h | h
    · exact List.mem_append_right _ (List.mem_append_left _ h)
    · exact List.mem_append_right _ (List.mem_append_right _ (List.mem_cons_of_mem _ h))
def seqN (fs : FS) (fa : FA) : FA := fun ρ S => fs ρ S >>= fun r => match r.1 with | .nx => fa r.2.1 r.2.2 | _ => R.bad
theorem psn_cons {X : Cx} {z : Z} {OI OM : List Nat} {EX : EXT} {st : Stmt} {sts : List Stmt} {fs : FS} {fa : FA} (h1 : PSd X z OI OM [] EX st fs) (h2 : PSN X z OM EX sts fa) : PSN X z OI EX (st :: sts) (seqN fs fa) := by
  obtain ⟨t, p, q⟩ := h1.ex
  obtain ⟨u, p2, q2⟩ := h2.ex
  refine ⟨_, pss_cons p p2, fun B P σ H ρ S D' hP rr hs => ?_⟩
  refine q B P σ H ρ S _ hP rr ((sat_bind.mp hs).imp fun r hr => ?_)
  obtain ⟨c, ρ1, S1⟩ := r
  cases c with
  | nx => exact fun P' σ' H' h1 h2 h3 => q2 B P' σ' H' ρ1 S1 D' h1 h3 hr
  | bk => exact hr.elim
  | ct => exact hr.elim
  | rt d => exact hr.elim
def runN (n k : Nat) (fa : FA) : List D → R (List D) := fun ds => if ds.length = k then fa (startE n ds) [] >>= fun r => R.ok r.1 else R.bad
theorem fn_n {x qual : Str} {st : Stmt} {fA : Addr} {fd : FuncData} {N ps : List Str} {k : Nat} {fa : FA} (F : Fun K x qual st fA fd) (Sc : FnScope N ps (defScope st))
    (body : ∀ (cdv : Value) (A : Around) (outer : List PySem.Env) (s : Shared) (H : Hp) (E : XK), Rm k (A.deeper (envOfC qual (defScope st) s.heap.objs.size fA cdv)) →
      PSN (cxOf CX0 Pg w K mg base N qual (defScope st) fA cdv A outer s H E).nox ⟨K, ca, H, none, .lst, T, [], [], []⟩ [] EX0 (defBody st) fa) :
    FnG Pg w K mg base (k + 1) fA fd ps (spN K ca T (runN N.length ps.length fa)) := by
  refine fn_body F Sc (fun vs H Q E h => ?_) (fun cdv A outer s H vs Q E hr hgu h => ?_)
  · obtain ⟨ds, B, _, _, _, hv, hs⟩ := h
    rw [hv.length]
    unfold runN at hs
    split at hs
    · assumption
    · exact hs.elim
  · obtain ⟨ds, B, hB, hb, ti, hv, hs⟩ := h
    obtain ⟨t, p, q⟩ := (body cdv A outer s H E ⟨hr, hgu⟩).ex
    refine ⟨t, p, ?_⟩
    unfold runN at hs
    split at hs
    · refine q (beside T B) [] (L2.start N vs) H (startE N.length ds) [] _ rfl (rel_start hB hb ti hv) ((sat_bind.mp hs).imp fun r hr p xs H' e0 ee tt e1 hxs => ?_)
      have ef : Frz H' (p :: (([] ++ tbs T) ++ beside T B)) = Frz H' (p :: B) := frz_congr fun a => by
        rw [List.mem_cons, List.mem_cons, List.nil_append, beside_iff ti.sub]
      exact hr p xs H' e0 (fun a o n e => ee a o e n) tt e1 (ef ▸ hxs)
    · exact hs.elim
/-! an own class's __init__ -/
theorem putF_zip {nm : List Str} {f : Str} {y : V} : ∀ {nm : List Str} {xs : List V}, nm[xs.length]? = some f → (nm.take xs.length).contains f = false → putF f y (nm.zip xs) = nm.zip (xs ++ [y])
  | [], [], h, _ => by simp at h
  | n :: nm, [], h, _ => by
    simp only [List.length_nil, List.getElem?_cons_zero, Option.some.injEq] at h
    subst h
    simp [putF]
  | [], x :: xs, h, _ => by simp at h
  | n :: nm, x :: xs, h, hc => by
    simp only [List.length_cons, List.getElem?_cons_succ] at h
    simp only [List.length_cons, List.take_succ_cons, List.contains_cons, Bool.or_eq_false_iff] at hc
    have ne : n ≠ f := fun e => by rw [e] at hc; simp at hc
    rw [List.cons_append, List.zip_cons_cons, List.zip_cons_cons]
    unfold putF
    rw [if_neg ne, putF_zip (nm := nm) h hc.2]
def slfS (nm : List Str) (fn : Str) (f : FE) : FS := fun ρ S => f ρ S >>= fun x => if nm[x.2.length]? = some fn ∧ (nm.take x.2.length).contains fn = false ∧ x.2.length < 999 then R.ok (.nx, ρ, x.2 ++ [x.1]) else R.bad
/-- self.f = e within __init__ -/
theorem psd_slf {X : Cx} {z : Z} {O OL : List Nat} {EX : EXT} {C dx : Addr} {nm : List Str} {fn sx : Str} {e : Expr} {f : FE} {pos p0 p1 : Pos} (i : Nat) (hK : X.K = z.K) (hzi : ∃ a, z.pl = some (i, a)) (hsh : z.sh = fun xs => .ins C dx (nm.zip xs)) (cl : Cls z.K C) (na : NoAttr z.K C fn) (he : PD X z O EX e f)
    (hN : X.N[i]? = some sx := by rfl) (hv : Vis X.env.scope sx := by first | exact Or.inl rfl | exact Or.inr (Or.inl rfl) | exact Or.inr (Or.inr rfl)) (hd : (sx == ("__debug__" : Str)) = false := by decide) (hcd : (sx == ("__classdict__" : Str)) = false := by decide)
    (hs : swapsWith e (some (.Attribute (.Name sx p0) fn p1)) pos.line X.env = pure false := by rfl) : PSd X z O O OL EX (.Assign [.Attribute (.Name sx p0) fn p1] e pos) (slfS nm fn f) := by
  obtain ⟨t, p, q⟩ := he.ex
  refine ⟨_, ps_fld (pe_var hN hv hd hcd) p hs, fun B P σ H ρ S D' hP rr hs => ?_⟩
  refine q B P σ H ρ S _ hP rr ((sat_bind.mp hs).imp fun w hw v H1 g1 r1 hv => ?_)
  split at hw
  · rename_i l
    obtain ⟨a, hz⟩ := hzi
    obtain ⟨e1, e0, xs, e2, q3⟩ := r1.pool i a hz
    rw [hsh] at e2
    have hl := q3.length
    refine ⟨_, e1, a, C, dx, _, rfl, e2, hK ▸ cl, hK ▸ na, ?_, ?_⟩
    · rw [List.length_zip]
      omega
    · rw [putF_zip (nm := nm) (by rw [hl]; exact l.1) (by rw [hl]; exact l.2.1)]
      have ef : Frz (upd H1 a (.ins C dx (nm.zip (xs ++ [v])))) (z.L B P) = Frz H1 (z.L B P) := by
        funext b
        unfold Frz
        by_cases hb : b ∈ z.L B P
        · rw [if_pos hb, if_pos hb]
        · rw [if_neg hb, if_neg hb, upd_ne fun (e9 : b = a) => hb (by
            rw [e9]
            unfold Z.L Z.pls
            rw [hz]
            exact List.mem_append_right _ (List.mem_append_left _ (List.mem_append_left _ List.mem_cons_self)))]
      obtain ⟨r4, g4⟩ := r1.repool (H' := upd H1 a (.ins C dx (nm.zip (xs ++ [v])))) (xs := xs ++ [v]) (S' := w.2 ++ [w.1]) hz (fun b o n _ h => by rw [upd_ne n]; exact h) (tabs_upd r1.tabs e2 (fun _ z => nomatch z) (fun _ z => nomatch z)) (by rw [hsh]; exact upd_same) (by rw [ef]; exact q3.append (.cons hv .nil))
      exact hw P σ _ hP (g1.trans g4).frz r4
  · exact hw.elim
def runI (nm : List Str) (n k : Nat) (fs : FS) : List D → R (List D) := fun ds => if ds.length + 1 = k then fs (startP n ds) [] >>= fun r => match r.1 with | .nx => if r.2.2.length = nm.length then R.ok r.2.2 else R.bad | _ => R.bad else R.bad
end
end PL
set_option Elab.async false
set_option linter.all false
set_option maxRecDepth 100000
set_option maxHeartbeats 4000000
namespace PL
open PySem PySem.Spec PyProof.Rows L2
section
variable {X : Cx} {z : Z} {O OI OM OO OL : List Nat} {EX : EXT} {a b c e o : Expr} {es : List Expr} {f g h : FE} {fa ga fk : FA} {fs gs : FS} {pos p apos : Pos} {st : Stmt} {sts : List Stmt}
/-! ### the in-out list read and stored -/
def poolE (k : Int) : FE := fun _ S => R.of (L2.atI S k) >>= fun d => R.ok (d, S)
theorem pd_pool (i : Nat) (hK : X.K = z.K) (hsh : z.sh = .lst) (hzi : ∃ a, z.pl = some (i, a)) {y : Str} {py pk : Pos} {k : Int} {j : Nat} (hN : X.N[i]? = some y := by rfl) (hv : Vis X.env.scope y := by first | exact Or.inl rfl | exact Or.inr (Or.inl rfl) | exact Or.inr (Or.inr rfl))
    (hd : (y == ("__debug__" : Str)) = false := by decide) (hcd : (y == ("__classdict__" : Str)) = false := by decide) (hx : PlainIx (.Constant (.int k) j pk) := by exact fun _ _ => rfl) : PD X z O EX (.Subscript (.Name y py) (.Constant (.int k) j pk) pos) (poolE k) := by
  refine ⟨_, pe_ix ix_list (pe_var hN hv hd hcd) pe_int hx, fun B P σ H ρ S Q hP rr hs => ?_⟩
  obtain ⟨ad, hz⟩ := hzi
  obtain ⟨e1, e0, xs, e2, q3⟩ := rr.pool i ad hz
  rw [hsh] at e2
  obtain ⟨d, hd, hq⟩ := sat_of (sat_bind.mp hs)
  obtain ⟨v, hv, r⟩ := q3.atI hd
  exact ⟨_, e1, ad, xs, k, v, rfl, rfl, hK ▸ SqL.of e2, hv, hq v H Grow.refl rr r⟩
theorem Rel.pput {B : List Addr} {P : List (Nat × Addr)} {σ : L2.St} {H : Hp} {ρ : Env} {S S' : List D} {i : Nat} {ad : Addr} {xs : List V} (r : Rel z B P σ H ρ S) (hz : z.pl = some (i, ad)) (hsh : z.sh = .lst) (rp : RpA z.K z.ca (Frz H (z.L B P)) xs S') :
    Rel z B P σ (upd H ad (.lst xs)) ρ S' ∧ Grow z H (upd H ad (.lst xs)) := by
  have hm : ad ∈ z.L B P := by
    unfold Z.L Z.pls
    rw [hz]
    exact List.mem_append_right _ (List.mem_append_left _ (List.mem_append_left _ List.mem_cons_self))
  have ef : Frz (upd H ad (.lst xs)) (z.L B P) = Frz H (z.L B P) := by
    funext b
    unfold Frz
    by_cases hb : b ∈ z.L B P
    · rw [if_pos hb, if_pos hb]
    · rw [if_neg hb, if_neg hb, upd_ne fun (e9 : b = ad) => hb (by rw [e9]; exact hm)]
  obtain ⟨_, _, ys, ey, _⟩ := r.pool i ad hz
  rw [hsh] at ey
  exact r.repool (xs := xs) hz (fun b o n _ h => by rw [upd_ne n]; exact h) (tabs_upd r.tabs ey (fun _ z => nomatch z) (fun _ z => nomatch z)) (by rw [hsh]; exact upd_same) (by rw [ef]; exact rp)
def poolG (k : Int) : FG := fun d ρ S => match ixN S.length k with | some j => R.ok (ρ, S.set j d) | none => R.bad
theorem pgd_pool (i : Nat) (hsh : z.sh = .lst) (hzi : ∃ a, z.pl = some (i, a)) {y : Str} {py pk : Pos} {k : Int} {j : Nat} (hN : X.N[i]? = some y := by rfl) (hv : Vis X.env.scope y := by first | exact Or.inl rfl | exact Or.inr (Or.inl rfl) | exact Or.inr (Or.inr rfl))
    (hd : (y == ("__debug__" : Str)) = false := by decide) (hcd : (y == ("__classdict__" : Str)) = false := by decide)
    (ha : ∀ v, assign (.Subscript (.Name y py) (.Constant (.int k) j pk) pos) X.env v = (do
      let ov ← holding [v] (eval (.Name y py) X.env)
      let iv ← holding [v, ov] (eval (.Constant (.int k) j pk) X.env)
      standAt pos
      holding [v, ov, iv] (setItem ov iv v)
      release [v, ov, iv] []) := by intro _; rfl) : PGd X z O EX [] (.Subscript (.Name y py) (.Constant (.int k) j pk) pos) (poolG k) := by
  refine ⟨_, pg_sub (pe_var hN hv hd hcd) pe_int set_list ha, fun B P σ H ρ S v d Q hP rr hv hs => ?_⟩
  obtain ⟨ad, hz⟩ := hzi
  obtain ⟨e1, e0, xs, e2, q3⟩ := rr.pool i ad hz
  rw [hsh] at e2
  unfold poolG at hs
  split at hs
  · rename_i j' hj
    refine ⟨_, e1, ad, xs, k, j', rfl, rfl, e2, by rw [q3.length]; exact hj, ?_⟩
    obtain ⟨r2, g2⟩ := rr.pput hz hsh (RpA.set hv j' q3)
    exact hs σ _ g2 r2 rfl fun _ _ => rfl
  · exact hs.elim
/-! ### built-in functions -/
section
variable {K : PySem.W.Frag} {ca : Str → Option Addr}
def lenD : List D → Option D | [.lst ds] => some (.int (ds.length : Nat)) | [.tup ds] => some (.int (ds.length : Nat)) | [.scr ns] => some (.int (ns.length : Nat)) | [.str y] => if y.length ≤ LINE then some (.int (y.length : Nat)) else none | _ => none
def rLen (K : PySem.W.Frag) : List V → Hp → VK → Prop := fun xs H Q => ∃ x n, xs = [x] ∧ LenV K x H n ∧ Q (.int n) H
theorem callD_len : CallD K ca (rLen K) lenD := by
  intro H L N vs ds d Q fr hv e hq
  unfold lenD at e
  split at e
  · cases e
    cases hv with
    | cons h r =>
      cases r
      obtain ⟨a, xs, rfl, h1, r1⟩ := h.lst
      exact ⟨_, _, rfl, .inl ⟨xs, SqL.of h1, r1.length.symm⟩, hq _ H (Ex.refl H) (.int _)⟩
  · cases e
    cases hv with
    | cons h r =>
      cases r
      obtain ⟨a, xs, rfl, h1, r1⟩ := h.tup
      exact ⟨_, _, rfl, .inr ⟨xs, ex_t (frz_ex _ _) h1, r1.length.symm⟩, hq _ H (Ex.refl H) (.int _)⟩
  · cases e
    cases hv with
    | cons h r =>
      cases r
      obtain ⟨a, rfl, h1⟩ := h.scr
      exact ⟨_, _, rfl, .inl ⟨_, ex_l (frz_ex _ _) h1, by rw [List.length_map]⟩, hq _ H (Ex.refl H) (.int _)⟩
  · split at e
    · rename_i w
      cases e
      cases hv with
      | cons h r =>
        cases r
        cases h.str
        exact ⟨_, _, rfl, ⟨line_le w, rfl⟩, hq _ H (Ex.refl H) (.int _)⟩
    · cases e
  · cases e
theorem pd_len (hK : X.K = z.K) (hm : X.mg "len" = none) (ha : PBA X z O EX [e] fa) (hg : Gl X "len" := by rfl) (he : starEach [e] X.env = (false, eval e X.env) :: starEach [] X.env := by rfl) (hpl : (backTo pos (starEach [] X.env)).any (·.1) = false := by rfl) :
    PD X z O EX (.Call (.Name "len" p) [e] [] pos) (callE lenD fa) := pd_callB (r := rLen z.K) (hK ▸ call_len) callD_len hm ha hg PySem.boot_len (by decide) (by decide) he hpl
/-- two ints in -/
theorem callD_int2 {r : List V → Hp → VK → Prop} {g : Int → Int → Int} (hr : ∀ i j H (Q : VK), Q (.int (g i j)) H → r [.int i, .int j] H Q) : CallD K ca r fun | [.int i, .int j] => some (.int (g i j)) | _ => none := by
  intro H L N vs ds d Q fr hv e hq
  dsimp only at e
  split at e
  · cases e
    cases hv with
    | cons h r =>
      cases r with
      | cons h2 r =>
        cases r
        cases h.int
        cases h2.int
        exact hr _ _ _ _ (hq _ H (Ex.refl H) (.int _))
  · cases e
def min2D : List D → Option D | [.int i, .int j] => some (.int (if j < i then j else i)) | _ => none
def max2D : List D → Option D | [.int i, .int j] => some (.int (if j > i then j else i)) | _ => none
theorem pd_min2 (hc : X.calm = true) (hm : X.mg "min" = none) (ha : PBA X z O EX [a, b] fa) (hg : Gl X "min" := by rfl) (he : starEach [a, b] X.env = (false, eval a X.env) :: starEach [b] X.env := by rfl) (hpl : (backTo pos (starEach [b] X.env)).any (·.1) = false := by rfl) :
    PD X z O EX (.Call (.Name "min" p) [a, b] [] pos) (callE min2D fa) := pd_callB (call_min2 hc) (callD_int2 fun i j H Q q => ⟨i, j, rfl, q⟩) hm ha hg (by decide +kernel) (by decide) (by decide) he hpl
theorem pd_max2 (hc : X.calm = true) (hm : X.mg "max" = none) (ha : PBA X z O EX [a, b] fa) (hg : Gl X "max" := by rfl) (he : starEach [a, b] X.env = (false, eval a X.env) :: starEach [b] X.env := by rfl) (hpl : (backTo pos (starEach [b] X.env)).any (·.1) = false := by rfl) :
    PD X z O EX (.Call (.Name "max" p) [a, b] [] pos) (callE max2D fa) := pd_callB (call_max2 hc) (callD_int2 fun i j H Q q => ⟨i, j, rfl, q⟩) hm ha hg (by decide +kernel) (by decide) (by decide) he hpl
/-- one int in -/
def absD : List D → Option D | [.int i] => some (.int (if i < 0 then -i else i)) | _ => none
def rAbs : List V → Hp → VK → Prop := fun xs H Q => ∃ i, xs = [.int i] ∧ Q (.int (if i < 0 then -i else i)) H
theorem callD_abs : CallD K ca rAbs absD := by
  intro H L N vs ds d Q fr hv e hq
  unfold absD at e
  split at e
  · cases e
    cases hv with
    | cons h r =>
      cases r
      cases h.int
      exact ⟨_, rfl, hq _ H (Ex.refl H) (.int _)⟩
  · cases e
theorem pd_abs (hm : X.mg "abs" = none) (ha : PBA X z O EX [e] fa) (hg : Gl X "abs" := by rfl) (he : starEach [e] X.env = (false, eval e X.env) :: starEach [] X.env := by rfl) (hpl : (backTo pos (starEach [] X.env)).any (·.1) = false := by rfl) :
    PD X z O EX (.Call (.Name "abs" p) [e] [] pos) (callE absD fa) := pd_callB (r := rAbs) call_abs callD_abs hm ha hg (by decide +kernel) (by decide) (by decide) he hpl
def strD : List D → Option D | [.int i] => if i.natAbs.log2 < 1920 then some (.str (toString i)) else none | _ => none
def rStrI : List V → Hp → VK → Prop := fun xs H Q => ∃ i : Int, xs = [.int i] ∧ i.natAbs.log2 < 1920 ∧ Q (.str (toString i)) H
theorem callD_str : CallD K ca rStrI strD := by
  intro H L N vs ds d Q fr hv e hq
  unfold strD at e
  split at e
  · split at e
    · rename_i w
      cases e
      cases hv with
      | cons h r =>
        cases r
        cases h.int
        exact ⟨_, rfl, w, hq _ H (Ex.refl H) (.str _)⟩
    · cases e
  · cases e
theorem pd_str1 (hm : X.mg "str" = none) (ha : PBA X z O EX [e] fa) (hg : Gl X "str" := by rfl) (he : starEach [e] X.env = (false, eval e X.env) :: starEach [] X.env := by rfl) (hpl : (backTo pos (starEach [] X.env)).any (·.1) = false := by rfl) :
    PD X z O EX (.Call (.Name "str" p) [e] [] pos) (callE strD fa) := pd_callTy (r := rStrI) call_str_int callD_str hm ha hg (by decide +kernel) (by decide) (by decide) he hpl
/-- tuple(x) -/
def tupD : List D → Option D | [.lst ds] => some (.tup ds) | [.tup ds] => some (.tup ds) | [.scr ns] => some (.tup (ns.map .int)) | _ => none
def rTupOf (K : PySem.W.Frag) : List V → Hp → VK → Prop := fun xs H Q => ∃ p ys, xs = [.ref p] ∧ ((SqL K H p ys ∧ ∀ l, H l = none → Q (.ref l) (upd H l (.tup ys))) ∨ (SqT K H p ys ∧ Q (.ref p) H))
theorem callD_tuple : CallD K ca (rTupOf K) tupD := by
  intro H L N vs ds d Q fr hv e hq
  unfold tupD at e
  split at e
  · cases e
    cases hv with
    | cons h r =>
      cases r
      obtain ⟨a, xs, rfl, h1, r1⟩ := h.lst
      exact ⟨a, xs, rfl, .inl ⟨SqL.of h1, fun l hl => hq _ _ (Ex.new hl) (new_tup hl (fr l hl) r1)⟩⟩
  · cases e
    cases hv with
    | cons h r =>
      cases r
      obtain ⟨a, xs, rfl, h1, r1⟩ := h.tup
      exact ⟨a, xs, rfl, .inr ⟨ex_t (frz_ex _ _) h1, hq _ H (Ex.refl H) (.tup h1 r1)⟩⟩
  · cases e
    cases hv with
    | cons h r =>
      cases r
      obtain ⟨a, rfl, h1⟩ := h.scr
      exact ⟨a, _, rfl, .inl ⟨ex_l (frz_ex _ _) h1, fun l hl => hq _ _ (Ex.new hl) (new_tup hl (fr l hl) (RpA.ofInts _))⟩⟩
  · cases e
theorem pd_tuple (hK : X.K = z.K) (hm : X.mg "tuple" = none) (ha : PBA X z O EX [e] fa) (hg : Gl X "tuple" := by rfl) (he : starEach [e] X.env = (false, eval e X.env) :: starEach [] X.env := by rfl) (hpl : (backTo pos (starEach [] X.env)).any (·.1) = false := by rfl) :
    PD X z O EX (.Call (.Name "tuple" p) [e] [] pos) (callE tupD fa) := pd_callTy (r := rTupOf z.K) (hK ▸ call_tuple_of) callD_tuple hm ha hg (by decide +kernel) (by decide) (by decide) he hpl
/-- all, any of bools -/
def blsOf : D → Option (List Bool) | .lst ds => D.bls ds | _ => none
theorem bls_sq {H : Hp} {L N : List Addr} {v : V} {d : D} {ns : List Bool} (h : Rb K ca H L N v d) (e : blsOf d = some ns) : ∃ a, v = .ref a ∧ SqL K H a (ns.map V.bl) := by
  cases d <;> simp only [blsOf, reduceCtorEq] at e
  obtain ⟨a, xs, rfl, h1, r1⟩ := h.lst
  rw [RpA.bls r1 e] at h1
  exact ⟨a, rfl, SqL.of h1⟩
def allD : List D → Option D | [x] => (blsOf x).map fun ns => .bl (ns.all id) | _ => none
theorem callD_all : CallD K ca (rAll K) allD := by
  intro H L N vs ds d Q fr hv e hq
  unfold allD at e
  split at e
  · simp only [Option.map_eq_some_iff] at e
    obtain ⟨ns, e, rfl⟩ := e
    cases hv with
    | cons h r =>
      cases r
      obtain ⟨a, rfl, h1⟩ := bls_sq h e
      exact ⟨a, ns, rfl, h1, hq _ H (Ex.refl H) (.bl _)⟩
  · cases e
theorem pd_all (hK : X.K = z.K) (hc : X.calm = true) (hm : X.mg "all" = none) (ha : PBA X z O EX [e] fa) (hg : Gl X "all" := by rfl) (he : starEach [e] X.env = (false, eval e X.env) :: starEach [] X.env := by rfl) (hpl : (backTo pos (starEach [] X.env)).any (·.1) = false := by rfl) :
    PD X z O EX (.Call (.Name "all" p) [e] [] pos) (callE allD fa) := pd_callB (r := rAll z.K) (hK ▸ cr_all hc) callD_all hm ha hg (by decide +kernel) (by decide) (by decide) he hpl
/-- divmod -/
def divmodD : List D → Option D | [.int i, .int j] => if 0 < j ∧ j < 1073741824 then some (.tup [.int (i / j), .int (i % j)]) else none | _ => none
def rDivmod : List V → Hp → VK → Prop := fun xs H Q => ∃ i j, xs = [.int i, .int j] ∧ CDiv i j ∧ ∀ p, H p = none → Q (.ref p) (upd H p (.tup [.int (i / j), .int (i % j)]))
theorem callD_divmod : CallD K ca rDivmod divmodD := by
  intro H L N vs ds d Q fr hv e hq
  unfold divmodD at e
  split at e
  · split at e
    · rename_i w
      cases e
      cases hv with
      | cons h r =>
        cases r with
        | cons h2 r =>
          cases r
          cases h.int
          cases h2.int
          exact ⟨_, _, rfl, w, fun p hp => hq _ _ (Ex.new hp) (new_tup hp (fr p hp) (.cons (.int _) (.cons (.int _) .nil)))⟩
    · cases e
  · cases e
theorem pd_divmod (hm : X.mg "divmod" = none) (ha : PBA X z O EX [a, b] fa) (hg : Gl X "divmod" := by rfl) (he : starEach [a, b] X.env = (false, eval a X.env) :: starEach [b] X.env := by rfl) (hpl : (backTo pos (starEach [b] X.env)).any (·.1) = false := by rfl) :
    PD X z O EX (.Call (.Name "divmod" p) [a, b] [] pos) (callE divmodD fa) := pd_callB (r := rDivmod) call_divmod callD_divmod hm ha hg (by decide +kernel) (by decide) (by decide) he hpl
/-- isinstance(x, T), T a built-in type -/
def tyD : D → Option String | .non => some "NoneType" | .bl _ => some "bool" | .int _ => some "int" | .str _ => some "str" | .tup _ => some "tuple" | .lst _ => some "list" | .scr _ => some "list" | .dic _ _ => some "dict" | .ins _ _ _ => none | .cls _ => none | .exn _ _ _ => none
/-- what isinstance asks of an own class -/
structure InsK (K : PySem.W.Frag) (C : Addr) : Prop where
  cl : Cls K C
  ha : PySem.W.findIn K (.ref C) "__class__" = some (some (.builtin "object.__class__"))
  hn : PySem.W.specialIn K (.builtin "object.__class__") "__get__" = some (some (.builtin "getset_descriptor.__get__"))
  tk : PySem.W.takesIn K (.builtin "object.__class__") = some true
  mr : PySem.W.mroIn K C (.type "object") = some true
def isiD (ty : String → Option Bool) (inst : Str → Option Bool) : D → Option D
  | .ins c _ _ => (inst c).map .bl
  | x => (tyD x).bind fun t => (ty t).map .bl
theorem ty_x {K : PySem.W.Frag} {ca : Str → Option Addr} {H : Hp} {v : V} {d : D} {t : String} (h : Rp K ca H v d) (e : tyD d = some t) : TyX K H v (.type t) := by
  cases h with
  | non => cases e; exact .base .non
  | bl b => cases e; exact .base (.bl b)
  | int i => cases e; exact .base (.int i)
  | str x => cases e; exact .base (.str x)
  | tup h r =>
    cases e
    rcases h with (h | ⟨o, h⟩) | ⟨o, its, n, h, hc, _⟩
    · exact .base (.tup h)
    · exact .fTuple h
    · exact .kTuple h hc
  | lst h r => cases e; exact .base (.lst h)
  | scr h =>
    cases e
    rcases h with (h | ⟨o, h⟩) | ⟨o, its, n, h, hc, _⟩
    · exact .base (.lst h)
    · exact .base (.frz h)
    · exact .kList h hc
  | dic h r => cases e; exact .base (.dK h)
  | ins h c r => cases e
  | cls h => cases e
  | exn0 _ _ => cases e
  | exnD _ _ _ _ => cases e
theorem pd_isi {ty : String → Option Bool} {inst : Str → Option Bool} {cv : V} {u : Value} {ce : Expr} (hK : X.K = z.K) (hm : X.mg "isinstance" = none) (hcv : PE X ce (tC cv)) (hu : ClsV cv u) (hty : ∀ t k, ty t = some k → PySem.W.kitOne z.K (.type t) u = some k)
    (hin : ∀ c k, inst c = some k → ∃ C, z.ca c = some C ∧ InsK z.K C ∧ PySem.W.kitOne z.K (.ref C) u = some k) (ha : PB X z O EX e f) (hg : Gl X "isinstance" := by rfl)
    (he : starEach [e, ce] X.env = (false, eval e X.env) :: starEach [ce] X.env := by rfl) (he2 : starEach [ce] X.env = (false, eval ce X.env) :: starEach [] X.env := by rfl) (hpl : (backTo pos (starEach [ce] X.env)).any (·.1) = false := by rfl) :
    PD X z O EX (.Call (.Name "isinstance" p) [e, ce] [] pos) (un1 (isiD ty inst) f) := by
  obtain ⟨t, pt, q⟩ := ha.ex
  refine ⟨_, pe_callB (r := rIsi X.K) call_isi hg hm (by decide +kernel) (pa_cons pt (pa_cons hcv pa_nil he2) he) (by decide) (by decide) he hpl, fun B P σ H ρ S Q hP rr hs => ?_⟩
  refine q B P σ H ρ S _ hP rr ((sat_bind.mp hs).imp fun x hx v H1 g1 r1 hv => ?_)
  obtain ⟨d, hd, hq⟩ := sat_of (sat_bind.mp hx)
  show rIsi X.K [v, cv] H1 Q
  rw [hK]
  have hr := hv.rp
  obtain ⟨x1, S1⟩ := x
  have oth : ∀ {t' : String}, tyD x1 = some t' → ((ty t').map D.bl) = some d → rIsi z.K [v, cv] H1 Q := fun {t'} e1 e2 => by
    simp only [Option.map_eq_some_iff] at e2
    obtain ⟨k, e2, rfl⟩ := e2
    exact ⟨v, cv, .type t', u, k, rfl, hu, ty_x hr e1, hty _ _ e2, hq _ H1 g1 r1 (.bl k)⟩
  cases x1 with
  | ins c ns vs =>
    simp only [isiD, Option.map_eq_some_iff] at hd
    obtain ⟨k, e2, rfl⟩ := hd
    obtain ⟨C, hca, ik, hk⟩ := hin c k e2
    cases hr with
    | ins h c' r =>
      rw [hca] at c'
      cases c'
      exact ⟨_, cv, .ref C, u, k, rfl, hu, .base (.ins h ik.cl ik.ha ik.hn ik.tk ik.mr), hk, hq _ H1 g1 r1 (.bl k)⟩
  | cls c => simp [isiD, tyD] at hd
  | exn c ns vs => simp [isiD, tyD] at hd
  | _ => exact oth rfl (by simpa [isiD, tyD] using hd)
end
/-! ### the law's own call -/
end
end PL
set_option Elab.async false
set_option linter.all false
set_option maxRecDepth 100000
set_option maxHeartbeats 4000000
namespace PL
open PySem PySem.Spec PyProof.Rows L2
section
variable {X : Cx} {z : Z} {O OI OM OO OL : List Nat} {EX : EXT} {a b c e o : Expr} {es : List Expr} {f g h : FE} {fa ga fk : FA} {fs gs : FS} {pos p apos : Pos} {st : Stmt} {sts : List Stmt}
/-! ### longer chains of comparisons -/
def lastC (g2 : D → D → Option D) (g : FE) : D → FE := fun d ρ S => g ρ S >>= fun y => R.of (g2 d y.1) >>= fun r => R.ok (r, y.2)
def consC (g2 : D → D → Option D) (g : FE) (h : D → FE) : D → FE := fun d ρ S => g ρ S >>= fun y => R.of (g2 d y.1) >>= fun r => match r with
  | .bl true => h y.1 ρ y.2
  | .bl false => R.ok (.bl false, y.2)
  | _ => R.bad
def chnE (f : FE) (h : D → FE) : FE := fun ρ S => f ρ S >>= fun x => h x.1 ρ x.2
/-! ### len of an instance -/
def lenC (cn : Str) (F : List D → R D) (f : FE) : FE := fun ρ S => f ρ S >>= fun x => match x.1 with
  | .ins c _ _ => if c = cn then noX (F [x.1]) >>= fun d => match d with
    | .int n => if 0 ≤ n ∧ n < 2 ^ 63 then R.ok (.int n, x.2) else R.bad
    | _ => R.bad else R.bad
  | _ => R.bad
/-! ### {}, {k: v}, list(range(..)) -/
def rangeF : List D → Option (List D)
  | [.int a, .int b] => if -(2 ^ 62) ≤ a ∧ a < 2 ^ 62 ∧ -(2 ^ 62) ≤ b ∧ b < 2 ^ 62 ∧ (b - a).toNat ≤ 2 ^ 24 then some ((List.range (b - a).toNat).map fun i => D.int (a + (i : Nat))) else none
  | _ => none
def rgF (f g : FE) : FA := fun ρ S => f ρ S >>= fun x => g ρ x.2 >>= fun y => R.of (rangeF [x.1, y.1]) >>= fun d => R.ok (d, y.2)
/-! ### x.extend(ys), x owned -/
def extS (i : Nat) (f : FE) : FS := fun ρ S => f ρ S >>= fun x => lk ρ i >>= fun l => match l, x.1 with
  | .lst ds, .lst es => if ds.length + es.length ≤ LINE then setE ρ i (.lst (ds ++ es)) >>= fun ρ1 => R.ok (.nx, ρ1, x.2) else R.bad
  | _, _ => R.bad
/-! ### a, b, c, d = ([], [], e, e'): the lists are owned -/
theorem new_hide {B : List Addr} {P : List (Nat × Addr)} {σ : L2.St} {H : Hp} {ρ : Env} {S : List D} {p : Addr} (r : Rel z B P σ H ρ S) (hp : H p = none) : Rel z (p :: B) P σ (upd H p (.lst [])) ρ S ∧ Ex (Frz H (z.L B P)) (Frz (upd H p (.lst [])) (z.L (p :: B) P)) ∧ z.H0 p = none :=
  let ⟨a, b⟩ := r.hide (o := .lst []) hp
  ⟨a, b, h0_none r hp (not_pls (r.fresh hp))⟩
def own4S (i j k l : Nat) (f g : FE) : FS := fun ρ S => f ρ S >>= fun x => g ρ x.2 >>= fun y => setE ρ i (.lst []) >>= fun ρ1 => setE ρ1 j (.lst []) >>= fun ρ2 => setE ρ2 k x.1 >>= fun ρ3 => setE ρ3 l y.1 >>= fun ρ4 => R.ok (.nx, ρ4, y.2)
end
section
variable {X : Cx} {z : Z} {O : List Nat} {B : List Addr} {P : List (Nat × Addr)} {σ : L2.St} {H : Hp} {ρ : Env} {S : List D}
/-- an owned place: the list is hidden already, its place is stored to -/
theorem Rel.own0 {p : Addr} {xs : List V} {ds : List D} {i : Nat} (r : Rel z (p :: B) P σ H ρ S) (h : H p = some (.lst xs)) (h0 : z.H0 p = none) (rp : RpA z.K z.ca (Frz H (z.L (p :: B) P)) xs ds) (hi : ∀ q ∈ P, q.1 ≠ i) (hz : NotPl z i) (hl : i < ρ.length) :
    Rel z B ((i, p) :: P) (σ.set i (some (.ref p))) H (ρ.set i (some (.lst ds))) S := (r.own1 h h0 rp hi hz hl).1
end
section
variable {X : Cx} {z : Z} {O OL : List Nat} {EX : EXT} {a b e3 e4 : Expr} {f g : FE} {pos : Pos}
theorem psd_own4 (i j k l : Nat) (hK : X.K = z.K) (hc : X.calm = true) (hN : X.N.Nodup) (hzi : NotPl z i) (hzj : NotPl z j) (hzk : NotPl z k) (hzl : NotPl z l) (h3 : PD X z O EX e3 f) (h4 : PD X z O EX e4 g) (hO : (O.all fun n => n != i && n != j && n != k && n != l) = true := by rfl) {xi xj xk xl : Str} {pi pj pk pl' q1 q2 q3 q4 : Pos} {m1 m2 : Nat}
    (hd : [i, j, k, l].Nodup := by decide)
    (ni : X.N[i]? = some xi := by rfl) (nj : X.N[j]? = some xj := by rfl) (nk : X.N[k]? = some xk := by rfl) (nl : X.N[l]? = some xl := by rfl)
    (li : Loc X.env.scope xi := by first | exact Or.inl rfl | exact Or.inr rfl) (lj : Loc X.env.scope xj := by first | exact Or.inl rfl | exact Or.inr rfl) (lk : Loc X.env.scope xk := by first | exact Or.inl rfl | exact Or.inr rfl) (ll : Loc X.env.scope xl := by first | exact Or.inl rfl | exact Or.inr rfl)
    (fi : X.fn xi = true ∨ X.env.scope.names.lookup xi = some .local := by first | exact .inl rfl | exact .inr rfl) (fj : X.fn xj = true ∨ X.env.scope.names.lookup xj = some .local := by first | exact .inl rfl | exact .inr rfl)
    (fk : X.fn xk = true ∨ X.env.scope.names.lookup xk = some .local := by first | exact .inl rfl | exact .inr rfl) (fl : X.fn xl = true ∨ X.env.scope.names.lookup xl = some .local := by first | exact .inl rfl | exact .inr rfl)
    (s1 : starEach [.List [] q2, .List [] q3, e3, e4] X.env = (false, eval (.List [] q2) X.env) :: starEach [.List [] q3, e3, e4] X.env := by rfl) (s2 : starEach [.List [] q3, e3, e4] X.env = (false, eval (.List [] q3) X.env) :: starEach [e3, e4] X.env := by rfl)
    (s3 : starEach [e3, e4] X.env = (false, eval e3 X.env) :: starEach [e4] X.env := by rfl) (s4 : starEach [e4] X.env = (false, eval e4 X.env) :: starEach [] X.env := by rfl)
    (hs : swapsWithSole [.Tuple [.Name xi pi, .Name xj pj, .Name xk pk, .Name xl pl'] m1 q1] (.Tuple [.List [] q2, .List [] q3, e3, e4] m2 q4) pos.line X.env = pure false := by rfl)
    (hw : swappedStores [.Tuple [.Name xi pi, .Name xj pj, .Name xk pk, .Name xl pl'] m1 q1] (.Tuple [.List [] q2, .List [] q3, e3, e4] m2 q4) X.env = pure none := by rfl)
    (h1 : (assignEach [.Tuple [.Name xi pi, .Name xj pj, .Name xk pk, .Name xl pl'] m1 q1] X.env).map (·.2) = [assign (.Tuple [.Name xi pi, .Name xj pj, .Name xk pk, .Name xl pl'] m1 q1) X.env] := by rfl)
    (a1 : (assignEach [.Name xi pi, .Name xj pj, .Name xk pk, .Name xl pl'] X.env).map (·.2) = assign (.Name xi pi) X.env :: (assignEach [.Name xj pj, .Name xk pk, .Name xl pl'] X.env).map (·.2) := by rfl)
    (a2 : (assignEach [.Name xj pj, .Name xk pk, .Name xl pl'] X.env).map (·.2) = assign (.Name xj pj) X.env :: (assignEach [.Name xk pk, .Name xl pl'] X.env).map (·.2) := by rfl)
    (a3 : (assignEach [.Name xk pk, .Name xl pl'] X.env).map (·.2) = assign (.Name xk pk) X.env :: (assignEach [.Name xl pl'] X.env).map (·.2) := by rfl)
    (a4 : (assignEach [.Name xl pl'] X.env).map (·.2) = assign (.Name xl pl') X.env :: (assignEach [] X.env).map (·.2) := by rfl)
    (hn : (assignEach [.Name xi pi, .Name xj pj, .Name xk pk, .Name xl pl'] X.env).length = 4 := by rfl) (hst : (assignEach [.Name xi pi, .Name xj pj, .Name xk pk, .Name xl pl'] X.env).findIdx? (·.1) = none := by rfl) :
    PSd X z O (i :: j :: O) OL EX (.Assign [.Tuple [.Name xi pi, .Name xj pj, .Name xk pk, .Name xl pl'] m1 q1] (.Tuple [.List [] q2, .List [] q3, e3, e4] m2 q4) pos) (own4S i j k l f g) := by
  obtain ⟨t3, p3, q3⟩ := h3.ex
  obtain ⟨t4, p4, q4⟩ := h4.ex
  refine ⟨_, ps_asg (pe_tup (pa_cons (pe_lst pa_nil) (pa_cons (pe_lst pa_nil) (pa_cons p3 (pa_cons p4 pa_nil s4) s3) s2) s1)) (pg_tup hc (pgs_cons (pg_name hN ni li fi) (pgs_cons (pg_name hN nj lj fj) (pgs_cons (pg_name hN nk lk fk) (pgs_cons (pg_name hN nl ll fl) pgs_nil a4) a3) a2) a1) hn hst) hs hw h1, fun B P σ H ρ S D' hP rr hs => ?_⟩
  refine ⟨Nat.zero_le _, fun p1 hp1 => ?_⟩
  refine ⟨Nat.zero_le _, fun p2 hp2 => ?_⟩
  obtain ⟨r1, m1, z1⟩ := new_hide rr hp1
  obtain ⟨r2, m2, z2⟩ := new_hide r1 hp2
  refine q3 _ P σ _ ρ S _ hP r2 ((sat_bind.mp hs).imp fun x hx v3 H3 g3 r3 hv3 => ?_)
  refine q4 _ P σ H3 ρ x.2 _ hP r3 ((sat_bind.mp hx).imp fun y hy v4 H4 g4 r4 hv4 => ?_)
  refine ⟨by show 4 ≤ sizeLine; exact line_le (by decide), fun p hp => ?_⟩
  obtain ⟨b1, hy⟩ := sat_set (sat_bind.mp hy)
  obtain ⟨b2, hy⟩ := sat_set (sat_bind.mp hy)
  obtain ⟨b3, hy⟩ := sat_set (sat_bind.mp hy)
  obtain ⟨b4, hy⟩ := sat_set (sat_bind.mp hy)
  refine ⟨p, _, rfl, SqT.of upd_same, rfl, _, _, rfl, _, _, rfl, _, _, rfl, _, _, rfl, rfl, ?_⟩
  have e5 : Ex H4 (upd H4 p (.tup [.ref p1, .ref p2, v3, v4])) := Ex.new hp
  have r5 := r4.grow e5
  have np1 : p1 ∉ z.pls := fun q => by
    have nd := r2.nd
    unfold Z.L at nd
    exact (List.nodup_append.mp (List.nodup_append.mp nd).2.1).2.2 p1 q p1 (List.mem_cons_of_mem _ List.mem_cons_self) rfl
  have np2 : p2 ∉ z.pls := fun q => by
    have nd := r2.nd
    unfold Z.L at nd
    exact (List.nodup_append.mp (List.nodup_append.mp nd).2.1).2.2 p2 q p2 List.mem_cons_self rfl
  have c1 : (upd H4 p (.tup [.ref p1, .ref p2, v3, v4])) p1 = some (.lst []) := e5 _ _ (g4 _ _ np1 (g3 _ _ np1 (by rw [upd_ne (ne_of_none (o := .lst []) upd_same hp2)]; exact upd_same)))
  have c2 : (upd H4 p (.tup [.ref p1, .ref p2, v3, v4])) p2 = some (.lst []) := e5 _ _ (g4 _ _ np2 (g3 _ _ np2 upd_same))
  have hv3' := (hv3.mono g4.frz).mono (Grow.of (z := z) e5).frz
  have hv4' := hv4.mono (Grow.of (z := z) e5).frz
  have hOi : ∀ q ∈ P, q.1 ≠ i ∧ q.1 ≠ j ∧ q.1 ≠ k ∧ q.1 ≠ l := fun q hq => by
    have hm : q.1 ∈ O := by rw [← hP]; exact List.mem_map_of_mem hq
    have := List.all_eq_true.mp hO q.1 hm
    simpa [and_assoc] using this
  simp only [List.nodup_cons, List.mem_cons, List.not_mem_nil, or_false, not_or] at hd
  obtain ⟨⟨dij, dik, dil⟩, ⟨djk, djl⟩, dkl, _⟩ := hd
  -- the two values first, then the two lists
  have r6 := r5.set hv3' (fun q hq => (hOi q hq).2.2.1) hzk (by simpa using b3)
  have r7 := r6.set hv4' (fun q hq => (hOi q hq).2.2.2) hzl (by simpa using b4)
  have r8 := r7.own0 (ds := []) (i := j) c2 z2 .nil (fun q hq => (hOi q hq).2.1) hzj (by simpa using b2)
  have r9 := r8.own0 (ds := []) (i := i) c1 z1 .nil (fun q hq => by
    rcases List.mem_cons.mp hq with e | hq
    · rw [e]; exact Ne.symm dij
    · exact (hOi q hq).1) hzi (by simpa using b1)
  have eσ : ((((σ.set i (some (.ref p1))).set j (some (.ref p2))).set k (some v3)).set l (some v4)) = ((((σ.set k (some v3)).set l (some v4)).set j (some (.ref p2))).set i (some (.ref p1))) := by
    rw [List.set_comm _ _ dij, List.set_comm (l := σ.set j _) _ _ dik, List.set_comm (l := (σ.set j _).set k _) _ _ dil, List.set_comm (l := σ) _ _ djk, List.set_comm (l := σ.set k _) _ _ djl]
  have eρ : ((((ρ.set i (some (.lst []))).set j (some (.lst []))).set k (some x.1)).set l (some y.1)) = ((((ρ.set k (some x.1)).set l (some y.1)).set j (some (.lst []))).set i (some (.lst []))) := by
    rw [List.set_comm _ _ dij, List.set_comm (l := ρ.set j _) _ _ dik, List.set_comm (l := (ρ.set j _).set k _) _ _ dil, List.set_comm (l := ρ) _ _ djk, List.set_comm (l := ρ.set k _) _ _ djl]
  have ef : Frz (upd H4 p (.tup [.ref p1, .ref p2, v3, v4])) (z.L (p2 :: p1 :: B) P) = Frz (upd H4 p (.tup [.ref p1, .ref p2, v3, v4])) (z.L B ((i, p1) :: (j, p2) :: P)) := frz_congr fun a => by
    unfold Z.L
    simp only [List.map_cons, List.mem_append, List.mem_cons]
    constructor
    · rintro (h | h | h | h | h)
      · exact .inl (.inr (.inr h))
      · exact .inr (.inl h)
      · exact .inl (.inr (.inl h))
      · exact .inl (.inl h)
      · exact .inr (.inr h)
    · rintro ((h | h | h) | h | h)
      · exact .inr (.inr (.inr (.inl h)))
      · exact .inr (.inr (.inl h))
      · exact .inl h
      · exact .inr (.inl h)
      · exact .inr (.inr (.inr (.inr h)))
  have mm : Ex (Frz H (z.L B P)) (Frz (upd H4 p (.tup [.ref p1, .ref p2, v3, v4])) (z.L B ((i, p1) :: (j, p2) :: P))) := by
    rw [← ef]
    exact (((m1.trans m2).trans g3.frz).trans g4.frz).trans (Grow.of (z := z) e5).frz
  have hy : ∀ P' σ' H', P'.map (·.1) = i :: j :: O → Ex (Frz H (z.L B P)) (Frz H' (z.L B P')) → Rel z B P' σ' H' ((((ρ.set i (some (.lst []))).set j (some (.lst []))).set k (some x.1)).set l (some y.1)) y.2 → D'.nx σ' H' := hy
  rw [eρ] at hy
  rw [eσ]
  exact hy ((i, p1) :: (j, p2) :: P) _ _ (by rw [List.map_cons, List.map_cons, hP]) mm r9
end
end PL
set_option Elab.async false
set_option linter.all false
set_option maxRecDepth 100000
set_option maxHeartbeats 4000000
/-! zip and enumerate over tuples and lists, as many as there are. -/
namespace PLZ
open PySem
open PySem.Sem (wp)
/-- an iterator, what it walks, whether that is a tuple -/
structure Src where
  it : Addr
  l : Addr
  tp : Bool
def At (h : Heap) (c : Src) (xs : List Value) (j : Nat) : Prop :=
  if c.tp then h.IsTupleIter c.it c.l j ∧ h.IsTuple c.l xs.toArray else h.IsListIter c.it c.l j ∧ h.IsList c.l xs.toArray
section
variable {prog : Program} {w : World} {A : Around} {E : Value → Shared → Prop} {s : Shared} {h h' : Heap} {c : Src} {xs : List Value} {j : Nat}
theorem At.keep (a : At h c xs j) (k1 : ∀ o, h.get? c.it = some o → h'.get? c.it = some o) (k2 : ∀ o, h.get? c.l = some o → h'.get? c.l = some o) : At h' c xs j := by
  unfold At at a ⊢
  split at a
  · rename_i q
    rw [if_pos q]
    exact ⟨a.1.at fun o e => k1 o e, a.2.at fun o e => k2 o e⟩
  · rename_i q
    rw [if_neg q]
    exact ⟨a.1.at fun o e => k1 o e, a.2.at fun o e => k2 o e⟩
theorem At.there (a : At h c xs j) : ∃ o, h.get? c.it = some o ∧ ∃ vs, o.data = .fields vs := by
  unfold At at a
  split at a
  · obtain ⟨⟨o, ho, _, hd⟩, _⟩ := a
    exact ⟨o, ho, _, hd⟩
  · obtain ⟨⟨o, ho, _, hd⟩, _⟩ := a
    exact ⟨o, ho, _, hd⟩
theorem At.item {x : Value} {Q : Value → Shared → Prop} (a : At s.heap c xs j) (hx : xs[j]? = some x) (ne : c.l ≠ c.it)
    (hQ : ∀ h1, At h1 c xs (j + 1) → Heap.SameBut c.it s.heap h1 → Q x { s with heap := h1 }) : wpAny (model prog w) A (Builtin.SmallTypes.nextOf (.ref c.it)) Q E s := by
  unfold At at a
  split at a
  · rename_i q
    refine RZ.nextOf_tuple_item a.1 a.2 (x := x) (by simpa using hx) fun h1 a1 sb => hQ h1 ?_ sb
    unfold At
    rw [if_pos q]
    exact ⟨a1, a.2.extBut sb.extBut ne⟩
  · rename_i q
    refine wpAny_nextOf_list_item a.1 a.2 (x := x) (by simpa using hx) fun h1 a1 sb => hQ h1 ?_ sb
    unfold At
    rw [if_neg q]
    exact ⟨a1, a.2.extBut sb.extBut ne⟩
theorem At.stop {Q : Value → Shared → Prop} (hh : A.handled = none) (a : At s.heap c xs j) (hx : xs.length ≤ j)
    (hE : ∀ h1 e, Heap.ExtBut c.it s.heap h1 → (∃ o, h1.get? e = some o ∧ o.cls = .type "StopIteration") → E (.ref e) { s with heap := h1 }) :
    wpAny (model prog w) A (Builtin.SmallTypes.nextOf (.ref c.it)) Q E s := by
  unfold At at a
  split at a
  · exact RZ.nextOf_tuple_end hh a.1 a.2 (by simpa using hx) hE
  · exact wpAny_nextOf_list_end hh a.1 a.2 (by simpa using hx) hE
/-! the zip -/
abbrev Col := Src × List Value
def row (cs : List Col) (j : Nat) : List Value := cs.map fun p => p.2.getD j .none
def feet (z TI TO : Addr) (cs : List Col) : List Addr := z :: TI :: TO :: cs.map (·.1.it)
structure Apart (z TI TO : Addr) (cs : List Col) : Prop where
  nd : (feet z TI TO cs).Nodup
  off : ∀ p ∈ cs, p.1.l ∉ feet z TI TO cs
  few : cs.length ≤ 8
  non : cs ≠ []
abbrev ZipRec (h : Heap) (z TI TO : Addr) (f0 : Value) (f1 : Bool) : Prop :=
  h.get? z = some { cls := .type "zip", dict := none, data := .fields #[f0, .bool f1, .bool false, .ref TI, .ref TO], slots := #[] }
abbrev TupRec (h : Heap) (T : Addr) (xs : List Value) : Prop := h.get? T = some { cls := .type "tuple", data := .seq xs.toArray }
structure ZipAt (h : Heap) (z TI TO : Addr) (cs : List Col) (j : Nat) : Prop where
  z : ∃ f0 f1, (f0 = .none ∨ ∃ T : Addr, f0 = rawInt T) ∧ ZipRec h z TI TO f0 f1
  ti : TupRec h TI (cs.map fun p => .ref p.1.it)
  to : ∃ ws, ws.length = cs.length ∧ TupRec h TO ws
  at_ : ∀ p ∈ cs, At h p.1 p.2 j
theorem upd_tup {T : Addr} {ws : List Value} {k : Nat} {x : Value} {Q : Unit → Shared → Prop} (ht : TupRec s.heap T ws) (hk : ws.length ≤ 8)
    (hQ : ∀ h1, TupRec h1 T (ws.set k x) → Heap.SameBut T s.heap h1 → Q () { s with heap := h1 }) : wpAny (model prog w) A (updateSeq T (·.setIfInBounds k x)) Q E s := by
  have e : sizeLine = 16777216 := by decide
  refine wpAny_updateSeq ht rfl (hQ _ ?_ (Heap.SameBut.update ..)) (by rw [List.size_toArray, e]; omega) (by rw [Array.size_setIfInBounds, List.size_toArray, e]; omega)
  show Heap.get? _ _ = _
  rw [Heap.get?_update_self _ ht rfl]
  simp [Obj.mapSeq]
end
end PLZ
set_option Elab.async false
set_option linter.all false
set_option maxRecDepth 100000
set_option maxHeartbeats 4000000
namespace PLZ
open PySem
open PySem.Sem (wp)
section
variable {prog : Program} {w : World} {A : Around} {E : Value → Shared → Prop} {s : Shared} {h h' : Heap} {z TI TO : Addr} {cs : List Col} {j : Nat}
theorem alive_any {a : Addr} {Q : Option Obj → Shared → Prop} (hq : Q (s.heap.get? a) s) : wpAny (model prog w) A (loadIfAlive a) Q E s := fun _ _ _ => hq
/-- is the tuple free: both may come -/
theorem free_any {f0 : Value} {f1 : Bool} {Q : Bool → Shared → Prop} (ez : ZipRec s.heap z TI TO f0 f1) (h0 : f0 = .none ∨ ∃ T : Addr, f0 = rawInt T)
    (h1 : Q true s) (h2 : ∀ h1, ZipRec h1 z TI TO f0 true → Heap.SameBut z s.heap h1 → Q false { s with heap := h1 }) : wpAny (model prog w) A (Builtin.SmallTypes.ownedTupleIsFree (.ref z)) Q E s := by
  unfold Builtin.SmallTypes.ownedTupleIsFree
  refine wpAny_bind (wpAny_field ez rfl (x := f0) rfl ?_)
  rcases h0 with rfl | ⟨T, rfl⟩
  · exact wpAny_pure h1
  · show wpAny _ _ (loadIfAlive ((T : Int).toNat) >>= _) _ _ s
    refine wpAny_bind (alive_any ?_)
    cases q : s.heap.get? (T : Int).toNat with
    | none =>
      simp only [Option.isNone_none, if_true]
      exact wpAny_pure h1
    | some o =>
      simp only [Option.isNone_some, Bool.false_eq_true, if_false]
      refine wpAny_bind (wpAny_field ez rfl (x := .bool f1) rfl ?_)
      cases f1 with
      | true =>
        rw [if_neg (by simp)]
        exact wpAny_pure (h2 s.heap ez (Heap.SameBut.refl _ _))
      | false =>
        rw [if_pos (by rfl)]
        exact wpAny_bind (wpAny_setField_rec ez (by simp) fun h1 e1 sb => wpAny_pure (h2 h1 e1 sb))
theorem take_s {α : Type} {l : List α} {k : Nat} (hk : k < l.length) : l.take (k + 1) = l.take k ++ [l[k]] := by
  rw [List.take_add_one]
  simp [hk]
theorem few_ok {n : Nat} (hn : n ≤ 8) : n ≤ sizeLine := by
  have e : sizeLine = 16777216 := by decide
  omega
theorem Apart.ne (D : Apart z TI TO cs) : z ≠ TI ∧ z ≠ TO ∧ TI ≠ TO ∧ ∀ p ∈ cs, p.1.it ≠ z ∧ p.1.it ≠ TI ∧ p.1.it ≠ TO := by
  have nd := D.nd
  unfold feet at nd
  simp only [List.nodup_cons, List.mem_cons, not_or] at nd
  obtain ⟨⟨a1, a2, a3⟩, ⟨b1, b2⟩, c1, _⟩ := nd
  refine ⟨a1, a2, b1, fun p hp => ?_⟩
  have hm : p.1.it ∈ cs.map (·.1.it) := List.mem_map_of_mem (f := fun q : Col => q.1.it) hp
  exact ⟨fun e => a3 (e ▸ hm), fun e => b2 (e ▸ hm), fun e => c1 (e ▸ hm)⟩
theorem Apart.inj (D : Apart z TI TO cs) {i k : Nat} {p q : Col} (hp : cs[i]? = some p) (hq : cs[k]? = some q) (e : p.1.it = q.1.it) : i = k := by
  have nd : (cs.map (·.1.it)).Nodup := by
    have nd := D.nd
    unfold feet at nd
    simp only [List.nodup_cons] at nd
    exact nd.2.2.2
  have hi : i < cs.length := (List.getElem?_eq_some_iff.mp hp).1
  refine (List.getElem?_inj (l := cs.map (·.1.it)) (by simpa using hi) nd).mp ?_
  rw [List.getElem?_map, List.getElem?_map, hp, hq]
  simp [e]
/-- the first k have been drawn -/
structure Mid (s0 : Heap) (z TI TO : Addr) (cs : List Col) (j k : Nat) (h : Heap) (ws : List Value) : Prop where
  ti : TupRec h TI (cs.map fun p => .ref p.1.it)
  to : TupRec h TO ws
  got : ∀ i p, cs[i]? = some p → At h p.1 p.2 (if i < k then j + 1 else j)
  sz : h.objs.size = s0.objs.size
  old : ∀ b o, b ∉ feet z TI TO cs → s0.get? b = some o → h.get? b = some o
theorem Mid.draw {s0 h1 : Heap} {k : Nat} {ws : List Value} {p : Col} (D : Apart z TI TO cs) (M : Mid s0 z TI TO cs j k h ws) (hp : cs[k]? = some p) (a : At h1 p.1 p.2 (j + 1)) (sb : Heap.SameBut p.1.it h h1) : Mid s0 z TI TO cs j (k + 1) h1 ws := by
  have hm : p ∈ cs := List.mem_of_getElem? hp
  obtain ⟨n1, n2, n3, n4⟩ := D.ne
  obtain ⟨m1, m2, m3⟩ := n4 p hm
  refine ⟨sb.extBut _ _ (Ne.symm m2) M.ti, sb.extBut _ _ (Ne.symm m3) M.to, fun i q hq => ?_, sb.1.trans M.sz, fun b o hb e => sb.extBut _ _ (fun z => hb ?_) (M.old b o hb e)⟩
  · by_cases hik : i = k
    · subst hik
      rw [hp] at hq
      cases hq
      rw [if_pos (Nat.lt_succ_self _)]
      exact a
    · have e : (if i < k + 1 then j + 1 else j) = if i < k then j + 1 else j := by
        by_cases h1 : i < k
        · rw [if_pos h1, if_pos (by omega)]
        · rw [if_neg h1, if_neg (by omega)]
      rw [e]
      have hqm : q ∈ cs := List.mem_of_getElem? hq
      refine (M.got i q hq).keep (fun o e => sb.extBut _ _ (fun z => hik (D.inj hq hp z)) e) fun o e => sb.extBut _ _ (fun z => D.off q hqm ?_) e
      rw [z]
      unfold feet
      exact List.mem_cons_of_mem _ (List.mem_cons_of_mem _ (List.mem_cons_of_mem _ (List.mem_map_of_mem (f := fun q : Col => q.1.it) hm)))
  · rw [z]
    unfold feet
    exact List.mem_cons_of_mem _ (List.mem_cons_of_mem _ (List.mem_cons_of_mem _ (List.mem_map_of_mem (f := fun q : Col => q.1.it) hm)))
/-- a write to z or to TO -/
theorem Mid.put {s0 h1 : Heap} {k : Nat} {ws ws1 : List Value} {a : Addr} (D : Apart z TI TO cs) (M : Mid s0 z TI TO cs j k h ws) (ha : a = z ∨ a = TO) (ht : TupRec h1 TO ws1) (sb : Heap.SameBut a h h1) : Mid s0 z TI TO cs j k h1 ws1 := by
  obtain ⟨n1, n2, n3, n4⟩ := D.ne
  have hf : a ∈ feet z TI TO cs := by
    unfold feet
    rcases ha with rfl | rfl <;> simp
  refine ⟨sb.extBut _ _ ?_ M.ti, ht, fun i q hq => ?_, sb.1.trans M.sz, fun b o hb e => sb.extBut _ _ (fun z => hb (z ▸ hf)) (M.old b o hb e)⟩
  · rcases ha with rfl | rfl
    · exact Ne.symm n1
    · exact n3
  · have hqm : q ∈ cs := List.mem_of_getElem? hq
    refine (M.got i q hq).keep (fun o e => sb.extBut _ _ ?_ e) fun o e => sb.extBut _ _ (fun z => D.off q hqm (z ▸ hf)) e
    obtain ⟨m1, m2, m3⟩ := n4 q hqm
    rcases ha with rfl | rfl
    · exact m1
    · exact m3
theorem Mid.start (D : Apart z TI TO cs) {ws : List Value} (ti : TupRec h TI (cs.map fun p => .ref p.1.it)) (to : TupRec h TO ws) (ats : ∀ p ∈ cs, At h p.1 p.2 j) : Mid h z TI TO cs j 0 h ws :=
  ⟨ti, to, fun i p hp => by rw [if_neg (Nat.not_lt_zero _)]; exact ats p (List.mem_of_getElem? hp), rfl, fun _ _ _ e => e⟩
theorem zip_item {Q : Value → Shared → Prop} (D : Apart z TI TO cs) (Z : ZipAt s.heap z TI TO cs j) (hj : ∀ p ∈ cs, j < p.2.length)
    (hQ : ∀ h1, ZipAt h1 z TI TO cs (j + 1) → TupRec h1 s.heap.objs.size (row cs j) → h1.objs.size = s.heap.objs.size + 1 → (∀ b o, b ∉ feet z TI TO cs → s.heap.get? b = some o → h1.get? b = some o) → Q (.ref s.heap.objs.size) { s with heap := h1 }) :
    wpAny (model prog w) A (Builtin.«zip.__next__» ⟨[.ref z], []⟩) (fun fin s1 => ∃ v, fin = .done (.ret v) ∧ Q v s1) E s := by
  obtain ⟨⟨f0, f1, h0, ez⟩, eTI, ⟨ws, lw, eTO⟩, ats⟩ := Z
  obtain ⟨n1, n2, n3, n4⟩ := D.ne
  show wpAny _ _ (field (.ref z) 2 >>= _) _ _ s
  refine wpAny_bind (wpAny_field ez rfl (x := .bool false) rfl ?_)
  show wpAny _ _ (field (.ref z) 3 >>= _) _ _ s
  refine wpAny_bind (wpAny_field ez rfl (x := .ref TI) rfl ?_)
  refine wpAny_bind (wpAny_seqItems eTI rfl ?_)
  have ne : ((cs.map fun p => Value.ref p.1.it).toArray.isEmpty) = false := by
    have := D.non
    cases cs with
    | nil => exact absurd rfl this
    | cons _ _ => simp
  simp only [ne, Bool.false_eq_true, if_false]
  refine wpAny_bind (free_any ez h0 ?_ ?_)
  · simp only [if_true]
    refine wpAny_bind (wpAny_rule ?_)
    refine wpAny_bind (wpAny_field ez rfl (x := .ref TO) rfl ?_)
    refine wpAny_bind (wpAny_setField_rec ez (by simp) fun h1 e1 sb1 => ?_)
    refine wpAny_bind ?_
    refine wpAny_forIn_list _ (fun rest b s1 => ∃ k h2, rest = ((cs.map fun p => Value.ref p.1.it).zipIdx).drop k ∧ k ≤ cs.length ∧ b = (none, ()) ∧ s1 = { s with heap := h2 } ∧ ZipRec h2 z TI TO .ellipsis f1 ∧ Mid s.heap z TI TO cs j k h2 ((row cs j).take k ++ ws.drop k)) _ ?_ ?_ _ _ ⟨0, h1, by simp, Nat.zero_le _, rfl, rfl, e1, (Mid.start D eTI eTO ats).put D (.inl rfl) (sb1.extBut _ _ (Ne.symm n2) (by simpa using eTO)) sb1⟩
    · rintro x rest b s1 ⟨k, h2, er, hk, rfl, rfl, z2, M⟩
      have hlt : k < cs.length := by
        rcases Nat.lt_or_ge k cs.length with q | q
        · exact q
        · rw [List.drop_of_length_le (by simpa using q)] at er
          cases er
      have hpk : cs[k]? = some cs[k] := List.getElem?_eq_getElem hlt
      rw [List.drop_eq_getElem_cons (by simpa using hlt)] at er
      cases er
      simp only [List.getElem_zipIdx, List.getElem_map, Nat.zero_add]
      have am := M.got k _ hpk
      rw [if_neg (Nat.lt_irrefl _)] at am
      have hm := List.mem_of_getElem? hpk
      have jl := hj _ hm
      refine wpAny_bind (wpAny_onRaise ?_)
      show wpAny _ _ (Builtin.SmallTypes.nextOf (.ref cs[k].1.it) >>= _) _ _ _
      refine wpAny_bind (am.item (s := { s with heap := h2 }) (x := cs[k].2[j]) (by simp [jl]) (fun e => D.off _ hm (by unfold feet; rw [e]; exact List.mem_cons_of_mem _ (List.mem_cons_of_mem _ (List.mem_cons_of_mem _ (List.mem_map_of_mem (f := fun q : Col => q.1.it) hm))))) fun h3 a3 sb3 => wpAny_pure ?_)
      have M3 := M.draw D hpk a3 sb3
      have z3 : ZipRec h3 z TI TO .ellipsis f1 := sb3.extBut _ _ (Ne.symm (n4 _ hm).1) z2
      show wpAny _ _ (seqItems? (.ref TO) >>= _) _ _ _
      refine wpAny_bind (wpAny_seqItems (s := { s with heap := h3 }) M3.to rfl ?_)
      have lr : (row cs j).length = cs.length := by simp [row]
      refine wpAny_bind (upd_tup (s := { s with heap := h3 }) M3.to (by have := D.few; simp; omega) fun h4 t4 sb4 => ?_)
      refine wpAny_bind (wpAny_letGo (wpAny_pure ?_))
      have ew : ((row cs j).take k ++ ws.drop k).set k cs[k].2[j] = (row cs j).take (k + 1) ++ ws.drop (k + 1) := by
        rw [List.set_append_right _ _ (by simp [lr]; omega), List.length_take, Nat.min_eq_left (by omega), Nat.sub_self, List.drop_eq_getElem_cons (by omega : k < ws.length), List.set_cons_zero, take_s (by omega : k < (row cs j).length)]
        simp [row, jl]
      exact ⟨k + 1, h4, rfl, hlt, rfl, rfl, sb4.extBut _ _ n2 z3, (M3.put D (.inr rfl) (ew ▸ t4) sb4)⟩
    · rintro b s1 ⟨k, h2, er, hk, rfl, rfl, z2, M⟩
      have ek : k = cs.length := by
        have := congrArg List.length er
        simp at this
        omega
      subst ek
      have lr : (row cs j).length = cs.length := by simp [row]
      have ew : (row cs j).take cs.length ++ ws.drop cs.length = row cs j := by
        rw [← lr, List.take_length, List.drop_of_length_le (by omega), List.append_nil]
      rw [ew] at M
      dsimp only
      refine wpAny_bind (wpAny_seqItems (s := { s with heap := h2 }) M.to rfl ?_)
      simp only [List.toList_toArray]
      refine wpAny_bind (wpAny_newTuple (s := { s with heap := h2 }) ?_ (few_ok (by rw [lr]; exact D.few)))
      show wpAny _ _ (Builtin.SmallTypes.ownedTupleHandOut (.ref z) (.ref h2.objs.size) >>= _) _ _ _
      refine wpAny_bind ?_
      unfold Builtin.SmallTypes.ownedTupleHandOut
      have z5 : ZipRec (h2.push { cls := .type "tuple", data := .seq (row cs j).toArray }) z TI TO .ellipsis f1 := Heap.get?_push_of_some _ z2
      refine wpAny_bind (wpAny_setField_rec (s := { s with heap := _ }) z5 (by simp) fun h6 z6 sb6 => ?_)
      refine wpAny_setField_rec (s := { s with heap := _ }) z6 (by simp) fun h7 z7 sb7 => ?_
      refine wpAny_pure ⟨_, rfl, ?_⟩
      have up : ∀ b o, b ≠ z → h2.get? b = some o → h7.get? b = some o := fun b o n e => sb7.extBut _ _ n (sb6.extBut _ _ n (Heap.get?_push_of_some _ e))
      have zl : z < h2.objs.size := Heap.lt_size z2
      have s7 : h7.objs.size = s.heap.objs.size + 1 := by rw [sb7.1, sb6.1, Heap.size_push, M.sz]
      show Q (.ref h2.objs.size) _
      rw [M.sz]
      refine hQ h7 ⟨⟨rawInt h2.objs.size, false, .inr ⟨_, rfl⟩, z7⟩, up _ _ (Ne.symm n1) M.ti, ⟨_, lr, up _ _ (Ne.symm n2) M.to⟩, fun p hp => ?_⟩ ?_ s7 fun b o hb e => ?_
      · obtain ⟨i, hi⟩ := List.mem_iff_getElem?.mp hp
        have a := M.got i p hi
        rw [if_pos (List.getElem?_eq_some_iff.mp hi).1] at a
        exact a.keep (fun o e => up _ o (n4 p hp).1 e) fun o e => up _ o (fun q => D.off p hp (by rw [q]; unfold feet; simp)) e
      · have t : TupRec h7 h2.objs.size (row cs j) := sb7.extBut _ _ (Nat.ne_of_gt zl) (sb6.extBut _ _ (Nat.ne_of_gt zl) (Heap.get?_push_size _ rfl))
        rw [M.sz] at t
        exact t
      · exact up b o (fun q => hb (by rw [q]; unfold feet; simp)) (M.old b o hb e)
  · intro h1 e1 sb1
    simp only [Bool.false_eq_true, if_false]
    refine wpAny_bind ?_
    have t1 : TupRec h1 TO ws := sb1.extBut _ _ (Ne.symm n2) eTO
    refine wpAny_forIn_array' _ (fun rest b s1 => ∃ k h2, rest = (cs.map fun p => Value.ref p.1.it).drop k ∧ k ≤ cs.length ∧ b = (none, ((row cs j).take k).toArray) ∧ s1 = { s with heap := h2 } ∧ ZipRec h2 z TI TO f0 true ∧ Mid s.heap z TI TO cs j k h2 ws) _ ?_ ?_ _ _ ⟨0, h1, by simp, Nat.zero_le _, by simp, rfl, e1, (Mid.start D eTI eTO ats).put D (.inl rfl) t1 sb1⟩
    · rintro x rest b s1 ⟨k, h2, er, hk, rfl, rfl, z2, M⟩
      have hlt : k < cs.length := by
        rcases Nat.lt_or_ge k cs.length with q | q
        · exact q
        · rw [List.drop_of_length_le (by simpa using q)] at er
          cases er
      have hpk : cs[k]? = some cs[k] := List.getElem?_eq_getElem hlt
      rw [List.drop_eq_getElem_cons (by simpa using hlt)] at er
      cases er
      simp only [List.getElem_map]
      have am := M.got k _ hpk
      rw [if_neg (Nat.lt_irrefl _)] at am
      have hm := List.mem_of_getElem? hpk
      have jl := hj _ hm
      refine wpAny_bind (wpAny_holding ?_)
      show wpAny _ _ (Builtin.SmallTypes.nextOf (.ref cs[k].1.it) >>= _) _ _ _
      refine wpAny_bind (am.item (s := { s with heap := h2 }) (x := cs[k].2[j]) (by simp [jl]) (fun e => D.off _ hm (by unfold feet; rw [e]; exact List.mem_cons_of_mem _ (List.mem_cons_of_mem _ (List.mem_cons_of_mem _ (List.mem_map_of_mem (f := fun q : Col => q.1.it) hm))))) fun h3 a3 sb3 => wpAny_pure (wpAny_pure ?_))
      have lr : (row cs j).length = cs.length := by simp [row]
      refine ⟨k + 1, h3, rfl, hlt, ?_, rfl, sb3.extBut _ _ (Ne.symm (n4 _ hm).1) z2, M.draw D hpk a3 sb3⟩
      rw [take_s (by omega : k < (row cs j).length)]
      simp [row, jl]
    · rintro b s1 ⟨k, h2, er, hk, rfl, rfl, z2, M⟩
      have ek : k = cs.length := by
        have := congrArg List.length er
        simp at this
        omega
      subst ek
      have lr : (row cs j).length = cs.length := by simp [row]
      dsimp only
      rw [← lr, List.take_length]
      refine wpAny_bind (wpAny_newTuple (s := { s with heap := h2 }) (wpAny_pure ⟨_, rfl, ?_⟩) (few_ok (by rw [lr]; exact D.few)))
      show Q (.ref h2.objs.size) _
      rw [M.sz]
      have up : ∀ b o, h2.get? b = some o → (h2.push { cls := .type "tuple", data := .seq (row cs j).toArray }).get? b = some o := fun b o e => Heap.get?_push_of_some _ e
      refine hQ _ ⟨⟨f0, true, h0, up _ _ z2⟩, up _ _ M.ti, ⟨_, lw, up _ _ M.to⟩, fun p hp => ?_⟩ ?_ (by rw [Heap.size_push, M.sz]) fun b o hb e => up _ _ (M.old b o hb e)
      · obtain ⟨i, hi⟩ := List.mem_iff_getElem?.mp hp
        have a := M.got i p hi
        rw [if_pos (List.getElem?_eq_some_iff.mp hi).1] at a
        exact a.keep (fun o e => up _ o e) fun o e => up _ o e
      · have t : TupRec (h2.push { cls := .type "tuple", data := .seq (row cs j).toArray }) h2.objs.size (row cs j) := Heap.get?_push_size _ rfl
        rw [M.sz] at t
        exact t
end
end PLZ
set_option Elab.async false
set_option linter.all false
set_option maxRecDepth 100000
set_option maxHeartbeats 4000000
namespace PLZ
open PySem
open PySem.Sem (wp)
section
variable {prog : Program} {w : World} {A : Around} {E : Value → Shared → Prop} {s : Shared} {h h' : Heap} {z TI TO : Addr} {cs : List Col} {j : Nat}
theorem zip_stop {Q : Fin → Shared → Prop} (hh : A.handled = none) (D : Apart z TI TO cs) (Z : ZipAt s.heap z TI TO cs j) (hj : ∀ p ∈ cs, p.2.length ≤ j)
    (hE : ∀ h1 e, (∀ b o, b ∉ feet z TI TO cs → s.heap.get? b = some o → h1.get? b = some o) → (∃ o, h1.get? e = some o ∧ o.cls = .type "StopIteration") → E (.ref e) { s with heap := h1 }) :
    wpAny (model prog w) A (Builtin.«zip.__next__» ⟨[.ref z], []⟩) Q E s := by
  obtain ⟨⟨f0, f1, h0, ez⟩, eTI, ⟨ws, lw, eTO⟩, ats⟩ := Z
  obtain ⟨n1, n2, n3, n4⟩ := D.ne
  have zf : z ∈ feet z TI TO cs := by unfold feet; simp
  show wpAny _ _ (field (.ref z) 2 >>= _) _ _ s
  refine wpAny_bind (wpAny_field ez rfl (x := .bool false) rfl ?_)
  show wpAny _ _ (field (.ref z) 3 >>= _) _ _ s
  refine wpAny_bind (wpAny_field ez rfl (x := .ref TI) rfl ?_)
  refine wpAny_bind (wpAny_seqItems eTI rfl ?_)
  obtain ⟨p, r, rfl⟩ : ∃ p r, cs = p :: r := by
    cases cs with
    | nil => exact absurd rfl D.non
    | cons p r => exact ⟨p, r, rfl⟩
  have hm : p ∈ p :: r := List.mem_cons_self ..
  have pf : p.1.it ∈ feet z TI TO (p :: r) := by unfold feet; simp
  have ne : (((p :: r).map fun p : Col => Value.ref p.1.it).toArray.isEmpty) = false := by simp
  simp only [ne, Bool.false_eq_true, if_false]
  refine wpAny_bind (free_any ez h0 ?_ ?_)
  · simp only [if_true]
    refine wpAny_bind (wpAny_rule ?_)
    refine wpAny_bind (wpAny_field ez rfl (x := .ref TO) rfl ?_)
    refine wpAny_bind (wpAny_setField_rec ez (by simp) fun h1 e1 sb1 => ?_)
    refine wpAny_bind ?_
    simp only [List.map_cons, List.zipIdx_cons, List.forIn_cons]
    refine wpAny_bind (wpAny_bind (wpAny_onRaise ?_))
    show wpAny _ _ (Builtin.SmallTypes.nextOf (.ref p.1.it) >>= _) _ _ _
    have a1 : At h1 p.1 p.2 j := (ats p hm).keep (fun o e => sb1.extBut _ _ (n4 p hm).1 e) fun o e => sb1.extBut _ _ (fun q => D.off p hm (q ▸ zf)) e
    refine wpAny_bind (a1.stop (s := { s with heap := h1 }) hh (hj p hm) fun h2 e x2 ho => ?_)
    have z2 := x2 _ _ (Ne.symm (n4 p hm).1) e1
    refine wpAny_setField_rec (s := { s with heap := h2 }) z2 (by simp) fun h3 z3 sb3 => ?_
    refine hE h3 e (fun b o hb q => sb3.extBut _ _ (fun c => hb (c ▸ zf)) (x2 _ _ (fun c => hb (c ▸ pf)) (sb1.extBut _ _ (fun c => hb (c ▸ zf)) q))) ?_
    obtain ⟨o, ho, hc⟩ := ho
    have nz : e ≠ z := fun c => by
      rw [c, z2] at ho
      cases ho
      simp at hc
    exact ⟨o, sb3.extBut _ _ nz ho, hc⟩
  · intro h1 e1 sb1
    simp only [Bool.false_eq_true, if_false]
    refine wpAny_bind ?_
    rw [← Array.forIn_toList]
    simp only [List.map_cons, List.forIn_cons]
    refine wpAny_bind (wpAny_bind (wpAny_holding ?_))
    show wpAny _ _ (Builtin.SmallTypes.nextOf (.ref p.1.it) >>= _) _ _ _
    have a1 : At h1 p.1 p.2 j := (ats p hm).keep (fun o e => sb1.extBut _ _ (n4 p hm).1 e) fun o e => sb1.extBut _ _ (fun q => D.off p hm (q ▸ zf)) e
    refine wpAny_bind (a1.stop (s := { s with heap := h1 }) hh (hj p hm) fun h2 e x2 ho => ?_)
    exact hE h2 e (fun b o hb q => x2 _ _ (fun c => hb (c ▸ pf)) (sb1.extBut _ _ (fun c => hb (c ▸ zf)) q)) ho
/-! enumerate over what draws -/
theorem enum_item {e it : Addr} {i : Nat} {old : Value} {P : Value → Heap → Prop} {Q : Value → Shared → Prop} (ee : IsEnum s.heap e it i old)
    (nx : ∀ (Q : Value → Shared → Prop) (E : Value → Shared → Prop), (∀ x h1 tk, P x h1 → IsEnum h1 e it i old → Q x { s with heap := h1, toks := tk }) → wpAny (model prog w) A (Builtin.SmallTypes.nextOf (.ref it)) Q E s)
    (hQ : ∀ x h1 tk h2, P x h1 → IsEnumOut h2 e it ((i : Int) + 1) x h1.objs.size → h2.get? h1.objs.size = some { cls := .type "tuple", data := .seq #[.int i tk, x] } → h2.objs.size = h1.objs.size + 1 →
      (∀ b o, b ≠ e → h1.get? b = some o → h2.get? b = some o) → Q (.ref h1.objs.size) { s with heap := h2, toks := tk + 1 }) :
    wpAny (model prog w) A (Builtin.«enumerate.__next__» ⟨[.ref e], []⟩) (fun fin s1 => ∃ v, fin = .done (.ret v) ∧ Q v s1) E s := by
  show wpAny _ _ (field (.ref e) 2 >>= _) _ _ s
  refine wpAny_bind (wpAny_field ee rfl (x := .ref it) rfl ?_)
  refine wpAny_bind (nx _ _ fun x h1 tk px e1 => ?_)
  show wpAny _ _ (field (.ref e) 3 >>= _) _ _ { s with heap := h1, toks := tk }
  refine wpAny_bind (wpAny_field (s := { s with heap := h1, toks := tk }) e1 rfl (x := rawInt i) rfl ?_)
  show wpAny _ _ (field (.ref e) 4 >>= _) _ _ { s with heap := h1, toks := tk }
  refine wpAny_bind (wpAny_field (s := { s with heap := h1, toks := tk }) e1 rfl (x := .none) rfl ?_)
  show wpAny _ _ (mkInt i >>= _) _ _ { s with heap := h1, toks := tk }
  refine wpAny_bind (wpAny_mkInt ?_)
  show wpAny _ _ (setField (.ref e) 3 (rawInt ((i : Int) + 1)) >>= _) _ _ { s with heap := h1, toks := tk + 1 }
  refine wpAny_bind (wpAny_setField_rec (s := { s with heap := h1, toks := tk + 1 }) e1 (by simp) fun h2 e2 sb2 => ?_)
  show wpAny _ _ (setField (.ref e) 4 .none >>= _) _ _ { s with heap := h2, toks := tk + 1 }
  refine wpAny_bind (wpAny_setField_rec (s := { s with heap := h2, toks := tk + 1 }) e2 (by simp) fun h3 e3 sb3 => ?_)
  show wpAny _ _ (newTuple [.int i tk, x] >>= _) _ _ { s with heap := h3, toks := tk + 1 }
  refine wpAny_bind (wpAny_newTuple ?_)
  have sz3 : h3.objs.size = h1.objs.size := by rw [sb3.1, sb2.1]
  have el : e < h1.objs.size := Heap.lt_size e1
  have e4 : IsEnum (h3.push { cls := .type "tuple", data := .seq #[.int i tk, x] }) e it ((i : Int) + 1) old := Heap.get?_push_of_some _ e3
  have t4 : (h3.push { cls := .type "tuple", data := .seq #[.int i tk, x] }).get? h1.objs.size = some { cls := .type "tuple", data := .seq #[.int i tk, x] } := by
    rw [← sz3]
    exact Heap.get?_push_size _ rfl
  have k4 : ∀ b o, b ≠ e → h1.get? b = some o → (h3.push { cls := .type "tuple", data := .seq #[.int i tk, x] }).get? b = some o := fun b o n q => Heap.get?_push_of_some _ (sb3.extBut _ _ n (sb2.extBut _ _ n q))
  have z4 : (h3.push { cls := .type "tuple", data := .seq #[.int i tk, x] }).objs.size = h1.objs.size + 1 := by rw [Heap.size_push, sz3]
  show wpAny _ _ (Builtin.SmallTypes.ownedTupleIsFree (.ref e) >>= _) _ _ ⟨h3.push { cls := .type "tuple", data := .seq #[.int i tk, x] }, s.gens, s.drawn, tk + 1, s.os⟩
  dsimp only
  rw [sz3]
  generalize h3.push { cls := .type "tuple", data := .seq #[.int i tk, x] } = h4 at e4 t4 k4 z4
  refine wpAny_bind ?_
  unfold Builtin.SmallTypes.ownedTupleIsFree
  refine wpAny_bind (wpAny_field (s := ⟨h4, s.gens, s.drawn, tk + 1, s.os⟩) e4 rfl (x := .none) rfl (wpAny_pure ?_))
  simp only [if_true]
  refine wpAny_bind (wpAny_rule ?_)
  refine wpAny_bind (wpAny_field (s := ⟨h4, s.gens, s.drawn, tk + 1, s.os⟩) e4 rfl (x := old) rfl ?_)
  refine wpAny_bind (wpAny_setField_rec (s := ⟨h4, s.gens, s.drawn, tk + 1, s.os⟩) e4 (by simp) fun h5 e5 sb5 => ?_)
  show wpAny _ _ (Builtin.SmallTypes.ownedTupleHandOut (.ref e) (.ref h1.objs.size) >>= _) _ _ ⟨h5, s.gens, s.drawn, tk + 1, s.os⟩
  refine wpAny_bind ?_
  unfold Builtin.SmallTypes.ownedTupleHandOut
  refine wpAny_bind (wpAny_setField_rec (s := ⟨h5, s.gens, s.drawn, tk + 1, s.os⟩) e5 (by simp) fun h6 e6 sb6 => ?_)
  refine wpAny_setField_rec (s := ⟨h6, s.gens, s.drawn, tk + 1, s.os⟩) e6 (by simp) fun h7 e7 sb7 => ?_
  have up : ∀ b o, b ≠ e → h4.get? b = some o → h7.get? b = some o := fun b o n q => sb7.extBut _ _ n (sb6.extBut _ _ n (sb5.extBut _ _ n q))
  exact wpAny_bind (wpAny_letGo (wpAny_pure ⟨_, rfl, hQ x h1 tk h7 px e7 (up _ _ (Nat.ne_of_gt el) t4) (by rw [sb7.1, sb6.1, sb5.1, z4]) fun b o n q => up b o n (k4 b o n q)⟩))
theorem next_of {e : Addr} {T id : String} {o : Obj} {f : Builtin} {Q : Value → Shared → Prop} (ho : s.heap.get? e = some o) (hc : o.cls = .type T) (sl : Slot T "__next__" id) (en : entryFor table id = some f) (ar : argsOk id ⟨[.ref e], []⟩)
    (hq : wpAny (model prog w) A.in1 (f ⟨[.ref e], []⟩) (fun fin s1 => ∃ v, fin = .done (.ret v) ∧ Q v s1) E s) : wpAny (model prog w) A (Builtin.SmallTypes.nextOf (.ref e)) Q E s := by
  have hT : s.TypeIs (.ref e) T := ⟨o, ho, hc⟩
  unfold Builtin.SmallTypes.nextOf
  refine wpAny_bind (wpAny_callSpecial?_slot (name := Str.ofString "__next__") hT sl (wpAny_call_entry sl hT en ?_ ar))
  exact wpAny_mono hq (fun fin s1 ⟨v, e1, q⟩ => ⟨v, e1, wpAny_pure q⟩) fun _ _ q => q
theorem py_next {e : Addr} {T id : String} {o : Obj} {f : Builtin} {Q : Option Value → Shared → Prop} (ho : s.heap.get? e = some o) (hc : o.cls = .type T) (sl : Slot T "__next__" id) (en : entryFor table id = some f) (ar : argsOk id ⟨[.ref e], []⟩)
    (hq : wpAny (model prog w) A.in1 (f ⟨[.ref e], []⟩) (fun fin s1 => ∃ v, fin = .done (.ret v) ∧ Q (some v) s1) (fun x s1 => (∃ e o, x = .ref e ∧ s1.heap.get? e = some o ∧ o.cls = .type "StopIteration") ∧ Q none s1) s) : wpAny (model prog w) A (pyNext (.ref e)) Q E s := by
  have hT : s.TypeIs (.ref e) T := ⟨o, ho, hc⟩
  unfold pyNext
  refine wpAny_bind (wpAny_attempt (wpAny_callSpecial?_slot (name := Str.ofString "__next__") hT sl (wpAny_call_entry sl hT en ?_ ar)))
  refine wpAny_mono hq (fun fin s1 ⟨v, e1, q⟩ => ⟨v, e1, wpAny_pure q⟩) fun x s1 ⟨⟨e, o, ex, ho, hc⟩, q⟩ => ?_
  subst ex
  refine wpAny_bind (wpAny_isInstance (T := "StopIteration") (b := true) ⟨o, ho, hc⟩ isSubtype_stop ?_)
  exact wpAny_pure q
theorem enum_stop {e it : Addr} {i : Int} {old : Value} {Q : Fin → Shared → Prop} (ee : IsEnum s.heap e it i old)
    (nx : ∀ (Q : Value → Shared → Prop), wpAny (model prog w) A (Builtin.SmallTypes.nextOf (.ref it)) Q E s) :
    wpAny (model prog w) A (Builtin.«enumerate.__next__» ⟨[.ref e], []⟩) Q E s := by
  show wpAny _ _ (field (.ref e) 2 >>= _) _ _ s
  refine wpAny_bind (wpAny_field ee rfl (x := .ref it) rfl ?_)
  exact wpAny_bind (nx _)
/-! enumerate(v) -/
structure Starts (v : Value) (H : Heap → Prop) (it : Heap → Addr) (nx : Heap → Heap) : Prop where
  iter : ∀ (prog : Program) (w : World) (A : Around) (E : Value → Shared → Prop) (s : Shared) (Q : Value → Shared → Prop), H s.heap → Q (.ref (it s.heap)) { s with heap := nx s.heap } → wpAny (model prog w) A (pyIter v) Q E s
  grow : ∀ h, H h → ∀ b o, h.get? b = some o → (nx h).get? b = some o
abbrev enumObj (it : Addr) : Obj := { cls := .type "enumerate", data := .fields #[.none, .bool false, .ref it, rawInt 0, .none, .none] }
theorem meets_enum {v : Value} {H : Heap → Prop} {it : Heap → Addr} {nx : Heap → Heap} (B : Starts v H it nx) :
    Meets (Builtin.«enumerate.__new__» ⟨[.type "enumerate", v], []⟩) (fun _ R s => H s.heap ∧ R (.ok (.ret (.ref (nx s.heap).objs.size))) { s with heap := (nx s.heap).push (enumObj (it s.heap)) }) :=
  .of_wp fun prog w A R s hr => by
    obtain ⟨hp, g, d, tk, os⟩ := s
    obtain ⟨h1, hr⟩ := hr
    have sub := sub_enumerate
    have q1 : ∀ {A1 : Around} {E : Value → Shared → Prop} {Q : Value → Shared → Prop}, Q (.ref (it hp)) ⟨nx hp, g, d, tk, os⟩ → wpAny (model prog w) A1 (pyIter v) Q E ⟨hp, g, d, tk, os⟩ :=
      fun q => B.iter prog w _ _ ⟨hp, g, d, tk, os⟩ _ h1 q
    wp_walk using q1
    refine wpAny_stack_any fun st => wpAny_pure ?_
    split
    · rename_i c _ _ _ _ _
      cases (c == Value.type "enumerate") <;> (wp_walk using q1; exact ⟨_, rfl, hr⟩)
    · wp_walk using q1
      exact ⟨_, rfl, hr⟩
theorem call_enum {v : Value} {H : Heap → Prop} {it : Heap → Addr} {nx : Heap → Heap} {Q : Value → Shared → Prop} (B : Starts v H it nx) (h1 : H s.heap)
    (hq : ∀ h2, IsEnum h2 (nx s.heap).objs.size (it s.heap) 0 .none → h2.objs.size = (nx s.heap).objs.size + 1 → (∀ b o, (nx s.heap).get? b = some o → h2.get? b = some o) → Q (.ref (nx s.heap).objs.size) { s with heap := h2 }) :
    wpAny (model prog w) A (call (.type "enumerate") [v]) Q E s := by
  refine callType_new F.called_enumerate (by decide) (F.typeCall_enumerate_1 _) (F.newCall_enumerate_1 _) (fun obj => F.args_object_init_2 obj _) F.entry_enumerate_new (meets_enum B) ⟨h1, ?_⟩
  have en : IsEnum ((nx s.heap).push (enumObj (it s.heap))) (nx s.heap).objs.size (it s.heap) 0 .none := Heap.get?_push_size _ rfl
  exact ⟨⟨_, en, rfl⟩, hq _ en (by rw [Heap.size_push]) fun b o q => Heap.get?_push_of_some _ q⟩
theorem starts_zip (z TI TO : Addr) (f0 : Value) : Starts (.ref z) (fun h => IsZip h z TI TO f0) (fun _ => z) id where
  iter := fun prog w A E s Q hz q => wpAny_pyIter_zip hz q
  grow := fun _ _ _ _ e => e
end
end PLZ
set_option Elab.async false
set_option linter.all false
set_option maxRecDepth 100000
set_option maxHeartbeats 4000000
namespace PLZ
open PySem PySem.Spec PyProof.Rows L2
/-- a tuple or a list, what is in it -/
abbrev Q3 := Addr × Bool × List V
def Sq (K : PySem.W.Frag) (H : Hp) (q : Q3) : Prop := if q.2.1 then SqT K H q.1 q.2.2 else SqL K H q.1 q.2.2
def Held (K : PySem.W.Frag) (H : Hp) (L : List Q3) : Prop := ∀ q ∈ L, Sq K H q
def vrow (L : List Q3) (j : Nat) : List V := L.map fun q => q.2.2.getD j .non
abbrev Ln := Src × List V
def q3 (p : Ln) : Q3 := (p.1.l, p.1.tp, p.2)
def IterAt (h : Heap) (c : Src) (j : Nat) : Prop := if c.tp then h.IsTupleIter c.it c.l j else h.IsListIter c.it c.l j
theorem IterAt.keep {h h' : Heap} {c : Src} {j : Nat} (a : IterAt h c j) (k : ∀ o, h.get? c.it = some o → h'.get? c.it = some o) : IterAt h' c j := by
  unfold IterAt at a ⊢
  split at a
  · rename_i q
    rw [if_pos q]
    exact a.at fun o e => k o e
  · rename_i q
    rw [if_neg q]
    exact a.at fun o e => k o e
theorem IterAt.obj {h : Heap} {c : Src} {j : Nat} (a : IterAt h c j) : ∃ o, h.get? c.it = some o ∧ ∃ vs, o.data = .fields vs := by
  unfold IterAt at a
  split at a
  · obtain ⟨o, ho, _, hd⟩ := a
    exact ⟨o, ho, _, hd⟩
  · obtain ⟨o, ho, _, hd⟩ := a
    exact ⟨o, ho, _, hd⟩
theorem At.iter {h : Heap} {c : Src} {xs : List Value} {j : Nat} (a : At h c xs j) : IterAt h c j := by
  unfold At at a
  unfold IterAt
  split at a
  · rename_i q
    rw [if_pos q]
    exact a.1
  · rename_i q
    rw [if_neg q]
    exact a.1
theorem Sq.at_ {X : Cx} {pins : List (Addr × Obj)} {σ : L2.St} {H : Hp} {s : Shared} (I : Inv X pins σ H s) {p : Ln} (h : Sq X.K H (q3 p)) {j : Nat} (a : IterAt s.heap p.1 j) : ∃ us : List Value, Vals p.2 us ∧ At s.heap p.1 us j := by
  unfold Sq q3 at h
  unfold IterAt at a
  dsimp only at h
  unfold At
  split at a
  · rename_i q
    rw [if_pos q] at h
    obtain ⟨its, rv, pl, _⟩ := I.tuple h
    exact ⟨its, rv, by rw [if_pos q]; exact ⟨a, pl⟩⟩
  · rename_i q
    rw [if_neg q] at h
    obtain ⟨its, rv, pl, _⟩ := I.list h
    exact ⟨its, rv, by rw [if_neg q]; exact ⟨a, pl.isList⟩⟩
theorem cols_of {X : Cx} {pins : List (Addr × Obj)} {σ : L2.St} {H : Hp} {s : Shared} (I : Inv X pins σ H s) {j n : Nat} : ∀ (L : List Ln), (∀ p ∈ L, Sq X.K H (q3 p)) → (∀ p ∈ L, IterAt s.heap p.1 j) → (∀ p ∈ L, p.2.length = n) →
    ∃ cs : List Col, cs.map (·.1) = L.map (·.1) ∧ (∀ p ∈ cs, At s.heap p.1 p.2 j) ∧ (∀ p ∈ cs, p.2.length = n) ∧ ∀ i, i < n → Vals (vrow (L.map q3) i) (row cs i)
  | [], _, _, _ => by
    refine ⟨[], rfl, ?_, ?_, fun _ _ => Paired.nil⟩ <;> intro p hp <;> cases hp
  | p :: L, h1, h2, h3 => by
    obtain ⟨cs, e, a, l, r⟩ := cols_of I L (fun p hp => h1 p (List.mem_cons_of_mem _ hp)) (fun p hp => h2 p (List.mem_cons_of_mem _ hp)) fun p hp => h3 p (List.mem_cons_of_mem _ hp)
    obtain ⟨us, rv, au⟩ := (h1 p (List.mem_cons_self ..)).at_ I (h2 p (List.mem_cons_self ..))
    have lu : us.length = n := by rw [← rv.length]; exact h3 p (List.mem_cons_self ..)
    refine ⟨(p.1, us) :: cs, by simp [e], fun q hq => ?_, fun q hq => ?_, fun i hi => ?_⟩
    · rcases List.mem_cons.mp hq with rfl | hq
      · exact au
      · exact a q hq
    · rcases List.mem_cons.mp hq with rfl | hq
      · exact lu
      · exact l q hq
    · refine .cons ?_ (r i hi)
      have hp : i < p.2.length := by rw [h3 p (List.mem_cons_self ..)]; exact hi
      obtain ⟨u, hu, ru⟩ := rv.get (i := i) (List.getElem?_eq_getElem hp)
      show RelV (p.2.getD i .non) (us.getD i .none)
      rw [List.getD_eq_getElem?_getD, List.getD_eq_getElem?_getD, hu, List.getElem?_eq_getElem hp]
      exact ru
/-! the zip's shape -/
def feetS (z TI TO : Addr) (ss : List Src) : List Addr := z :: TI :: TO :: ss.map (·.it)
theorem feet_eq {z TI TO : Addr} {cs : List Col} {ss : List Src} (e : cs.map (·.1) = ss) : feet z TI TO cs = feetS z TI TO ss := by
  subst e
  unfold feet feetS
  rw [List.map_map]
  rfl
structure ApartS (z TI TO : Addr) (ss : List Src) : Prop where
  nd : (feetS z TI TO ss).Nodup
  off : ∀ c ∈ ss, c.l ∉ feetS z TI TO ss
  few : ss.length ≤ 8
  non : ss ≠ []
theorem ApartS.to {z TI TO : Addr} {ss : List Src} {cs : List Col} (D : ApartS z TI TO ss) (e : cs.map (·.1) = ss) : Apart z TI TO cs where
  nd := by rw [feet_eq e]; exact D.nd
  off := fun p hp => by
    rw [feet_eq e]
    exact D.off _ (e ▸ List.mem_map_of_mem (f := fun q : Col => q.1) hp)
  few := by
    have := D.few
    rw [← e] at this
    simpa using this
  non := fun q => D.non (by rw [← e, q]; rfl)
structure ZipIt (h : Heap) (z TI TO : Addr) (ss : List Src) (j : Nat) : Prop where
  z : ∃ f0 f1, (f0 = .none ∨ ∃ T : Addr, f0 = rawInt T) ∧ ZipRec h z TI TO f0 f1
  ti : TupRec h TI (ss.map fun c => .ref c.it)
  to : ∃ ws, ws.length = ss.length ∧ TupRec h TO ws
  its : ∀ c ∈ ss, IterAt h c j
theorem ZipIt.up {h : Heap} {z TI TO : Addr} {ss : List Src} {cs : List Col} {j : Nat} (Z : ZipIt h z TI TO ss j) (e : cs.map (·.1) = ss) (a : ∀ p ∈ cs, At h p.1 p.2 j) : ZipAt h z TI TO cs j where
  z := Z.z
  ti := by
    have t := Z.ti
    rw [← e, List.map_map] at t
    exact t
  to := by
    obtain ⟨ws, l, t⟩ := Z.to
    exact ⟨ws, by rw [l, ← e]; simp, t⟩
  at_ := a
theorem ZipAt.down {h : Heap} {z TI TO : Addr} {ss : List Src} {cs : List Col} {j : Nat} (Z : ZipAt h z TI TO cs j) (e : cs.map (·.1) = ss) : ZipIt h z TI TO ss j where
  z := Z.z
  ti := by
    have t := Z.ti
    rw [← e, List.map_map]
    exact t
  to := by
    obtain ⟨ws, l, t⟩ := Z.to
    exact ⟨ws, by rw [l, ← e]; simp, t⟩
  its := fun c hc => by
    rw [← e] at hc
    obtain ⟨p, hp, rfl⟩ := List.mem_map.mp hc
    exact (Z.at_ p hp).iter
theorem ZipIt.keep {h h' : Heap} {z TI TO : Addr} {ss : List Src} {j : Nat} (Z : ZipIt h z TI TO ss j) (k : ∀ b ∈ feetS z TI TO ss, ∀ o, h.get? b = some o → h'.get? b = some o) : ZipIt h' z TI TO ss j where
  z := let ⟨f0, f1, a, b⟩ := Z.z; ⟨f0, f1, a, k z (by unfold feetS; simp) _ b⟩
  ti := k TI (by unfold feetS; simp) _ Z.ti
  to := let ⟨ws, l, t⟩ := Z.to; ⟨ws, l, k TO (by unfold feetS; simp) _ t⟩
  its := fun c hc => (Z.its c hc).keep fun o e => k c.it (by unfold feetS; simp only [List.mem_cons, List.mem_map]; exact .inr (.inr (.inr ⟨c, hc, rfl⟩))) o e
theorem ZipIt.obj {h : Heap} {z TI TO : Addr} {ss : List Src} {j : Nat} (Z : ZipIt h z TI TO ss j) : ∀ b ∈ feetS z TI TO ss, ∃ o, h.get? b = some o ∧ ∀ v, o.data ≠ .cell v := fun b hb => by
  unfold feetS at hb
  simp only [List.mem_cons, List.mem_map] at hb
  rcases hb with rfl | rfl | rfl | ⟨c, hc, rfl⟩
  · obtain ⟨f0, f1, _, e⟩ := Z.z
    exact ⟨_, e, fun v q => nomatch q⟩
  · exact ⟨_, Z.ti, fun v q => nomatch q⟩
  · obtain ⟨ws, _, e⟩ := Z.to
    exact ⟨_, e, fun v q => nomatch q⟩
  · obtain ⟨o, ho, vs, hd⟩ := (Z.its c hc).obj
    exact ⟨o, ho, fun v q => by rw [hd] at q; cases q⟩
/-! what draws -/
structure Drw (P : Program) (w : World) (K : PySem.W.Frag) (J : It) (fp : List Addr) (it : Addr) (tn : Nat → Heap → Prop) : Prop where
  mem : it ∈ fp
  obj : ∀ i h, tn i h → ∀ b ∈ fp, ∃ o, h.get? b = some o ∧ ∀ v, o.data ≠ .cell v
  keep : ∀ i h h', tn i h → (∀ b ∈ fp, ∀ o, h.get? b = some o → h'.get? b = some o) → tn i h'
  item : ∀ (X : Cx) (A : Around), X.prog = P → X.w = w → X.K = K → X.calm = true → ∀ (i : Nat) (pins : List (Addr × Obj)) (s : Shared) (σ : L2.St) (H : Hp) (Q : Value → Shared → Prop) (E : Value → Shared → Prop), Inv X pins σ H s → (∀ b ∈ fp, FpOk X pins H b) → tn i s.heap → J.go i H →
    (∀ x u H' h1 tk, Inv X pins σ H' { s with heap := h1, toks := tk } → RelV x u → J.yld i H x H' → tn (i + 1) h1 → (∀ b ∈ fp, H' b = none) → (∀ b o, b ∉ fp → s.heap.get? b = some o → h1.get? b = some o) → (∀ b, s.heap.objs.size > b → H' b = H b) → Q u { s with heap := h1, toks := tk }) →
    wpAny (model P w) A (Builtin.SmallTypes.nextOf (.ref it)) Q E s
  done : ∀ (X : Cx) (A : Around), X.prog = P → X.w = w → X.K = K → X.calm = true → A.handled = none → ∀ (i : Nat) (pins : List (Addr × Obj)) (s : Shared) (σ : L2.St) (H : Hp) (Q : Value → Shared → Prop) (E : Value → Shared → Prop), Inv X pins σ H s → (∀ b ∈ fp, FpOk X pins H b) → tn i s.heap → J.stop i H →
    (∀ h1 e, Inv X pins σ H { s with heap := h1 } → (∃ o, h1.get? e = some o ∧ o.cls = .type "StopIteration") → E (.ref e) { s with heap := h1 }) →
    wpAny (model P w) A (Builtin.SmallTypes.nextOf (.ref it)) Q E s
def ItZ (K : PySem.W.Frag) (L : List Q3) (n : Nat) : It := ⟨fun i H => i < n ∧ Held K H L, fun i H v H' => ∃ T, v = .ref T ∧ H T = none ∧ H' = upd H T (.tup (vrow L i)), fun i H => n ≤ i ∧ Held K H L⟩
theorem vals_row {X : Cx} {H : Hp} {h : Heap} {T : Addr} {xs : List V} {us : List Value} (rv : Vals xs us) (hl : xs.length ≤ 8) (t : TupRec h T us) : ObjOk X.prog X.w (upd H T (.tup xs)) h T (.tup xs) :=
  ⟨few_ok hl, us, rv, ⟨_, t, rfl, _, rfl⟩⟩
theorem drw_zip {P : Program} {w : World} {K : PySem.W.Frag} {z TI TO : Addr} {L : List Ln} {n : Nat} (D : ApartS z TI TO (L.map (·.1))) (hn : ∀ p ∈ L, p.2.length = n) :
    Drw P w K (ItZ K (L.map q3) n) (feetS z TI TO (L.map (·.1))) z (fun i h => ZipIt h z TI TO (L.map (·.1)) i) where
  mem := by unfold feetS; simp
  obj := fun i h Z => Z.obj
  keep := fun i h h' Z k => Z.keep k
  item := by
    intro X A hP hw hK hc i pins s σ H Q E I hf Z hg hQ
    subst hP hw hK
    obtain ⟨cs, ec, ac, lc, rc⟩ := cols_of I (j := i) L (fun p hp => hg.2 _ (List.mem_map_of_mem (f := q3) hp)) (fun p hp => Z.its _ (List.mem_map_of_mem (f := fun q : Ln => q.1) hp)) hn
    have D2 := D.to ec
    have Z2 := Z.up ec ac
    obtain ⟨f0, f1, _, ez⟩ := Z.z
    refine next_of ez rfl F.slot_zip_next F.entry_zip_next (F.args_zip_next_1 _) (zip_item D2 Z2 (fun p hp => by rw [lc p hp]; exact hg.1) fun h1 Z1 t1 s1 k1 => ?_)
    rw [feet_eq ec] at k1
    have hT := I.hok.fresh (Nat.le_refl s.heap.objs.size)
    have hl : (vrow (L.map q3) i).length ≤ 8 := by
      have := D.few
      simp [vrow] at this ⊢
      exact this
    have I1 : Inv X pins σ (upd H s.heap.objs.size (.tup (vrow (L.map q3) i))) { s with heap := h1, toks := s.toks } := I.turnedNew (ch := feetS z TI TO (L.map (·.1))) k1 hf (Nat.le_refl _) (vals_row (rc i hg.1) hl t1)
    refine hQ (.ref s.heap.objs.size) _ _ h1 s.toks I1 rfl ⟨_, rfl, hT, rfl⟩ (Z1.down ec) (fun b hb => ?_) k1 fun b hb => upd_ne (Nat.ne_of_lt hb)
    obtain ⟨o, ho, _⟩ := Z.obj b hb
    rw [upd_ne (Nat.ne_of_lt (Heap.lt_size ho))]
    exact (hf b hb).1
  done := by
    intro X A hP hw hK hc hh i pins s σ H Q E I hf Z hg hE
    subst hP hw hK
    obtain ⟨cs, ec, ac, lc, rc⟩ := cols_of I (j := i) L (fun p hp => hg.2 _ (List.mem_map_of_mem (f := q3) hp)) (fun p hp => Z.its _ (List.mem_map_of_mem (f := fun q : Ln => q.1) hp)) hn
    have D2 := D.to ec
    have Z2 := Z.up ec ac
    obtain ⟨f0, f1, _, ez⟩ := Z.z
    refine next_of ez rfl F.slot_zip_next F.entry_zip_next (F.args_zip_next_1 _) (zip_stop hh D2 Z2 (fun p hp => by rw [lc p hp]; exact hg.1) fun h1 e k1 ho => hE h1 e ?_ ho)
    rw [feet_eq ec] at k1
    exact I.turnedL (t' := s.toks) (ch := feetS z TI TO (L.map (·.1))) k1 hf
/-- the step ahead of the store, of a zip -/
theorem go_zip {prog : Program} {w : World} {A : Around} {E : Value → Shared → Prop} {s : Shared} {tg : Expr} {z TI TO T : Addr} {f0 : Value} {f1 : Bool} {Q : Unit → Shared → Prop} (ez : ZipRec s.heap z TI TO f0 f1)
    (h1 : Q () s) (h2 : ∀ h1, ZipRec h1 z TI TO .none f1 → Heap.SameBut z s.heap h1 → Q () { s with heap := h1 }) : wpAny (model prog w) A (letOwnedTupleGo tg (.ref z) (.ref T)) Q E s := by
  have key : wpAny (model prog w) A (do
      let o ← load z
      match o.cls, o.data with
      | .type n, .fields vs =>
        if ["enumerate", "zip", "dict_itemiterator", "dict_reverseitemiterator", "odict_iterator", "itertools.zip_longest", "itertools.pairwise"].contains n && vs[0]? == some (rawInt T) then
          rule "for.unpacks-the-owned-tuple"
          updateField z 0 .none
      | _, _ => pure ()) Q E s := by
    refine wpAny_bind (wpAny_load ez ?_)
    dsimp only
    split
    · refine wpAny_bind (wpAny_rule ?_)
      show wpAny _ A (setField (.ref z) 0 .none) Q E s
      exact wpAny_setField_rec ez (by simp) fun h1 e1 sb => h2 h1 e1 sb
    · exact wpAny_pure h1
  unfold letOwnedTupleGo
  cases tg <;> first
    | exact wpAny_pure h1
    | exact key
theorem turn_zip {P : Program} {w : World} {K : PySem.W.Frag} {tg : Expr} {z TI TO : Addr} {L : List Ln} {n : Nat} (D : ApartS z TI TO (L.map (·.1))) (hn : ∀ p ∈ L, p.2.length = n) :
    Turn P w K tg (ItZ K (L.map q3) n) (feetS z TI TO (L.map (·.1))) z (fun i h => ZipIt h z TI TO (L.map (·.1)) i) where
  mem := by unfold feetS; simp
  obj := fun i h Z => Z.obj
  keep := fun i h h' Z k => Z.keep k
  item := by
    intro X hP hw hK hc i pins s σ H E I hf Z hg
    have B := drw_zip (P := P) (w := w) (K := K) D hn
    obtain ⟨f0, f1, _, ez⟩ := Z.z
    have zf : z ∈ feetS z TI TO (L.map (·.1)) := by unfold feetS; simp
    refine py_next ez rfl F.slot_zip_next F.entry_zip_next (F.args_zip_next_1 _) ?_
    subst hP hw hK
    obtain ⟨cs, ec, ac, lc, rc⟩ := cols_of I (j := i) L (fun p hp => hg.2 _ (List.mem_map_of_mem (f := q3) hp)) (fun p hp => Z.its _ (List.mem_map_of_mem (f := fun q : Ln => q.1) hp)) hn
    refine zip_item (D.to ec) (Z.up ec ac) (fun p hp => by rw [lc p hp]; exact hg.1) fun h1 Z1 t1 s1 k1 => ?_
    rw [feet_eq ec] at k1
    have hT := I.hok.fresh (Nat.le_refl s.heap.objs.size)
    have hl : (vrow (L.map q3) i).length ≤ 8 := by
      have := D.few
      simp [vrow] at this ⊢
      exact this
    have zl : z < s.heap.objs.size := Heap.lt_size ez
    have fin : ∀ h2, ZipIt h2 z TI TO (L.map (·.1)) (i + 1) → (∀ b o, b ≠ z → h1.get? b = some o → h2.get? b = some o) → ∃ x H', Inv X pins σ H' { s with heap := h2 } ∧ RelV x (.ref s.heap.objs.size) ∧ (ItZ X.K (L.map q3) n).yld i H x H' ∧ ZipIt h2 z TI TO (L.map (·.1)) (i + 1) ∧ ∀ b ∈ feetS z TI TO (L.map (·.1)), H' b = none := fun h2 Z2 k2 => by
      have I1 : Inv X pins σ (upd H s.heap.objs.size (.tup (vrow (L.map q3) i))) { s with heap := h2, toks := s.toks } := I.turnedNew (ch := feetS z TI TO (L.map (·.1))) (fun b o hb q => k2 b o (fun c => hb (c ▸ zf)) (k1 b o hb q)) hf (Nat.le_refl _) (vals_row (rc i hg.1) hl (k2 _ _ (Nat.ne_of_gt zl) t1))
      refine ⟨.ref s.heap.objs.size, _, I1, rfl, ⟨_, rfl, hT, rfl⟩, Z2, fun b hb => ?_⟩
      obtain ⟨o, ho, _⟩ := Z.obj b hb
      rw [upd_ne (Nat.ne_of_lt (Heap.lt_size ho))]
      exact (hf b hb).1
    have Z3 := Z1.down ec
    obtain ⟨g0, g1, _, ez1⟩ := Z3.z
    refine ⟨_, rfl, go_zip (s := { s with heap := h1 }) ez1 (fin h1 Z3 fun _ _ _ q => q) fun h2 e2 sb => fin h2 ?_ fun b o n q => sb.extBut _ _ n q⟩
    have D2 := D.to ec
    obtain ⟨n1, n2, n3, n4⟩ := D2.ne
    have Z4 : ZipAt h2 z TI TO cs (i + 1) := ⟨⟨_, _, .inl rfl, e2⟩, sb.extBut _ _ (Ne.symm n1) Z1.ti, let ⟨ws, l, t⟩ := Z1.to; ⟨ws, l, sb.extBut _ _ (Ne.symm n2) t⟩, fun p hp => (Z1.at_ p hp).keep (fun o e => sb.extBut _ _ (n4 p hp).1 e) fun o e => sb.extBut _ _ (fun c => D2.off p hp (by rw [c]; unfold feet; simp)) e⟩
    exact Z4.down ec
  done := by
    intro X hP hw hK hc i pins s σ H E I hf Z hg
    obtain ⟨f0, f1, _, ez⟩ := Z.z
    refine py_next ez rfl F.slot_zip_next F.entry_zip_next (F.args_zip_next_1 _) ?_
    subst hP hw hK
    obtain ⟨cs, ec, ac, lc, rc⟩ := cols_of I (j := i) L (fun p hp => hg.2 _ (List.mem_map_of_mem (f := q3) hp)) (fun p hp => Z.its _ (List.mem_map_of_mem (f := fun q : Ln => q.1) hp)) hn
    refine zip_stop (I.ok.hd hc) (D.to ec) (Z.up ec ac) (fun p hp => by rw [lc p hp]; exact hg.1) fun h1 e k1 ⟨o, ho, hcl⟩ => ⟨⟨e, o, rfl, ho, hcl⟩, rfl, ?_⟩
    rw [feet_eq ec] at k1
    exact I.turnedL (t' := s.toks) (ch := feetS z TI TO (L.map (·.1))) k1 hf
  self := fun A i s Q E Z hq => by
    obtain ⟨f0, f1, _, ez⟩ := Z.z
    have hT : s.TypeIs (.ref z) "zip" := ⟨_, ez, rfl⟩
    refine wpAny_pyIter_slot hT F.slot_zip_iter (wpAny_call_entry F.slot_zip_iter hT F.entry_zip_iter ?_ (F.args_zip_iter_1 _))
    show wpAny _ _ (ret (.ref z)) _ _ s
    exact wpAny_pure ⟨_, rfl, "zip", _, hT, F.slot_zip_next.lookup, hq⟩
/-! enumerate over what draws -/
def ItE (J : It) : It := ⟨J.go, fun i H v H' => ∃ x H1 T, J.yld i H x H1 ∧ v = .ref T ∧ H1 T = none ∧ H' = upd H1 T (.tup [.int (i : Nat), x]), J.stop⟩
theorem turn_enum {P : Program} {w : World} {K : PySem.W.Frag} {J : It} {fp : List Addr} {e it : Addr} {tn : Nat → Heap → Prop} {elts : List Expr} {kk : Nat} {tpos : Pos} (B : Drw P w K J fp it tn) (hef : e ∉ fp) :
    Turn P w K (.Tuple elts kk tpos) (ItE J) (e :: fp) e (fun i h => (∃ old, IsEnum h e it ((i : Nat) : Int) old) ∧ tn i h) where
  mem := List.mem_cons_self ..
  obj := fun i h ⟨⟨old, ee⟩, st⟩ b hb => by
    rcases List.mem_cons.mp hb with rfl | hb
    · exact ⟨_, ee, fun v q => nomatch q⟩
    · exact B.obj i h st b hb
  keep := fun i h h' ⟨⟨old, ee⟩, st⟩ k => ⟨⟨old, k e (List.mem_cons_self ..) _ ee⟩, B.keep i h h' st fun b hb => k b (List.mem_cons_of_mem _ hb)⟩
  item := by
    intro X hP hw hK hc i pins s σ H E I hf st hg
    obtain ⟨⟨old, ee⟩, st⟩ := st
    refine py_next ee rfl F.slot_enumerate_next F.entry_enumerate_next (F.args_enumerate_next_1 _) ?_
    have hfe := hf e (List.mem_cons_self ..)
    have hff : ∀ b ∈ fp, FpOk X pins H b := fun b hb => hf b (List.mem_cons_of_mem _ hb)
    have el : e < s.heap.objs.size := Heap.lt_size ee
    refine enum_item ee (P := fun u h1 => ∃ x H' tk, Inv X pins σ H' { s with heap := h1, toks := tk } ∧ RelV x u ∧ J.yld i H x H' ∧ tn (i + 1) h1 ∧ (∀ b ∈ fp, H' b = none) ∧ H' e = none ∧ IsEnum h1 e it ((i : Nat) : Int) old) (fun Q E1 hq => ?_) ?_
    · refine B.item X _ hP hw hK hc i pins s σ H Q E1 I hff st hg fun x u H' h1 tk I1 r y t f k o => hq u h1 tk ⟨x, H', tk, I1, r, y, t, f, ?_, k _ _ hef ee⟩ (k _ _ hef ee)
      rw [o e el]
      exact hfe.1
    · rintro u h1 tk h2 ⟨x, H', tk', I1, r, y, t, f, oe, ee1⟩ eo tt sz k
      subst hP hw hK
      refine ⟨_, rfl, wpAny_letOwnedTupleGo_enum (s := { s with heap := h2, toks := tk + 1 }) eo fun h3 e3 sb => ?_⟩
      have el1 : e < h1.objs.size := Heap.lt_size ee1
      have t3 : h3.get? h1.objs.size = some { cls := .type "tuple", data := .seq #[.int i tk, u] } := (sb.2 _ (Nat.ne_of_gt el1)).trans tt
      have k3 : ∀ b o, b ≠ e → h1.get? b = some o → h3.get? b = some o := fun b o n q => sb.extBut _ _ n (k b o n q)
      have nw : ObjOk X.prog X.w (upd H' h1.objs.size (.tup [.int (i : Nat), x])) h3 h1.objs.size (.tup [.int (i : Nat), x]) := ⟨few_ok (by simp), [.int i tk, u], .cons ⟨_, rfl⟩ (.cons r .nil), ⟨_, t3, rfl, _, rfl⟩⟩
      have I0 : Inv X pins σ H' { s with heap := h1, toks := tk } := I1.kept (t' := tk) fun _ _ q => q
      have I2 : Inv X pins σ (upd H' h1.objs.size (.tup [.int (i : Nat), x])) { s with heap := h3, toks := tk + 1 } :=
        I0.turnedNew (ch := [e]) (fun b o hb q => k3 b o (fun c => hb (List.mem_singleton.mpr c)) q) (fun b hb => by rw [List.mem_singleton.mp hb]; exact ⟨oe, hfe.2⟩) (Nat.le_refl _) nw
      refine ⟨.ref h1.objs.size, _, I2, rfl, ⟨x, H', _, y, rfl, I1.hok.fresh (Nat.le_refl _), rfl⟩, ⟨⟨u, ?_⟩, B.keep (i + 1) h1 h3 t fun b hb o q => k3 b o (fun c => hef (c ▸ hb)) q⟩, fun b hb => ?_⟩
      · have ei : ((i + 1 : Nat) : Int) = (i : Int) + 1 := by omega
        rw [ei]
        exact e3
      · rcases List.mem_cons.mp hb with rfl | hb
        · rw [upd_ne (Nat.ne_of_lt el1)]
          exact oe
        · obtain ⟨o, ho, _⟩ := B.obj (i + 1) h1 t b hb
          rw [upd_ne (Nat.ne_of_lt (Heap.lt_size ho))]
          exact f b hb
  done := by
    intro X hP hw hK hc i pins s σ H E I hf st hg
    obtain ⟨⟨old, ee⟩, st⟩ := st
    refine py_next ee rfl F.slot_enumerate_next F.entry_enumerate_next (F.args_enumerate_next_1 _) ?_
    refine enum_stop ee fun Q => B.done X X.A.in1 hP hw hK hc (show X.A.in1.handled = none from I.ok.hd hc) i pins s σ H Q _ I (fun b hb => hf b (List.mem_cons_of_mem _ hb)) st hg fun h1 x I1 ⟨o, ho, hcl⟩ => ⟨⟨x, o, rfl, ho, hcl⟩, rfl, I1⟩
  self := fun A i s Q E st h => let ⟨⟨_, ee⟩, _⟩ := st; wpAny_pyIter_enum ee h
end PLZ
set_option Elab.async false
set_option linter.all false
set_option maxRecDepth 100000
set_option maxHeartbeats 4000000
namespace PLZ
open PySem PySem.Spec PyProof.Rows L2
theorem Begins.of {X : Cx} {pins : List (Addr × Obj)} {σ : L2.St} {H : Hp} {s : Shared} (I : Inv X pins σ H s) {q : Q3} (h : Sq X.K H q) : ∃ (o : Obj) (G : Heap → Prop), Begins (.ref q.1) o G ∧ G s.heap ∧ q.1 < s.heap.objs.size ∧ ∀ (h1 : Heap) (a : Addr), h1.get? a = some o → IterAt h1 ⟨a, q.1, q.2.1⟩ 0 := by
  unfold Sq at h
  split at h
  · rename_i t
    obtain ⟨its, rv, p, _⟩ := I.tuple h
    obtain ⟨o, ho, _⟩ := id p
    refine ⟨_, _, begins_tuple q.1 its.toArray, show s.heap.IsTuple q.1 its.toArray from p, Heap.lt_size ho, fun h1 a e => ?_⟩
    unfold IterAt
    rw [if_pos t]
    exact ⟨_, e, rfl, rfl⟩
  · rename_i t
    obtain ⟨its, rv, p, _⟩ := I.list h
    obtain ⟨o, n, ho, _⟩ := id p
    refine ⟨_, _, begins_list q.1 its.toArray, p.isList, Heap.lt_size ho, fun h1 a e => ?_⟩
    unfold IterAt
    rw [if_neg t]
    exact ⟨_, e, rfl, rfl⟩
/-- what a zip's call leads to -/
def ZipPost (X : Cx) (pins : List (Addr × Obj)) (σ : L2.St) (R : List Q3 → Hp → Prop) (v : Value) (s1 : Shared) : Prop :=
  ∃ z TI TO L H1, v = .ref z ∧ Inv X pins σ H1 s1 ∧ IsZip s1.heap z TI TO .none ∧ ZipIt s1.heap z TI TO (L.map (·.1)) 0 ∧ ApartS z TI TO ((L : List Ln).map (·.1)) ∧ (∀ b ∈ feetS z TI TO (L.map (·.1)), FpOk X pins H1 b) ∧ R (L.map q3) H1
abbrev TZ := L2.St → Hp → (List Q3 → Hp → Prop) → Prop
structure PZ (X : Cx) (e : Expr) (t : TZ) : Prop where
  run : ∀ (pins : List (Addr × Obj)) (s : Shared) (σ : L2.St) (H : Hp) (R : List Q3 → Hp → Prop), Inv X pins σ H s → t σ H R → wpAny (model X.prog X.w) X.A (eval e X.env) (ZipPost X pins σ R) X.xe s
def tZip2 (K : PySem.W.Frag) (ta : TA) : TZ := fun σ H R => ta σ H fun vs H1 => ∃ q1 q2 : Q3, vs = [.ref q1.1, .ref q2.1] ∧ Held K H1 [q1, q2] ∧ R [q1, q2] H1
theorem nd5 (n : Nat) : [n + 4, n + 2, n + 3, n, n + 1].Nodup := by
  simp only [List.nodup_cons, List.mem_cons, List.not_mem_nil, or_false, not_or, List.nodup_nil, not_false_eq_true, and_true]
  omega
theorem pz_zip2 {X : Cx} {e e2 : Expr} {ta : TA} {p pos : Pos} (hm : X.mg "zip" = none) (ha : PA X [e, e2] ta) (hg : Gl X "zip" := by rfl)
    (hs : starEach [e, e2] X.env = (false, eval e X.env) :: starEach [e2] X.env := by rfl) (hpl : (backTo pos (starEach [e2] X.env)).any (·.1) = false := by rfl) :
    PZ X (.Call (.Name "zip" p) [e, e2] [] pos) (tZip2 X.K ta) := by
  refine ⟨fun pins s σ H R I h => ?_⟩
  refine Call_ (ld_blt I hg hm PyProof.Rows.boot_zip (PyProof.Rows.callWith_type1 (thn (ha.run pos pins s σ H _ I h) fun us s1 ⟨vs, H1, I1, r1, q1, q2, ex, hL, hR⟩ => ?_) hs hpl))
  subst ex
  cases r1 with
  | cons x1 r1 =>
   cases r1 with
   | cons x2 r1 =>
    cases r1
    cases x1
    cases x2
    obtain ⟨o1, G1, B1, g1, l1, i1⟩ := Begins.of I1 (hL q1 (by simp))
    obtain ⟨o2, G2, B2, g2, l2, i2⟩ := Begins.of I1 (hL q2 (by simp))
    refine zip_begins2 B1 B2 g1 g2 fun h1 ez eTI eTO e1 e2 sz k => ?_
    have I2 : Inv X pins σ H1 { s1 with heap := h1 } := I1.kept (t' := s1.toks) k
    have big : ∀ b ∈ feetS (s1.heap.objs.size + 4) (s1.heap.objs.size + 2) (s1.heap.objs.size + 3) [⟨s1.heap.objs.size, q1.1, q1.2.1⟩, ⟨s1.heap.objs.size + 1, q2.1, q2.2.1⟩], s1.heap.objs.size ≤ b := fun b hb => by
      simp only [feetS, List.map_cons, List.map_nil, List.mem_cons, List.not_mem_nil, or_false] at hb
      rcases hb with rfl | rfl | rfl | rfl | rfl <;> omega
    refine ⟨_, _, _, [(⟨s1.heap.objs.size, q1.1, q1.2.1⟩, q1.2.2), (⟨s1.heap.objs.size + 1, q2.1, q2.2.1⟩, q2.2.2)], H1, rfl, I2, ez, ⟨⟨_, _, .inl rfl, ez⟩, eTI, ⟨[.none, .none], rfl, eTO⟩, fun c hc => ?_⟩, ⟨?_, fun c hc hb => ?_, by simp, by simp⟩, fun b hb => I1.fpOk (big b hb) (I1.hok.fresh (big b hb)), hR⟩
    · simp only [List.map_cons, List.map_nil, List.mem_cons, List.not_mem_nil, or_false] at hc
      rcases hc with rfl | rfl
      · exact i1 _ _ e1
      · exact i2 _ _ e2
    · exact nd5 _
    · have := big _ hb
      simp only [List.map_cons, List.map_nil, List.mem_cons, List.not_mem_nil, or_false] at hc
      rcases hc with rfl | rfl
      · exact absurd l1 (Nat.not_lt.mpr this)
      · exact absurd l2 (Nat.not_lt.mpr this)
/-- a loop over a zip -/
def iZ (K : PySem.W.Frag) (tz : TZ) : TI := fun σ H R => tz σ H fun L H1 => ∃ n, (∀ q ∈ L, q.2.2.length = n) ∧ R (ItZ K L n) H1
theorem pi_zipn {X : Cx} {tg e : Expr} {tz : TZ} (he : PZ X e tz) : PI X tg e (iZ X.K tz) := by
  refine ⟨fun pins s σ H R I h => thn (he.run pins s σ H _ I h) ?_⟩
  rintro v s1 ⟨z, TI, TO, L, H1, rfl, I1, ez, Z, D, f, n, hn, hR⟩
  refine wpAny_pyIter_zip ez ⟨z, feetS z TI TO (L.map (·.1)), _, _, H1, rfl, I1, turn_zip D fun p hp => hn _ (List.mem_map_of_mem (f := q3) hp), Z, f, hR⟩
/-- a loop over enumerate of a zip -/
def iEZ (K : PySem.W.Frag) (tz : TZ) : TI := fun σ H R => tz σ H fun L H1 => ∃ n, (∀ q ∈ L, q.2.2.length = n) ∧ R (ItE (ItZ K L n)) H1
theorem pi_enumz {X : Cx} {e : Expr} {tz : TZ} {elts : List Expr} {kk : Nat} {tpos p pos : Pos} (hm : X.mg "enumerate" = none) (he : PZ X e tz) (hg : Gl X "enumerate" := by rfl) (hs : starEach [e] X.env = [(false, eval e X.env)] := by rfl) :
    PI X (.Tuple elts kk tpos) (.Call (.Name "enumerate" p) [e] [] pos) (iEZ X.K tz) := by
  refine ⟨fun pins s σ H R I h => ?_⟩
  refine Call_ (ld_blt I hg hm boot_enumerate (PyProof.Rows.callWith_type1 (Q := _) ?_ hs rfl))
  rw [hs]
  refine Calls.spliced_cons (thn (he.run pins s σ H _ I h) ?_)
  rintro v s1 ⟨z, TI, TO, L, H1, rfl, I1, ez, Z, D, f, n, hn, hR⟩
  refine Calls.spliced_nil ?_
  refine call_enum (starts_zip z TI TO .none) ez fun h2 ee sz k => wpAny_pyIter_enum ee ?_
  have I2 : Inv X pins σ H1 { s1 with heap := h2 } := I1.kept (t' := s1.toks) k
  have old : ∀ b ∈ feetS z TI TO (L.map (·.1)), b < s1.heap.objs.size := fun b hb => by
    obtain ⟨o, ho, _⟩ := Z.obj b hb
    exact Heap.lt_size ho
  refine ⟨s1.heap.objs.size, s1.heap.objs.size :: feetS z TI TO (L.map (·.1)), _, _, H1, rfl, I2, turn_enum (drw_zip D fun p hp => hn _ (List.mem_map_of_mem (f := q3) hp)) (fun q => Nat.lt_irrefl _ (old _ q)), ⟨⟨.none, ee⟩, Z.keep fun b _ o q => k b o q⟩, fun b hb => ?_, hR⟩
  rcases List.mem_cons.mp hb with rfl | hb
  · exact I1.fpOk (Nat.le_refl _) (I1.hok.fresh (Nat.le_refl _))
  · exact f b hb
end PLZ
set_option Elab.async false
set_option linter.all false
set_option maxRecDepth 100000
set_option maxHeartbeats 4000000
namespace PL
open PySem PySem.Spec PyProof.Rows L2 PLZ
/-! ### zip, enumerate -/
def itemsA : D → Option (List D) | .tup ds => some ds | .lst ds => some ds | .scr ns => some (ns.map .int) | _ => none
theorem Rp.seq {K : PySem.W.Frag} {ca : Str → Option Addr} {F : Hp} {v : V} {d : D} {ds : List D} (h : Rp K ca F v d) (e : itemsA d = some ds) : ∃ q : Q3, v = .ref q.1 ∧ Sq K F q ∧ RpA K ca F q.2.2 ds := by
  cases h <;> simp only [itemsA, reduceCtorEq, Option.some.injEq] at e
  · rename_i h r
    subst e
    exact ⟨(_, true, _), rfl, by unfold Sq; exact h, r⟩
  · rename_i h r
    subst e
    exact ⟨(_, false, _), rfl, by unfold Sq; exact SqL.of h, r⟩
  · rename_i h
    subst e
    exact ⟨(_, false, _), rfl, by unfold Sq; exact h, RpA.ofInts _⟩
theorem Sq.ex {K : PySem.W.Frag} {H H' : Hp} {q : Q3} (e : Ex H H') (h : Sq K H q) : Sq K H' q := by
  unfold Sq at h ⊢
  split at h
  · rename_i t
    rw [if_pos t]
    exact ex_t e h
  · rename_i t
    rw [if_neg t]
    exact ex_l e h
section
variable {X : Cx} {z : Z} {O OI OM OO OL : List Nat} {EX : EXT} {a b c e : Expr} {es : List Expr} {f g h : FE} {fs gs : FS} {pos : Pos} {st : Stmt} {sts : List Stmt}
/-- columns -/
inductive Cols (K : PySem.W.Frag) (ca : Str → Option Addr) (F : Hp) (n : Nat) : List Q3 → List (List D) → Prop
  | nil : Cols K ca F n [] []
  | cons {q : Q3} {L : List Q3} {ds : List D} {dss : List (List D)} : Sq K F q → RpA K ca F q.2.2 ds → ds.length = n → Cols K ca F n L dss → Cols K ca F n (q :: L) (ds :: dss)
theorem Cols.held {K : PySem.W.Frag} {ca : Str → Option Addr} {F H : Hp} {n : Nat} (e : Ex F H) : ∀ {L : List Q3} {dss : List (List D)}, Cols K ca F n L dss → Held K H L
  | _, _, .nil => fun q hq => nomatch hq
  | _, _, .cons h r _ t => fun q hq => by
    rcases List.mem_cons.mp hq with rfl | hq
    · exact Sq.ex e h
    · exact Cols.held e t q hq
theorem Cols.len {K : PySem.W.Frag} {ca : Str → Option Addr} {F : Hp} {n : Nat} : ∀ {L : List Q3} {dss : List (List D)}, Cols K ca F n L dss → ∀ q ∈ L, q.2.2.length = n
  | _, _, .nil => fun q hq => nomatch hq
  | _, _, .cons h r l t => fun q hq => by
    rcases List.mem_cons.mp hq with rfl | hq
    · rw [r.length, l]
    · exact Cols.len t q hq
theorem Cols.row {K : PySem.W.Frag} {ca : Str → Option Addr} {F : Hp} {n i : Nat} (hi : i < n) : ∀ {L : List Q3} {dss : List (List D)}, Cols K ca F n L dss → RpA K ca F (vrow L i) (dss.map fun c => c.getD i .non)
  | _, _, .nil => .nil
  | _, _, .cons (q := q) (ds := ds) h r l t => by
    refine .cons ?_ (Cols.row hi t)
    have hd : ds[i]? = some ds[i] := List.getElem?_eq_getElem (by omega)
    obtain ⟨v, hv, rv⟩ := r.get hd
    show Rp K ca F (q.2.2.getD i .non) (ds.getD i .non)
    rw [List.getD_eq_getElem?_getD, List.getD_eq_getElem?_getD, hv, hd]
    exact rv
def rows (dss : List (List D)) (n : Nat) : List D := (List.range n).map fun i => D.tup (dss.map fun c => c.getD i .non)
theorem items_zip {F : Hp} {n : Nat} {L : List Q3} {dss : List (List D)} (C : Cols z.K z.ca F n L dss) : Items z (ItZ z.K L n) F (rows dss n) where
  go := fun i B P H e hi => ⟨by simpa [rows] using hi, C.held (e.trans (frz_ex _ _))⟩
  stop := fun B P H e => ⟨by simp [rows], C.held (e.trans (frz_ex _ _))⟩
  yld := fun i B P H x H' d e nw y h => by
    obtain ⟨T, rfl, hT, rfl⟩ := y
    unfold rows at h
    rw [List.getElem?_map] at h
    cases q : (List.range n)[i]? with
    | none => rw [q] at h; cases h
    | some k =>
      rw [q] at h
      cases h
      obtain ⟨hl, q⟩ := List.getElem?_eq_some_iff.mp q
      rw [List.getElem_range] at q
      subst q
      have hi : i < n := by simpa using hl
      have ex : Ex H (upd H T (.tup (vrow L i))) := Ex.new hT
      refine ⟨ex, .tup (.inl (.inl (frz_of upd_same (nw T hT)))) ((C.row hi).mono (e.trans ?_))⟩
      exact frz_mono fun a o _ ha => ex a o ha
def enD (ds : List D) : List D := ds.mapIdx fun i d => D.tup [.int (i : Nat), d]
theorem items_enum {F : Hp} {J : It} {ds : List D} (I : Items z J F ds) : Items z (ItE J) F (enD ds) where
  go := fun i B P H e hi => I.go i B P H e (by simpa [enD] using hi)
  stop := fun B P H e => by
    have := I.stop B P H e
    show J.stop (enD ds).length H
    unfold enD
    rw [List.length_mapIdx]
    exact this
  yld := fun i B P H x H' d e nw y h => by
    obtain ⟨x1, H1, T, y1, rfl, hT, rfl⟩ := y
    unfold enD at h
    rw [List.getElem?_mapIdx] at h
    cases q : ds[i]? with
    | none => rw [q] at h; cases h
    | some d1 =>
      rw [q] at h
      cases h
      obtain ⟨ex1, r1⟩ := I.yld i B P H x1 H1 d1 e nw y1 q
      have ex2 : Ex H1 (upd H1 T (.tup [.int (i : Nat), x1])) := Ex.new hT
      have nT : T ∉ z.L B P := nw T (by
        cases w : H T with
        | none => rfl
        | some o => rw [ex1 T o w] at hT; cases hT)
      refine ⟨ex1.trans ex2, .tup (.inl (.inl (frz_of upd_same nT))) (.cons (.int _) (.cons (r1.mono ?_) .nil))⟩
      exact frz_mono fun a o _ ha => ex2 a o ha
/-- the columns of two, of three -/
def zip2D : List D → Option (List D)
  | [a, b] => itemsA a >>= fun xs => itemsA b >>= fun ys => if ys.length = xs.length then some (rows [xs, ys] xs.length) else none
  | _ => none
def EvZ (z : Z) (O : List Nat) (EX : EXT) (tz : TZ) (f : FA) : Prop :=
  ∀ B P σ H ρ S R, P.map (·.1) = O → Rel z B P σ H ρ S →
    Sat (f ρ S) (fun r => ∀ L H1 n, Grow z H H1 → Rel z B P σ H1 ρ r.2 → (∀ q ∈ L, q.2.2.length = n) → Items z (ItZ z.K L n) (Frz H1 (z.L B P)) r.1 → R L H1) EX → tz σ H R
structure PZd (X : Cx) (z : Z) (O : List Nat) (EX : EXT) (e : Expr) (f : FA) : Prop where
  ex : ∃ t, PZ X e t ∧ EvZ z O EX t f
theorem pzd_zip2 (hK : X.K = z.K) {p : Pos} {fa : FA} (hm : X.mg "zip" = none) (ha : PAd X z O EX [a, b] fa) (hg : Gl X "zip" := by rfl)
    (hs : starEach [a, b] X.env = (false, eval a X.env) :: starEach [b] X.env := by rfl) (hpl : (backTo pos (starEach [b] X.env)).any (·.1) = false := by rfl) : PZd X z O EX (.Call (.Name "zip" p) [a, b] [] pos) (rngI zip2D fa) := by
  obtain ⟨t, pt, q⟩ := ha.ex
  refine ⟨_, pz_zip2 hm pt hg hs hpl, fun B P σ H ρ S R hP rr hs => ?_⟩
  refine q B P σ H ρ S _ hP rr ((sat_bind.mp hs).imp fun x hx vs H1 g1 r1 hv => ?_)
  obtain ⟨ds, hd, hq⟩ := sat_of (sat_bind.mp hx)
  obtain ⟨xs, S1⟩ := x
  dsimp only at hd hv
  unfold zip2D at hd
  split at hd
  · rename_i a1 b1
    simp only [Option.bind_eq_bind, Option.bind_eq_some_iff] at hd
    obtain ⟨xs, ex, ys, ey, hd⟩ := hd
    split at hd
    · rename_i w
      cases hd
      cases hv with
      | cons h1 r =>
        cases r with
        | cons h2 r =>
          cases r
          obtain ⟨q1, rfl, s1, c1⟩ := h1.seq ex
          obtain ⟨q2, rfl, s2, c2⟩ := h2.seq ey
          have C : Cols z.K z.ca (Frz H1 (z.L B P)) xs.length [q1, q2] [xs, ys] := .cons s1 c1 rfl (.cons s2 c2 w .nil)
          rw [hK]
          exact ⟨q1, q2, rfl, C.held (frz_ex _ _), hq _ H1 _ g1 r1 C.len (items_zip C)⟩
    · cases hd
  · cases hd
theorem pid_zip (hK : X.K = z.K) {tg : Expr} {fa : FA} (hz : PZd X z O EX e fa) : PId X z O EX tg e fa := by
  obtain ⟨t, pt, q⟩ := hz.ex
  refine ⟨_, pi_zipn pt, fun B P σ H ρ S R hP rr hs => ?_⟩
  refine q B P σ H ρ S _ hP rr (hs.imp fun x hx L H1 n g1 r1 hl it => ?_)
  rw [hK]
  exact ⟨n, hl, hx _ H1 g1 r1 it⟩
def enI (fa : FA) : FA := fun ρ S => fa ρ S >>= fun x => R.ok (enD x.1, x.2)
theorem pid_enumz (hK : X.K = z.K) {elts : List Expr} {kk : Nat} {tpos p : Pos} {fa : FA} (hm : X.mg "enumerate" = none) (hz : PZd X z O EX e fa) (hg : Gl X "enumerate" := by rfl) (hs : starEach [e] X.env = [(false, eval e X.env)] := by rfl) :
    PId X z O EX (.Tuple elts kk tpos) (.Call (.Name "enumerate" p) [e] [] pos) (enI fa) := by
  obtain ⟨t, pt, q⟩ := hz.ex
  refine ⟨_, pi_enumz hm pt hg hs, fun B P σ H ρ S R hP rr hs => ?_⟩
  refine q B P σ H ρ S _ hP rr ((sat_bind.mp hs).imp fun x hx L H1 n g1 r1 hl it => ?_)
  rw [hK]
  exact ⟨n, hl, hx _ H1 g1 r1 (items_enum it)⟩
end
end PL
set_option Elab.async false
set_option linter.all false
set_option maxRecDepth 100000
set_option maxHeartbeats 4000000
namespace PL
open PySem PySem.Spec PyProof.Rows L2 ClX
/-! ### isinstance of the usual types, of own classes -/
def known : List String := ["NoneType", "bool", "int", "str", "tuple", "list", "dict"]
def tyB (t T : String) : Bool := t == T || (t == "bool" && T == "int")
def tyK (T : String) : String → Option Bool := fun t => if t ∈ known then some (tyB t T) else none
theorem kit_known (K : PySem.W.Frag) : ∀ T ∈ ["bool", "int", "str", "tuple", "list", "dict"], ∀ t ∈ known, PySem.W.kitOne K (.type t) (.type T) = some (tyB t T) := by
  intro T hT t ht
  simp only [known, List.mem_cons, List.not_mem_nil, or_false] at hT ht
  rcases hT with rfl | rfl | rfl | rfl | rfl | rfl <;> rcases ht with rfl | rfl | rfl | rfl | rfl | rfl | rfl <;> kernel_rfl
/-- an own class, as isinstance sees it -/
structure OwnC (K : PySem.W.Frag) (C : Addr) : Prop where
  ik : InsK K C
  bt : ∀ T ∈ ["bool", "int", "str", "tuple", "list", "dict"], PySem.W.kitOne K (.ref C) (.type T) = some false
  me : ((PySem.W.clsIn K C).isSome && PySem.W.typeIn K (.ref C) == some (.type "type")) = true
theorem kit_own (K : PySem.W.Frag) {C : Addr} (h : ((PySem.W.clsIn K C).isSome && PySem.W.typeIn K (.ref C) == some (.type "type")) = true) : ∀ t ∈ known, PySem.W.kitOne K (.type t) (.ref C) = some false := by
  intro t ht
  have e : PySem.W.kitCls K (.type t) (.ref C) = PySem.W.subIn K (.type t) (.ref C) := by
    show (if _ then _ else _) = _
    rw [if_pos h]
  show (if (Value.type t == Value.ref C) = true then some true else PySem.W.kitCls K (.type t) (.ref C)) = some false
  rw [if_neg (by intro q; cases q), e]
  simp only [known, List.mem_cons, List.not_mem_nil, or_false] at ht
  rcases ht with rfl | rfl | rfl | rfl | rfl | rfl | rfl <;> kernel_rfl
/-- the own classes there are, one of them -/
def inst0 (cs : List Str) : Str → Option Bool := fun c => if c ∈ cs then some false else none
def inst1 (cs : List Str) (me : Str) : Str → Option Bool := fun c => if c = me then some true else if c ∈ cs then some false else none
section
variable {X : Cx} {z : Z} {O OI OM OO OL : List Nat} {EX : EXT} {a b c e : Expr} {es : List Expr} {f g h : FE} {fs gs : FS} {pos p p2 : Pos}
theorem pd_isB (T : String) (hT : T ∈ ["bool", "int", "str", "tuple", "list", "dict"]) (cs : List Str) (hcs : ∀ c ∈ cs, ∃ C, z.ca c = some C ∧ OwnC z.K C) (hK : X.K = z.K) (hm : X.mg "isinstance" = none) {x : Str} (hmT : X.mg x = none) (hbt : bootBuiltins x = some (.type T)) (ha : PB X z O EX e f)
    (hn : x ≠ "__name__" := by decide) (hd : (x == ("__debug__" : Str)) = false := by decide) (hg : Gl X "isinstance" := by rfl) (hgT : Gl X x := by rfl)
    (he : starEach [e, .Name x p2] X.env = (false, eval e X.env) :: starEach [.Name x p2] X.env := by rfl) (he2 : starEach [.Name x p2] X.env = (false, eval (.Name x p2) X.env) :: starEach [] X.env := by rfl) (hpl : (backTo pos (starEach [.Name x p2] X.env)).any (·.1) = false := by rfl) :
    PD X z O EX (.Call (.Name "isinstance" p) [e, .Name x p2] [] pos) (un1 (isiD (tyK T) (inst0 cs)) f) := by
  refine pd_isi hK hm (pe_bltn hgT hmT hbt (v := .ty T) rfl hn hd) (.ty T) (fun t k h => ?_) (fun c k h => ?_) ha hg he he2 hpl
  · unfold tyK at h
    split at h
    · rename_i w
      rw [kit_known z.K T hT t w]
      exact h
    · cases h
  · unfold inst0 at h
    split at h
    · rename_i w
      cases h
      obtain ⟨C, e, o⟩ := hcs c w
      exact ⟨C, e, o.ik, o.bt T hT⟩
    · cases h
theorem pd_isC (me : Str) {C : Addr} (hC : z.ca me = some C) (oC : OwnC z.K C) (cs : List Str) (hcs : ∀ c ∈ cs, ∃ D, z.ca c = some D ∧ OwnC z.K D ∧ PySem.W.kitOne z.K (.ref D) (.ref C) = some false) (hK : X.K = z.K) (hm : X.mg "isinstance" = none) (hmC : X.mg me = some (.ref C)) (ha : PB X z O EX e f)
    (hd : (me == ("__debug__" : Str)) = false := by decide) (hg : Gl X "isinstance" := by rfl) (hgT : Gl X me := by rfl)
    (he : starEach [e, .Name me p2] X.env = (false, eval e X.env) :: starEach [.Name me p2] X.env := by rfl) (he2 : starEach [.Name me p2] X.env = (false, eval (.Name me p2) X.env) :: starEach [] X.env := by rfl) (hpl : (backTo pos (starEach [.Name me p2] X.env)).any (·.1) = false := by rfl) :
    PD X z O EX (.Call (.Name "isinstance" p) [e, .Name me p2] [] pos) (un1 (isiD (fun t => if t ∈ known then some false else none) (inst1 cs me)) f) := by
  refine pd_isi hK hm (pe_glob hgT hmC (v := .ref C) rfl hd) (.own C) (fun t k h => ?_) (fun c k h => ?_) ha hg he he2 hpl
  · split at h
    · rename_i w
      rw [kit_own z.K oC.me t w]
      exact h
    · cases h
  · unfold inst1 at h
    split at h
    · rename_i w
      cases h
      subst w
      refine ⟨C, hC, oC.ik, ?_⟩
      show (if (Value.ref C == Value.ref C) = true then some true else _) = some true
      rw [if_pos (beq_self_eq_true _)]
    · split at h
      · rename_i w
        cases h
        obtain ⟨D, e, o, q⟩ := hcs c w
        exact ⟨D, e, o.ik, q⟩
      · cases h
/-- a class's value, read off the class -/
theorem pd_cval {me fn : Str} {C : Addr} {mc u : Value} {v : V} {d : D} (hm : X.mg me = some (.ref C)) (r : CRead X.K C mc) (k : CVal X.K C mc fn v u) (hv : ∀ F, Rp z.K z.ca F v d) (hg : Gl X me := by rfl) (hdb : (me == ("__debug__" : Str)) = false := by decide)
    (hb : attributeBase (.Name me p) fn X.env (eval (.Name me p) X.env) = eval (.Name me p) X.env := by rfl) : PD X z O EX (.Attribute (.Name me p) fn pos) (fun _ S => R.ok (d, S)) :=
  ⟨_, pe_cval (pe_glob hg hm (v := .ref C) rfl hdb) hb, fun B P σ H ρ S Q hP rr hs => ⟨C, mc, v, u, rfl, r, k, hs v H Grow.refl rr (hv _)⟩⟩
end
end PL
set_option Elab.async false
set_option linter.all false
set_option maxRecDepth 100000
set_option maxHeartbeats 4000000
/-! What is wanted of a result, form by form: simp walks a def's function from its head on. -/
namespace PL
open PySem PySem.Spec PyProof.Rows L2 ClX
@[simp ↓] theorem wp_bind {α β : Type} {x : R α} {f : α → R β} {Q : β → Prop} {EX : EXT} : Sat (x >>= f) Q EX ↔ Sat x (fun a => Sat (f a) Q EX) EX := sat_bind
@[simp ↓] theorem wp_ok {α : Type} {a : α} {Q : α → Prop} {EX : EXT} : Sat (R.ok a) Q EX ↔ Q a := Iff.rfl
@[simp ↓] theorem wp_bad {α : Type} {Q : α → Prop} {EX : EXT} : Sat (R.bad : R α) Q EX ↔ False := Iff.rfl
@[simp ↓] theorem wp_some {α : Type} {a : α} {Q : α → Prop} {EX : EXT} : Sat (R.of (some a)) Q EX ↔ Q a := Iff.rfl
@[simp ↓] theorem wp_none {α : Type} {Q : α → Prop} {EX : EXT} : Sat (R.of (none : Option α)) Q EX ↔ False := Iff.rfl
@[simp ↓] theorem wp_if {α : Type} {c : Prop} [Decidable c] {a b : R α} {Q : α → Prop} {EX : EXT} : Sat (if c then a else b) Q EX ↔ if c then Sat a Q EX else Sat b Q EX := by split <;> exact Iff.rfl
@[simp ↓] theorem wp_ofif {α : Type} {c : Prop} [Decidable c] {a b : Option α} {Q : α → Prop} {EX : EXT} : Sat (R.of (if c then a else b)) Q EX ↔ if c then Sat (R.of a) Q EX else Sat (R.of b) Q EX := by split <;> exact Iff.rfl
@[simp ↓] theorem wp_noX {α : Type} {r : R α} {Q : α → Prop} {EX : EXT} : Sat (noX r) Q EX ↔ Sat r Q EX0 := by cases r <;> exact Iff.rfl
@[simp ↓] theorem wp_lk0 {d : D} {ρ : Env} {Q : D → Prop} {EX : EXT} : Sat (lk (some d :: ρ) 0) Q EX ↔ Q d := Iff.rfl
@[simp ↓] theorem wp_lkS {d : Option D} {ρ : Env} {i : Nat} {Q : D → Prop} {EX : EXT} : Sat (lk (d :: ρ) (i + 1)) Q EX ↔ Sat (lk ρ i) Q EX := Iff.rfl
@[simp ↓] theorem wp_set0 {d : D} {o : Option D} {ρ : Env} {Q : Env → Prop} {EX : EXT} : Sat (setE (o :: ρ) 0 d) Q EX ↔ Q (some d :: ρ) := by
  unfold setE
  rw [if_pos (show 0 < (o :: ρ).length from Nat.succ_pos _)]
  exact Iff.rfl
@[simp ↓] theorem wp_setS {d : D} {o : Option D} {ρ : Env} {i : Nat} {Q : Env → Prop} {EX : EXT} : Sat (setE (o :: ρ) (i + 1) d) Q EX ↔ Sat (setE ρ i d) (fun r => Q (o :: r)) EX := by
  unfold setE
  by_cases h : i < ρ.length
  · rw [if_pos (show i + 1 < (o :: ρ).length from Nat.succ_lt_succ h), if_pos h]; exact Iff.rfl
  · rw [if_neg (show ¬ i + 1 < (o :: ρ).length from fun q => h (Nat.lt_of_succ_lt_succ q)), if_neg h]; exact Iff.rfl
def blK {α : Type} (d : D) (a b : R α) : R α := match d with | .bl true => a | .bl false => b | _ => .bad
@[simp ↓] theorem wp_blK {α : Type} {k : Bool} {a b : R α} {Q : α → Prop} {EX : EXT} : Sat (blK (.bl k) a b) Q EX ↔ if k = true then Sat a Q EX else Sat b Q EX := by cases k <;> exact Iff.rfl
theorem bind_congr' {α β : Type} {x : R α} {f g : α → R β} (h : ∀ a, f a = g a) : (x >>= f) = (x >>= g) := by rw [funext h]
theorem chn_eq {g2 g3 : D → D → Option D} {f g h : FE} {ρ : Env} {S : List D} : chn g2 g3 f g h ρ S = (f ρ S >>= fun x => g ρ x.2 >>= fun y => R.of (g2 x.1 y.1) >>= fun d => blK d (h ρ y.2 >>= fun w => R.of (g3 y.1 w.1) >>= fun d' => R.ok (d', w.2)) (R.ok (.bl false, y.2))) :=
  bind_congr' fun _ => bind_congr' fun _ => bind_congr' fun d => by
    cases d with
    | bl k => cases k <;> rfl
    | _ => rfl
@[simp ↓] theorem wp_chn {g2 g3 : D → D → Option D} {f g h : FE} {ρ : Env} {S : List D} {Q : D × List D → Prop} {EX : EXT} : Sat (chn g2 g3 f g h ρ S) Q EX ↔ Sat (f ρ S >>= fun x => g ρ x.2 >>= fun y => R.of (g2 x.1 y.1) >>= fun d => blK d (h ρ y.2 >>= fun w => R.of (g3 y.1 w.1) >>= fun d' => R.ok (d', w.2)) (R.ok (.bl false, y.2))) Q EX := by rw [chn_eq]
theorem consC_eq {g2 : D → D → Option D} {g : FE} {h : D → FE} {d : D} {ρ : Env} {S : List D} : consC g2 g h d ρ S = (g ρ S >>= fun y => R.of (g2 d y.1) >>= fun r => blK r (h y.1 ρ y.2) (R.ok (.bl false, y.2))) :=
  bind_congr' fun _ => bind_congr' fun d => by
    cases d with
    | bl k => cases k <;> rfl
    | _ => rfl
@[simp ↓] theorem wp_consC {g2 : D → D → Option D} {g : FE} {h : D → FE} {d : D} {ρ : Env} {S : List D} {Q : D × List D → Prop} {EX : EXT} : Sat (consC g2 g h d ρ S) Q EX ↔ Sat (g ρ S >>= fun y => R.of (g2 d y.1) >>= fun r => blK r (h y.1 ρ y.2) (R.ok (.bl false, y.2))) Q EX := by rw [consC_eq]
@[simp ↓] theorem wp_nilG {ρ : Env} {S : List D} {Q : Env × List D → Prop} {EX : EXT} : Sat (nilG [] ρ S) Q EX ↔ Q (ρ, S) := Iff.rfl
@[simp ↓] theorem wp_lcE {vs : List Nat} {fi : FA} {g : FG} {tt : FT} {te : FE} {ρ : Env} {S : List D} {Q : List D × List D → Prop} {EX : EXT} : Sat (lcE vs fi g tt te ρ S) Q EX ↔ Sat (fi ρ S) (fun x => Sat (lcL vs g tt te ρ x.1 x.2 []) Q EX0) EX := by
  show Sat (_ >>= _) Q EX ↔ _
  rw [wp_bind]
  exact iff_of_eq (by congr; funext a; exact propext wp_noX)
@[simp ↓] theorem wp_bin2 {g2 : D → D → Option D} {f g : FE} {ρ : Env} {S : List D} {Q : D × List D → Prop} {EX : EXT} : Sat (bin2 g2 f g ρ S) Q EX ↔ Sat (f ρ S >>= fun x => g ρ x.2 >>= fun y => R.of (g2 x.1 y.1) >>= fun d => R.ok (d, y.2)) Q EX := Iff.rfl
@[simp ↓] theorem wp_un1 {g1 : D → Option D} {f : FE} {ρ : Env} {S : List D} {Q : D × List D → Prop} {EX : EXT} : Sat (un1 g1 f ρ S) Q EX ↔ Sat (f ρ S >>= fun x => R.of (g1 x.1) >>= fun d => R.ok (d, x.2)) Q EX := Iff.rfl
@[simp ↓] theorem wp_tst {f : FE} {ρ : Env} {S : List D} {Q : Bool × List D → Prop} {EX : EXT} : Sat (tst f ρ S) Q EX ↔ Sat (f ρ S >>= fun x => R.of (truD x.1) >>= fun k => R.ok (k, x.2)) Q EX := Iff.rfl
@[simp ↓] theorem wp_tstB {f : FE} {ρ : Env} {S : List D} {Q : Bool × List D → Prop} {EX : EXT} : Sat (tstB f ρ S) Q EX ↔ Sat (f ρ S >>= fun x => match x.1 with
  | .bl k => R.ok (k, x.2)
  | _ => R.bad) Q EX := Iff.rfl
@[simp ↓] theorem wp_andT {f g : FT} {ρ : Env} {S : List D} {Q : Bool × List D → Prop} {EX : EXT} : Sat (andT f g ρ S) Q EX ↔ Sat (f ρ S >>= fun x => if x.1 then g ρ x.2 else R.ok (false, x.2)) Q EX := Iff.rfl
@[simp ↓] theorem wp_orT {f g : FT} {ρ : Env} {S : List D} {Q : Bool × List D → Prop} {EX : EXT} : Sat (orT f g ρ S) Q EX ↔ Sat (f ρ S >>= fun x => if x.1 then R.ok (true, x.2) else g ρ x.2) Q EX := Iff.rfl
@[simp ↓] theorem wp_notT {f : FT} {ρ : Env} {S : List D} {Q : Bool × List D → Prop} {EX : EXT} : Sat (notT f ρ S) Q EX ↔ Sat (f ρ S >>= fun x => R.ok (!x.1, x.2)) Q EX := Iff.rfl
@[simp ↓] theorem wp_andV {f g : FE} {ρ : Env} {S : List D} {Q : D × List D → Prop} {EX : EXT} : Sat (andV f g ρ S) Q EX ↔ Sat (f ρ S >>= fun x => R.of (truD x.1) >>= fun k => if k then g ρ x.2 else R.ok x) Q EX := Iff.rfl
@[simp ↓] theorem wp_orV {f g : FE} {ρ : Env} {S : List D} {Q : D × List D → Prop} {EX : EXT} : Sat (orV f g ρ S) Q EX ↔ Sat (f ρ S >>= fun x => R.of (truD x.1) >>= fun k => if k then R.ok x else g ρ x.2) Q EX := Iff.rfl
@[simp ↓] theorem wp_notV {f : FE} {ρ : Env} {S : List D} {Q : D × List D → Prop} {EX : EXT} : Sat (notV f ρ S) Q EX ↔ Sat (f ρ S >>= fun x => R.of (truD x.1) >>= fun k => R.ok (.bl (!k), x.2)) Q EX := Iff.rfl
@[simp ↓] theorem wp_ifE {t : FT} {f g : FE} {ρ : Env} {S : List D} {Q : D × List D → Prop} {EX : EXT} : Sat (ifE t f g ρ S) Q EX ↔ Sat (t ρ S >>= fun x => if x.1 then f ρ x.2 else g ρ x.2) Q EX := Iff.rfl
@[simp ↓] theorem wp_consA {f : FE} {g : FA} {ρ : Env} {S : List D} {Q : List D × List D → Prop} {EX : EXT} : Sat (consA f g ρ S) Q EX ↔ Sat (f ρ S >>= fun x => g ρ x.2 >>= fun y => R.ok (x.1 :: y.1, y.2)) Q EX := Iff.rfl
@[simp ↓] theorem wp_tupE {fa : FA} {ρ : Env} {S : List D} {Q : D × List D → Prop} {EX : EXT} : Sat (tupE fa ρ S) Q EX ↔ Sat (fa ρ S >>= fun x => if x.1.length ≤ LINE then R.ok (.tup x.1, x.2) else R.bad) Q EX := Iff.rfl
@[simp ↓] theorem wp_lstE {fa : FA} {ρ : Env} {S : List D} {Q : D × List D → Prop} {EX : EXT} : Sat (lstE fa ρ S) Q EX ↔ Sat (fa ρ S >>= fun x => if x.1.length ≤ LINE then R.ok (.lst x.1, x.2) else R.bad) Q EX := Iff.rfl
@[simp ↓] theorem wp_someO {f : FE} {ρ : Env} {S : List D} {Q : Option Int × List D → Prop} {EX : EXT} : Sat (someO f ρ S) Q EX ↔ Sat (f ρ S >>= fun x => match x.1 with
  | .int i => R.ok (some i, x.2)
  | _ => R.bad) Q EX := Iff.rfl
@[simp ↓] theorem wp_slcE {f : FE} {l h : FO} {ρ : Env} {S : List D} {Q : D × List D → Prop} {EX : EXT} : Sat (slcE f l h ρ S) Q EX ↔ Sat (f ρ S >>= fun x => l ρ x.2 >>= fun lo => h ρ lo.2 >>= fun hi => R.of (slcD x.1 lo.1 hi.1) >>= fun d => R.ok (d, hi.2)) Q EX := Iff.rfl
@[simp ↓] theorem wp_callE {g : List D → Option D} {fa : FA} {ρ : Env} {S : List D} {Q : D × List D → Prop} {EX : EXT} : Sat (callE g fa ρ S) Q EX ↔ Sat (fa ρ S >>= fun x => R.of (g x.1) >>= fun d => R.ok (d, x.2)) Q EX := Iff.rfl
@[simp ↓] theorem wp_mthE {T : String} {g : D → List D → Option D} {f : FE} {fa : FA} {ρ : Env} {S : List D} {Q : D × List D → Prop} {EX : EXT} : Sat (mthE T g f fa ρ S) Q EX ↔ Sat (f ρ S >>= fun x => if kindD T x.1 then fa ρ x.2 >>= fun y => R.of (g x.1 y.1) >>= fun d => R.ok (d, y.2) else R.bad) Q EX := Iff.rfl
def nxt (g : FS) (r : Ctl × Env × List D) : R (Ctl × Env × List D) := match r.1 with | .nx => g r.2.1 r.2.2 | _ => R.ok r
@[simp ↓] theorem wp_nxt {g : FS} {ρ : Env} {S : List D} {Q : Ctl × Env × List D → Prop} {EX : EXT} : Sat (nxt g (.nx, ρ, S)) Q EX ↔ Sat (g ρ S) Q EX := Iff.rfl
@[simp ↓] theorem wp_nxt_rt {g : FS} {d : D} {ρ : Env} {S : List D} {Q : Ctl × Env × List D → Prop} {EX : EXT} : Sat (nxt g (.rt d, ρ, S)) Q EX ↔ Q (.rt d, ρ, S) := Iff.rfl
@[simp ↓] theorem wp_nxt_bk {g : FS} {ρ : Env} {S : List D} {Q : Ctl × Env × List D → Prop} {EX : EXT} : Sat (nxt g (.bk, ρ, S)) Q EX ↔ Q (.bk, ρ, S) := Iff.rfl
@[simp ↓] theorem wp_nxt_ct {g : FS} {ρ : Env} {S : List D} {Q : Ctl × Env × List D → Prop} {EX : EXT} : Sat (nxt g (.ct, ρ, S)) Q EX ↔ Q (.ct, ρ, S) := Iff.rfl
@[simp ↓] theorem wp_seqS {f g : FS} {ρ : Env} {S : List D} {Q : Ctl × Env × List D → Prop} {EX : EXT} : Sat (seqS f g ρ S) Q EX ↔ Sat (f ρ S) (fun r => Sat (nxt g r) Q EX) EX := by
  show Sat (_ >>= _) Q EX ↔ _
  rw [wp_bind]
  exact Iff.rfl
@[simp ↓] theorem wp_retS {f : FE} {ρ : Env} {S : List D} {Q : Ctl × Env × List D → Prop} {EX : EXT} : Sat (retS f ρ S) Q EX ↔ Sat (f ρ S >>= fun x => R.ok (.rt x.1, ρ, x.2)) Q EX := Iff.rfl
@[simp ↓] theorem wp_exprS {f : FE} {ρ : Env} {S : List D} {Q : Ctl × Env × List D → Prop} {EX : EXT} : Sat (exprS f ρ S) Q EX ↔ Sat (f ρ S >>= fun x => R.ok (.nx, ρ, x.2)) Q EX := Iff.rfl
@[simp ↓] theorem wp_ifS {c : FT} {f g : FS} {ρ : Env} {S : List D} {Q : Ctl × Env × List D → Prop} {EX : EXT} : Sat (ifS c f g ρ S) Q EX ↔ Sat (c ρ S >>= fun x => if x.1 then f ρ x.2 else g ρ x.2) Q EX := Iff.rfl
@[simp ↓] theorem wp_asgS {f : FE} {g : FG} {ρ : Env} {S : List D} {Q : Ctl × Env × List D → Prop} {EX : EXT} : Sat (asgS f g ρ S) Q EX ↔ Sat (f ρ S >>= fun x => g x.1 ρ x.2 >>= fun r => R.ok (.nx, r.1, r.2)) Q EX := Iff.rfl
@[simp ↓] theorem wp_parS {i j : Nat} {fa : FA} {ρ : Env} {S : List D} {Q : Ctl × Env × List D → Prop} {EX : EXT} : Sat (parS i j fa ρ S) Q EX ↔ Sat (fa ρ S >>= fun x => match x.1 with
  | [u, v] => setE ρ i u >>= fun ρ1 => setE ρ1 j v >>= fun ρ2 => R.ok (.nx, ρ2, x.2)
  | _ => R.bad) Q EX := Iff.rfl
@[simp ↓] theorem wp_augS {i : Nat} {g2 : D → D → Option D} {f : FE} {ρ : Env} {S : List D} {Q : Ctl × Env × List D → Prop} {EX : EXT} : Sat (augS i g2 f ρ S) Q EX ↔ Sat (lk ρ i >>= fun u => f ρ S >>= fun x => R.of (g2 u x.1) >>= fun d => setE ρ i d >>= fun ρ1 => R.ok (.nx, ρ1, x.2)) Q EX := Iff.rfl
@[simp ↓] theorem wp_forS {fi : FA} {g : FG} {fb : FS} {ρ : Env} {S : List D} {Q : Ctl × Env × List D → Prop} {EX : EXT} : Sat (forS fi g fb ρ S) Q EX ↔ Sat (fi ρ S >>= fun x => forL g fb x.1 ρ x.2) Q EX := Iff.rfl
@[simp ↓] theorem wp_rngI {g : List D → Option (List D)} {fa : FA} {ρ : Env} {S : List D} {Q : List D × List D → Prop} {EX : EXT} : Sat (rngI g fa ρ S) Q EX ↔ Sat (fa ρ S >>= fun x => R.of (g x.1) >>= fun ds => R.ok (ds, x.2)) Q EX := Iff.rfl
@[simp ↓] theorem wp_seqI {g : D → Option (List D)} {f : FE} {ρ : Env} {S : List D} {Q : List D × List D → Prop} {EX : EXT} : Sat (seqI g f ρ S) Q EX ↔ Sat (f ρ S >>= fun x => R.of (g x.1) >>= fun ds => R.ok (ds, x.2)) Q EX := Iff.rfl
@[simp ↓] theorem wp_ofF {f : FA} {ρ : Env} {S : List D} {Q : D × List D → Prop} {EX : EXT} : Sat (ofF f ρ S) Q EX ↔ Sat (f ρ S >>= fun x => R.ok (.lst x.1, x.2)) Q EX := Iff.rfl
@[simp ↓] theorem wp_lstF {fa : FA} {ρ : Env} {S : List D} {Q : List D × List D → Prop} {EX : EXT} : Sat (lstF fa ρ S) Q EX ↔ Sat (fa ρ S >>= fun x => if x.1.length ≤ LINE then R.ok x else R.bad) Q EX := Iff.rfl
@[simp ↓] theorem wp_bin2F {g2 : D → D → Option (List D)} {f g : FE} {ρ : Env} {S : List D} {Q : List D × List D → Prop} {EX : EXT} : Sat (bin2F g2 f g ρ S) Q EX ↔ Sat (f ρ S >>= fun x => g ρ x.2 >>= fun y => R.of (g2 x.1 y.1) >>= fun d => R.ok (d, y.2)) Q EX := Iff.rfl
@[simp ↓] theorem wp_callF {g : List D → Option (List D)} {fa : FA} {ρ : Env} {S : List D} {Q : List D × List D → Prop} {EX : EXT} : Sat (callF g fa ρ S) Q EX ↔ Sat (fa ρ S >>= fun x => R.of (g x.1) >>= fun d => R.ok (d, x.2)) Q EX := Iff.rfl
@[simp ↓] theorem wp_ownS {i : Nat} {f : FA} {ρ : Env} {S : List D} {Q : Ctl × Env × List D → Prop} {EX : EXT} : Sat (ownS i f ρ S) Q EX ↔ Sat (f ρ S >>= fun x => setE ρ i (.lst x.1) >>= fun ρ1 => R.ok (.nx, ρ1, x.2)) Q EX := Iff.rfl
@[simp ↓] theorem wp_appS {i : Nat} {f : FE} {ρ : Env} {S : List D} {Q : Ctl × Env × List D → Prop} {EX : EXT} : Sat (appS i f ρ S) Q EX ↔ Sat (f ρ S >>= fun x => lk ρ i >>= fun l => match l with
  | .lst ds => if ds.length < LINE then setE ρ i (.lst (ds ++ [x.1])) >>= fun ρ1 => R.ok (.nx, ρ1, x.2) else R.bad
  | _ => R.bad) Q EX := Iff.rfl
@[simp ↓] theorem wp_stoS {i : Nat} {f g : FE} {ρ : Env} {S : List D} {Q : Ctl × Env × List D → Prop} {EX : EXT} : Sat (stoS i f g ρ S) Q EX ↔ Sat (f ρ S >>= fun x => g ρ x.2 >>= fun y => lk ρ i >>= fun l => match l, y.1 with
  | .lst ds, .int k => match ixN ds.length k with
    | some j => setE ρ i (.lst (ds.set j x.1)) >>= fun ρ1 => R.ok (.nx, ρ1, y.2)
    | none => R.bad
  | _, _ => R.bad) Q EX := Iff.rfl
@[simp ↓] theorem wp_callD {F : List D → R D} {dds : List D} {fa : FA} {ρ : Env} {S : List D} {Q : D × List D → Prop} {EX : EXT} : Sat (callD F dds fa ρ S) Q EX ↔ Sat (fa ρ S >>= fun x => noX (F (x.1 ++ dds)) >>= fun d => R.ok (d, x.2)) Q EX := Iff.rfl
@[simp ↓] theorem wp_callN {F : List D → R (List D)} {dds : List D} {fa : FA} {ρ : Env} {S : List D} {Q : List D × List D → Prop} {EX : EXT} : Sat (callN F dds fa ρ S) Q EX ↔ Sat (fa ρ S >>= fun x => noX (F (x.1 ++ dds)) >>= fun d => R.ok (d, x.2)) Q EX := Iff.rfl
@[simp ↓] theorem wp_callP {F : List D → List D → R (D × List D)} {fa : FA} {ρ : Env} {S : List D} {Q : D × List D → Prop} {EX : EXT} : Sat (callP F fa ρ S) Q EX ↔ Sat (fa ρ S >>= fun x => noX (F x.2 x.1)) Q EX := Iff.rfl
@[simp ↓] theorem wp_callPN {F : List D → List D → R (D × List D)} {fn : FA} {ρ : Env} {S : List D} {Q : D × List D → Prop} {EX : EXT} : Sat (callPN F fn ρ S) Q EX ↔ Sat (fn ρ S >>= fun x => noX (F x.1 []) >>= fun r => R.ok (r.1, x.2)) Q EX := Iff.rfl
@[simp ↓] theorem wp_callKD {F : List D → R D} {n m : Nat} {ix : List Nat} {fa fk : FA} {ρ : Env} {S : List D} {Q : D × List D → Prop} {EX : EXT} : Sat (callKD F n m ix fa fk ρ S) Q EX ↔ Sat (fa ρ S >>= fun x => fk ρ x.2 >>= fun y => if x.1.length = n ∧ y.1.length = m then noX (F (pick ix (x.1 ++ y.1))) >>= fun d => R.ok (d, y.2) else R.bad) Q EX := Iff.rfl
@[simp ↓] theorem wp_mkD {c : Str} {nm : List Str} {F : List D → R (List D)} {fa : FA} {ρ : Env} {S : List D} {Q : D × List D → Prop} {EX : EXT} : Sat (mkD c nm F fa ρ S) Q EX ↔ Sat (fa ρ S >>= fun x => noX (F x.1) >>= fun es => R.ok (.ins c nm es, x.2)) Q EX := Iff.rfl
@[simp ↓] theorem wp_mkI {c : Str} {nm : List Str} {F : List D → R (List D)} {n m : Nat} {ix : List Nat} {fa fk : FA} {ρ : Env} {S : List D} {Q : D × List D → Prop} {EX : EXT} : Sat (mkI c nm F n m ix fa fk ρ S) Q EX ↔ Sat (fa ρ S >>= fun x => fk ρ x.2 >>= fun y => if x.1.length = n ∧ y.1.length = m then noX (F (pick ix (x.1 ++ y.1))) >>= fun es => R.ok (.ins c nm es, y.2) else R.bad) Q EX := Iff.rfl
@[simp ↓] theorem wp_mthC {cn m : Str} {F : List D → R D} {dds : List D} {f : FE} {fa : FA} {ρ : Env} {S : List D} {Q : D × List D → Prop} {EX : EXT} : Sat (mthC cn m F dds f fa ρ S) Q EX ↔ Sat (f ρ S >>= fun x => match x.1 with
  | .ins c ns _ => if c = cn ∧ ns.contains m = false then fa ρ x.2 >>= fun y => noX (F (x.1 :: (y.1 ++ dds))) >>= fun d => R.ok (d, y.2) else R.bad
  | _ => R.bad) Q EX := Iff.rfl
@[simp ↓] theorem wp_propD {cn : Str} {F : List D → R D} {f : FE} {ρ : Env} {S : List D} {Q : D × List D → Prop} {EX : EXT} : Sat (propD cn F f ρ S) Q EX ↔ Sat (f ρ S >>= fun x => match x.1 with
  | .ins c _ _ => if c = cn then noX (F [x.1]) >>= fun d => R.ok (d, x.2) else R.bad
  | _ => R.bad) Q EX := Iff.rfl
@[simp ↓] theorem wp_seqN {fs : FS} {fa : FA} {ρ : Env} {S : List D} {Q : List D × List D → Prop} {EX : EXT} : Sat (seqN fs fa ρ S) Q EX ↔ Sat (fs ρ S >>= fun r => match r.1 with | .nx => fa r.2.1 r.2.2 | _ => R.bad) Q EX := Iff.rfl
@[simp ↓] theorem wp_slfS {nm : List Str} {fn : Str} {f : FE} {ρ : Env} {S : List D} {Q : Ctl × Env × List D → Prop} {EX : EXT} : Sat (slfS nm fn f ρ S) Q EX ↔ Sat (f ρ S >>= fun x => if nm[x.2.length]? = some fn ∧ (nm.take x.2.length).contains fn = false ∧ x.2.length < 999 then R.ok (.nx, ρ, x.2 ++ [x.1]) else R.bad) Q EX := Iff.rfl
@[simp ↓] theorem wp_poolE {k : Int} {z0 : Env} {S : List D} {Q : D × List D → Prop} {EX : EXT} : Sat (poolE k z0 S) Q EX ↔ Sat (R.of (L2.atI S k) >>= fun d => R.ok (d, S)) Q EX := Iff.rfl
@[simp ↓] theorem wp_poolG {k : Int} {d : D} {ρ : Env} {S : List D} {Q : Env × List D → Prop} {EX : EXT} : Sat (poolG k d ρ S) Q EX ↔ Sat (match ixN S.length k with | some j => R.ok (ρ, S.set j d) | none => R.bad) Q EX := Iff.rfl
@[simp ↓] theorem wp_lastC {g2 : D → D → Option D} {g : FE} {d : D} {ρ : Env} {S : List D} {Q : D × List D → Prop} {EX : EXT} : Sat (lastC g2 g d ρ S) Q EX ↔ Sat (g ρ S >>= fun y => R.of (g2 d y.1) >>= fun r => R.ok (r, y.2)) Q EX := Iff.rfl
@[simp ↓] theorem wp_chnE {f : FE} {h : D → FE} {ρ : Env} {S : List D} {Q : D × List D → Prop} {EX : EXT} : Sat (chnE f h ρ S) Q EX ↔ Sat (f ρ S >>= fun x => h x.1 ρ x.2) Q EX := Iff.rfl
@[simp ↓] theorem wp_lenC {cn : Str} {F : List D → R D} {f : FE} {ρ : Env} {S : List D} {Q : D × List D → Prop} {EX : EXT} : Sat (lenC cn F f ρ S) Q EX ↔ Sat (f ρ S >>= fun x => match x.1 with
  | .ins c _ _ => if c = cn then noX (F [x.1]) >>= fun d => match d with
    | .int n => if 0 ≤ n ∧ n < 2 ^ 63 then R.ok (.int n, x.2) else R.bad
    | _ => R.bad else R.bad
  | _ => R.bad) Q EX := Iff.rfl
@[simp ↓] theorem wp_rgF {f g : FE} {ρ : Env} {S : List D} {Q : List D × List D → Prop} {EX : EXT} : Sat (rgF f g ρ S) Q EX ↔ Sat (f ρ S >>= fun x => g ρ x.2 >>= fun y => R.of (rangeF [x.1, y.1]) >>= fun d => R.ok (d, y.2)) Q EX := Iff.rfl
@[simp ↓] theorem wp_extS {i : Nat} {f : FE} {ρ : Env} {S : List D} {Q : Ctl × Env × List D → Prop} {EX : EXT} : Sat (extS i f ρ S) Q EX ↔ Sat (f ρ S >>= fun x => lk ρ i >>= fun l => match l, x.1 with
  | .lst ds, .lst es => if ds.length + es.length ≤ LINE then setE ρ i (.lst (ds ++ es)) >>= fun ρ1 => R.ok (.nx, ρ1, x.2) else R.bad
  | _, _ => R.bad) Q EX := Iff.rfl
@[simp ↓] theorem wp_own4S {i j k l : Nat} {f g : FE} {ρ : Env} {S : List D} {Q : Ctl × Env × List D → Prop} {EX : EXT} : Sat (own4S i j k l f g ρ S) Q EX ↔ Sat (f ρ S >>= fun x => g ρ x.2 >>= fun y => setE ρ i (.lst []) >>= fun ρ1 => setE ρ1 j (.lst []) >>= fun ρ2 => setE ρ2 k x.1 >>= fun ρ3 => setE ρ3 l y.1 >>= fun ρ4 => R.ok (.nx, ρ4, y.2)) Q EX := Iff.rfl
@[simp ↓] theorem wp_enI {fa : FA} {ρ : Env} {S : List D} {Q : List D × List D → Prop} {EX : EXT} : Sat (enI fa ρ S) Q EX ↔ Sat (fa ρ S >>= fun x => R.ok (enD x.1, x.2)) Q EX := Iff.rfl
@[simp ↓] theorem wp_nmG {i : Nat} {d : D} {ρ : Env} {S : List D} {Q : Env × List D → Prop} {EX : EXT} : Sat (nmG i d ρ S) Q EX ↔ Sat (setE ρ i d >>= fun ρ1 => R.ok (ρ1, S)) Q EX := Iff.rfl
@[simp ↓] theorem wp_consG {g : FG} {h : FGs} {ds : List D} {ρ : Env} {S : List D} {Q : Env × List D → Prop} {EX : EXT} : Sat (consG g h ds ρ S) Q EX ↔ Sat (match ds with | [] => R.bad | d :: r => g d ρ S >>= fun ρ1 => h r ρ1.1 ρ1.2) Q EX := Iff.rfl
@[simp ↓] theorem wp_tupG {n : Nat} {g : FGs} {d : D} {ρ : Env} {S : List D} {Q : Env × List D → Prop} {EX : EXT} : Sat (tupG n g d ρ S) Q EX ↔ Sat (match d with | .tup ds => if ds.length = n then g ds ρ S else R.bad | _ => R.bad) Q EX := Iff.rfl
@[simp ↓] theorem wp_lstG {n : Nat} {g : FGs} {d : D} {ρ : Env} {S : List D} {Q : Env × List D → Prop} {EX : EXT} : Sat (lstG n g d ρ S) Q EX ↔ Sat (match d with | .lst ds => if ds.length = n then g ds ρ S else R.bad | _ => R.bad) Q EX := Iff.rfl
@[simp ↓] theorem wp_yesT {z0 : Env} {S : List D} {Q : Bool × List D → Prop} {EX : EXT} : Sat (yesT  z0 S) Q EX ↔ Sat (R.ok (true, S)) Q EX := Iff.rfl
@[simp ↓] theorem wp_nxS {ρ : Env} {S : List D} {Q : Ctl × Env × List D → Prop} {EX : EXT} : Sat (nxS  ρ S) Q EX ↔ Sat (R.ok (.nx, ρ, S)) Q EX := Iff.rfl
@[simp ↓] theorem wp_bkS {ρ : Env} {S : List D} {Q : Ctl × Env × List D → Prop} {EX : EXT} : Sat (bkS  ρ S) Q EX ↔ Sat (R.ok (.bk, ρ, S)) Q EX := Iff.rfl
@[simp ↓] theorem wp_ctS {ρ : Env} {S : List D} {Q : Ctl × Env × List D → Prop} {EX : EXT} : Sat (ctS  ρ S) Q EX ↔ Sat (R.ok (.ct, ρ, S)) Q EX := Iff.rfl
@[simp ↓] theorem wp_badS {z0 : Env} {z1 : List D} {Q : Ctl × Env × List D → Prop} {EX : EXT} : Sat (badS  z0 z1) Q EX ↔ Sat (R.bad) Q EX := Iff.rfl
@[simp ↓] theorem wp_nilA {z0 : Env} {S : List D} {Q : List D × List D → Prop} {EX : EXT} : Sat (nilA  z0 S) Q EX ↔ Sat (R.ok ([], S)) Q EX := Iff.rfl
@[simp ↓] theorem wp_noneO {z0 : Env} {S : List D} {Q : Option Int × List D → Prop} {EX : EXT} : Sat (noneO  z0 S) Q EX ↔ Sat (R.ok (none, S)) Q EX := Iff.rfl
@[simp ↓] theorem wp_end_rt {d : D} {ρ : Env} {S : List D} {Q : D → Prop} {EX : EXT} : Sat (endD (.rt d, ρ, S)) Q EX ↔ Q d := Iff.rfl
@[simp ↓] theorem wp_end_nx {ρ : Env} {S : List D} {Q : D → Prop} {EX : EXT} : Sat (endD (.nx, ρ, S)) Q EX ↔ Q .non := Iff.rfl
@[simp ↓] theorem wp_endP_rt {d : D} {ρ : Env} {S : List D} {Q : D × List D → Prop} {EX : EXT} : Sat (endP (.rt d, ρ, S)) Q EX ↔ Q (d, S) := Iff.rfl
@[simp ↓] theorem wp_endP_nx {ρ : Env} {S : List D} {Q : D × List D → Prop} {EX : EXT} : Sat (endP (.nx, ρ, S)) Q EX ↔ Q (.non, S) := Iff.rfl
/-- a def's run, from its arguments on -/
theorem wp_runF {n k : Nat} {fs : FS} {ds : List D} {Q : D → Prop} {EX : EXT} (h : ds.length = k) : Sat (runF n k fs ds) Q EX ↔ Sat (fs (startE n ds) []) (fun r => Sat (endD r) Q EX) EX := by
  unfold runF
  rw [if_pos h]
  exact wp_bind
theorem wp_runP {n k : Nat} {fs : FS} {S ds : List D} {Q : D × List D → Prop} {EX : EXT} (h : ds.length + 1 = k) : Sat (runP n k fs S ds) Q EX ↔ Sat (fs (startP n ds) S) (fun r => Sat (endP r) Q EX) EX := by
  unfold runP
  rw [if_pos h]
  exact wp_bind
theorem wp_runN {n k : Nat} {fa : FA} {ds : List D} {Q : List D → Prop} {EX : EXT} (h : ds.length = k) : Sat (runN n k fa ds) Q EX ↔ Sat (fa (startE n ds) []) (fun r => Q r.1) EX := by
  unfold runN
  rw [if_pos h]
  exact wp_bind
theorem wp_runI {nm : List Str} {n k : Nat} {fs : FS} {ds : List D} {Q : List D → Prop} {EX : EXT} (h : ds.length + 1 = k) : Sat (runI nm n k fs ds) Q EX ↔ Sat (fs (startP n ds) []) (fun r => match r.1 with | .nx => r.2.2.length = nm.length ∧ Q r.2.2 | _ => False) EX := by
  unfold runI
  rw [if_pos h, wp_bind]
  refine iff_of_eq (congrArg (fun q => Sat _ q EX) (funext fun r => ?_))
  obtain ⟨c, ρ, S⟩ := r
  cases c with
  | nx =>
    show Sat (if S.length = nm.length then R.ok S else R.bad) Q EX = _
    rw [wp_if]
    by_cases q : S.length = nm.length
    · rw [if_pos q]; exact propext ⟨fun z => ⟨q, z⟩, fun z => z.2⟩
    · rw [if_neg q]; exact propext ⟨fun z => z.elim, fun z => q z.1⟩
  | _ => rfl
theorem eq_sat {α : Type} {r : R α} {a : α} (h : Sat r (fun x => x = a) EX0) : r = R.ok a := by
  cases r with
  | ok x => exact congrArg R.ok h
  | exc _ _ _ => exact h.elim
  | bad => exact h.elim
/-! operators on plain data -/
@[simp] theorem addD_int (a b : Int) : addD (.int a) (.int b) = some (.int (a + b)) := rfl
@[simp] theorem subD_int (a b : Int) : subD (.int a) (.int b) = some (.int (a - b)) := rfl
@[simp] theorem mulD_int (a b : Int) : mulD (.int a) (.int b) = if (-(2 ^ 64) < a ∧ a < 2 ^ 64) ∨ (-(2 ^ 64) < b ∧ b < 2 ^ 64) then some (.int (a * b)) else none := by
  show (if (-(2 ^ 64) < a ∧ a < 2 ^ 64) ∨ (-(2 ^ 64) < b ∧ b < 2 ^ 64) then some (D.int (a * b)) else none).or ((none : Option D).or (none : Option D)) = _
  simp only [Option.or_none]
@[simp] theorem fdivD_int (a b : Int) : fdivD (.int a) (.int b) = if 0 < b ∧ b < 1073741824 then some (.int (a / b)) else none := rfl
@[simp] theorem modD_int (a b : Int) : modD (.int a) (.int b) = if 0 < b then some (.int (a % b)) else none := rfl
@[simp] theorem powD_int (a b : Int) : powD (.int a) (.int b) = if 0 ≤ b ∧ b ≤ 1000000 ∧ a.natAbs < 2 ^ 64 then some (.int (a ^ b.toNat)) else none := rfl
@[simp] theorem divmodD_int (a b : Int) : divmodD [.int a, .int b] = if 0 < b ∧ b < 1073741824 then some (.tup [.int (a / b), .int (a % b)]) else none := rfl
@[simp] theorem negD_int (a : Int) : negD (.int a) = some (.int (-a)) := rfl
@[simp] theorem ltD_int (a b : Int) : ltD (.int a) (.int b) = some (.bl (decide (a < b))) := rfl
@[simp] theorem leD_int (a b : Int) : leD (.int a) (.int b) = some (.bl (decide (a ≤ b))) := rfl
@[simp] theorem gtD_int (a b : Int) : gtD (.int a) (.int b) = some (.bl (decide (b < a))) := rfl
@[simp] theorem geD_int (a b : Int) : geD (.int a) (.int b) = some (.bl (decide (b ≤ a))) := rfl
@[simp] theorem neD_int (a b : Int) : neD (.int a) (.int b) = some (.bl (!decide (a = b))) := by
  unfold neD eqP toPy
  simp [SeqAt.shaped, PyData.eqv, PyData.canLay0, PyData.depth]
  rfl
@[simp] theorem eqD_int (a b : Int) : eqD (.int a) (.int b) = some (.bl (decide (a = b))) := by
  unfold eqD eqP toPy
  simp [SeqAt.shaped, PyData.eqv, PyData.canLay0, PyData.depth]
  rfl
@[simp] theorem addD_lst (a b : List D) : addD (.lst a) (.lst b) = if a.length + b.length ≤ LINE then some (.lst (a ++ b)) else none := by
  show (none : Option D).or ((none : Option D).or ((addL (.lst a) (.lst b)).or (addT (.lst a) (.lst b)))) = _
  simp only [addL, addT, Option.none_or, Option.or_none]
@[simp] theorem addD_tup (a b : List D) : addD (.tup a) (.tup b) = if a.length + b.length ≤ LINE then some (.tup (a ++ b)) else none := by
  show (none : Option D).or ((none : Option D).or ((addL (.tup a) (.tup b)).or (addT (.tup a) (.tup b)))) = _
  simp only [addL, addT, Option.none_or, Option.or_none]
@[simp] theorem idxD_lst (a : List D) (i : Int) : idxD (.lst a) (.int i) = L2.atI a i := by
  show (L2.atI a i).or ((none : Option D).or (none : Option D)) = _
  simp only [Option.or_none]
@[simp] theorem idxD_tup (a : List D) (i : Int) : idxD (.tup a) (.int i) = L2.atI a i := by
  show (none : Option D).or ((L2.atI a i).or (none : Option D)) = _
  simp only [Option.or_none, Option.none_or]
@[simp] theorem idxD_scr (a : List Int) (i : Int) : idxD (.scr a) (.int i) = (L2.atI a i).map .int := by
  show ((L2.atI a i).map D.int).or ((none : Option D).or (none : Option D)) = _
  simp only [Option.or_none]
@[simp] theorem truD_bl (b : Bool) : truD (.bl b) = some b := rfl
@[simp] theorem truD_int (i : Int) : truD (.int i) = some (i != 0) := rfl
@[simp] theorem lenD_lst (ds : List D) : lenD [.lst ds] = some (.int (ds.length : Nat)) := rfl
@[simp] theorem lenD_tup (ds : List D) : lenD [.tup ds] = some (.int (ds.length : Nat)) := rfl
@[simp] theorem lenD_scr (ds : List Int) : lenD [.scr ds] = some (.int (ds.length : Nat)) := rfl
@[simp] theorem min2D_int (i j : Int) : min2D [.int i, .int j] = some (.int (if j < i then j else i)) := rfl
@[simp] theorem max2D_int (i j : Int) : max2D [.int i, .int j] = some (.int (if j > i then j else i)) := rfl
@[simp] theorem absD_int (i : Int) : absD [.int i] = some (.int (if i < 0 then -i else i)) := rfl
@[simp] theorem tupD_lst (ds : List D) : tupD [.lst ds] = some (.tup ds) := rfl
@[simp] theorem tupD_tup (ds : List D) : tupD [.tup ds] = some (.tup ds) := rfl
@[simp] theorem itemsL_lst (ds : List D) : itemsL (.lst ds) = some ds := rfl
@[simp] theorem itemsL_scr (ns : List Int) : itemsL (.scr ns) = some (ns.map .int) := rfl
@[simp] theorem itemsT_tup (ds : List D) : itemsT (.tup ds) = some ds := rfl
@[simp] theorem itemsA_tup (ds : List D) : itemsA (.tup ds) = some ds := rfl
@[simp] theorem itemsA_lst (ds : List D) : itemsA (.lst ds) = some ds := rfl
@[simp] theorem rng1D_int (n : Int) : rng1D [.int n] = if -(2 ^ 62) ≤ n ∧ n < 2 ^ 62 then some ((List.range n.toNat).map fun i => D.int (0 + (i : Nat))) else none := rfl
@[simp] theorem rng2D_int (a b : Int) : rng2D [.int a, .int b] = if -(2 ^ 62) ≤ a ∧ a < 2 ^ 62 ∧ -(2 ^ 62) ≤ b ∧ b < 2 ^ 62 then some ((List.range (b - a).toNat).map fun i => D.int (a + (i : Nat))) else none := rfl
theorem allD_lst (ds : List D) : allD [.lst ds] = (D.bls ds).map fun ns => .bl (ns.all id) := rfl
@[simp] theorem isiD_int (t : String → Option Bool) (u : Str → Option Bool) (i : Int) : isiD t u (.int i) = (t "int").map .bl := rfl
@[simp] theorem isiD_bl (t : String → Option Bool) (u : Str → Option Bool) (i : Bool) : isiD t u (.bl i) = (t "bool").map .bl := rfl
@[simp] theorem isiD_non (t : String → Option Bool) (u : Str → Option Bool) : isiD t u .non = (t "NoneType").map .bl := rfl
@[simp] theorem isiD_str (t : String → Option Bool) (u : Str → Option Bool) (s : Str) : isiD t u (.str s) = (t "str").map .bl := rfl
@[simp] theorem isiD_tup (t : String → Option Bool) (u : Str → Option Bool) (s : List D) : isiD t u (.tup s) = (t "tuple").map .bl := rfl
@[simp] theorem isiD_lst (t : String → Option Bool) (u : Str → Option Bool) (s : List D) : isiD t u (.lst s) = (t "list").map .bl := rfl
@[simp] theorem isiD_scr (t : String → Option Bool) (u : Str → Option Bool) (s : List Int) : isiD t u (.scr s) = (t "list").map .bl := rfl
@[simp] theorem isiD_dic (t : String → Option Bool) (u : Str → Option Bool) (s : List Key) (v : List D) : isiD t u (.dic s v) = (t "dict").map .bl := rfl
@[simp] theorem isiD_ins (t : String → Option Bool) (u : Str → Option Bool) (c : Str) (n : List Str) (v : List D) : isiD t u (.ins c n v) = (u c).map .bl := rfl
/-! an item at a place -/
theorem atI_of {α : Type} {xs : List α} {i : Int} (h0 : 0 ≤ i) (h1 : i < xs.length) : ∃ d, L2.atI xs i = some d ∧ d ∈ xs ∧ xs[i.toNat]? = some d := by
  have h2 : i.toNat < xs.length := by omega
  refine ⟨xs[i.toNat], ?_, List.getElem_mem h2, List.getElem?_eq_getElem h2⟩
  unfold L2.atI ixN
  rw [if_pos h0, if_pos h1]
  exact List.getElem?_eq_getElem h2
inductive All2 {α β : Type} (r : α → β → Prop) : List α → List β → Prop
  | nil : All2 r [] []
  | cons {a : α} {b : β} {as : List α} {bs : List β} : r a b → All2 r as bs → All2 r (a :: as) (b :: bs)
theorem All2.length_eq {α β : Type} {r : α → β → Prop} {as : List α} {bs : List β} (h : All2 r as bs) : as.length = bs.length := by
  induction h with
  | nil => rfl
  | cons _ _ ih => simp [ih]
theorem All2.eq_map {α β : Type} {f : α → β} {as : List α} {bs : List β} (h : All2 (fun a b => b = f a) as bs) : bs = as.map f := by
  induction h with
  | nil => rfl
  | cons h _ ih => simp [h, ih]
/-! loops -/
theorem wp_for {g : FG} {fb : FS} {Q : Ctl × Env × List D → Prop} {EX : EXT} (ds : List D) (I : Nat → Env → List D → Prop)
    (step : ∀ i d ρ S, ds[i]? = some d → I i ρ S → Sat (g d ρ S) (fun r => Sat (fb r.1 r.2) (fun c => match c.1 with
      | .nx => I (i + 1) c.2.1 c.2.2
      | .ct => I (i + 1) c.2.1 c.2.2
      | .bk => Q (.nx, c.2.1, c.2.2)
      | .rt d => Q (.rt d, c.2.1, c.2.2)) EX) EX) (fin : ∀ ρ S, I ds.length ρ S → Q (.nx, ρ, S)) {ρ : Env} {S : List D} (h0 : I 0 ρ S) : Sat (forL g fb ds ρ S) Q EX := by
  have key : ∀ (n : Nat) (k : Nat), k + n = ds.length → ∀ ρ S, I k ρ S → Sat (forL g fb (ds.drop k) ρ S) Q EX := by
    intro n
    induction n with
    | zero =>
      intro k hk ρ S hI
      rw [List.drop_eq_nil_of_le (by omega)]
      have : k = ds.length := by omega
      exact fin ρ S (this ▸ hI)
    | succ n ih =>
      intro k hk ρ S hI
      have hlt : k < ds.length := by omega
      rw [List.drop_eq_getElem_cons hlt]
      show Sat (g ds[k] ρ S >>= fun ρ1 => fb ρ1.1 ρ1.2 >>= fun c => match c.1 with
        | .nx => forL g fb (ds.drop (k + 1)) c.2.1 c.2.2
        | .ct => forL g fb (ds.drop (k + 1)) c.2.1 c.2.2
        | .bk => R.ok (.nx, c.2.1, c.2.2)
        | .rt d => R.ok (.rt d, c.2.1, c.2.2)) Q EX
      rw [sat_bind]
      refine (step k ds[k] ρ S (List.getElem?_eq_getElem hlt) hI).imp fun r hr => ?_
      rw [sat_bind]
      refine hr.imp fun c hc => ?_
      obtain ⟨c1, ρ1, S1⟩ := c
      cases c1 with
      | nx => exact ih (k + 1) (by omega) ρ1 S1 hc
      | ct => exact ih (k + 1) (by omega) ρ1 S1 hc
      | bk => exact hc
      | rt d => exact hc
  have := key ds.length 0 (by omega) ρ S h0
  rwa [List.drop_zero] at this
def lpK (g : FG) (fb : FS) (r : List D) (c : Ctl × Env × List D) : R (Ctl × Env × List D) := match c.1 with
  | .nx => forL g fb r c.2.1 c.2.2
  | .ct => forL g fb r c.2.1 c.2.2
  | .bk => R.ok (.nx, c.2.1, c.2.2)
  | .rt d => R.ok (.rt d, c.2.1, c.2.2)
@[simp ↓] theorem wp_lpK_nx {g : FG} {fb : FS} {r : List D} {ρ : Env} {S : List D} {Q : Ctl × Env × List D → Prop} {EX : EXT} : Sat (lpK g fb r (.nx, ρ, S)) Q EX ↔ Sat (forL g fb r ρ S) Q EX := Iff.rfl
@[simp ↓] theorem wp_lpK_ct {g : FG} {fb : FS} {r : List D} {ρ : Env} {S : List D} {Q : Ctl × Env × List D → Prop} {EX : EXT} : Sat (lpK g fb r (.ct, ρ, S)) Q EX ↔ Sat (forL g fb r ρ S) Q EX := Iff.rfl
@[simp ↓] theorem wp_lpK_bk {g : FG} {fb : FS} {r : List D} {ρ : Env} {S : List D} {Q : Ctl × Env × List D → Prop} {EX : EXT} : Sat (lpK g fb r (.bk, ρ, S)) Q EX ↔ Q (.nx, ρ, S) := Iff.rfl
@[simp ↓] theorem wp_lpK_rt {g : FG} {fb : FS} {r : List D} {d : D} {ρ : Env} {S : List D} {Q : Ctl × Env × List D → Prop} {EX : EXT} : Sat (lpK g fb r (.rt d, ρ, S)) Q EX ↔ Q (.rt d, ρ, S) := Iff.rfl
/-- a loop, turn by turn (not for simp by itself) -/
theorem wp_for_cons {g : FG} {fb : FS} {d : D} {r : List D} {ρ : Env} {S : List D} {Q : Ctl × Env × List D → Prop} {EX : EXT} : Sat (forL g fb (d :: r) ρ S) Q EX ↔ Sat (g d ρ S) (fun ρ1 => Sat (fb ρ1.1 ρ1.2) (fun c => Sat (lpK g fb r c) Q EX) EX) EX := by
  show Sat (g d ρ S >>= fun ρ1 => fb ρ1.1 ρ1.2 >>= lpK g fb r) Q EX ↔ _
  rw [wp_bind]
  exact iff_of_eq (congrArg (fun q => Sat _ q EX) (funext fun a => propext wp_bind))
theorem wp_for_nil {g : FG} {fb : FS} {ρ : Env} {S : List D} {Q : Ctl × Env × List D → Prop} {EX : EXT} : Sat (forL g fb [] ρ S) Q EX ↔ Q (.nx, ρ, S) := Iff.rfl
theorem bls_true {α : Type} (l : List α) : D.bls (l.map fun _ => D.bl true) = some (l.map fun _ => true) := by
  induction l with
  | nil => rfl
  | cons a r ih => simp [D.bls, ih]
theorem all_true {α : Type} (l : List α) : allD [.lst (l.map fun _ => D.bl true)] = some (.bl true) := by
  rw [allD_lst, bls_true]
  simp
/-- a comprehension without tests: each item of the result belongs to its item -/
theorem wp_lc {vs : List Nat} {g : FG} {te : FE} {ρ : Env} {Q : List D × List D → Prop} {EX : EXT} (I : List D → Prop) (rel : D → D → Prop) (ds : List D) (hl : ds.length ≤ LINE)
    (step : ∀ d ∈ ds, ∀ S, I S → Sat (g d (wipeE ρ vs) S) (fun r => Sat (te r.1 r.2) (fun y => I y.2 ∧ rel d y.1) EX) EX)
    (fin : ∀ rs S, I S → All2 rel ds rs → Q (rs, S)) {S : List D} (h0 : I S) : Sat (lcL vs g yesT te ρ ds S []) Q EX := by
  have key : ∀ (as bs : List D) (S : List D) (rs : List D), ds = as ++ bs → I S → All2 rel as rs → Sat (lcL vs g yesT te ρ bs S rs) Q EX := by
    intro as bs
    induction bs generalizing as with
    | nil =>
      intro S rs e hI hr
      rw [List.append_nil] at e
      exact fin rs S hI (e ▸ hr)
    | cons b bs ih =>
      intro S rs e hI hr
      show Sat (g b (wipeE ρ vs) S >>= fun ρ1 => yesT ρ1.1 ρ1.2 >>= fun k => if k.1 then te ρ1.1 k.2 >>= fun y => (if rs.length < LINE then lcL vs g yesT te ρ bs y.2 (rs ++ [y.1]) else R.bad) else lcL vs g yesT te ρ bs k.2 rs) Q EX
      rw [sat_bind]
      refine (step b (by rw [e]; simp) S hI).imp fun r hr1 => ?_
      show Sat (te r.1 r.2 >>= fun y => (if rs.length < LINE then lcL vs g yesT te ρ bs y.2 (rs ++ [y.1]) else R.bad)) Q EX
      rw [sat_bind]
      refine hr1.imp fun y hy => ?_
      have h1 : rs.length = as.length := hr.length_eq.symm
      have h2 : as.length < ds.length := by rw [e]; simp
      rw [if_pos (by omega)]
      have happ : ∀ {l1 l2 : List D}, All2 rel l1 l2 → All2 rel (l1 ++ [b]) (l2 ++ [y.1]) := by
        intro l1 l2 h
        induction h with
        | nil => exact .cons hy.2 .nil
        | cons h _ ih => exact .cons h ih
      exact ih (as ++ [b]) y.2 (rs ++ [y.1]) (by rw [e]; simp) hy.1 (happ hr)
  exact key [] ds S [] rfl h0 .nil
end PL
set_option Elab.async false
set_option linter.all false
set_option maxRecDepth 100000
set_option maxHeartbeats 4000000
/-! The helpers that all laws share: what their functions give. -/
namespace LW
open PySem PySem.Spec PyProof.Rows L2 ClX PL
abbrev nm (i : Nat) : FE := fun ρ S => lk ρ i >>= fun d => R.ok (d, S)
def f_cell : FS := (seqS (ifS (tstB (bin2 ltD (nm 1) (callE lenD (consA (nm 0) nilA)))) (retS (bin2 idxD (nm 0) (nm 1))) nxS)
  (seqS (asgS (bin2 modD (bin2 mulD (fun _ S => R.ok (.int 70009, S)) (bin2 addD (bin2 addD (bin2 mulD (nm 1) (nm 1)) (bin2 mulD (fun _ S => R.ok (.int 7, S)) (nm 1))) (fun _ S => R.ok (.int 19, S)))) (fun _ S => R.ok (.int 2147483179, S))) (nmG 2))
  (seqS (forS (seqI itemsL (slcE (nm 0) noneO (someO (fun _ S => R.ok (.int 3, S))))) (nmG 3) (asgS (bin2 modD (bin2 addD (bin2 mulD (nm 2) (fun _ S => R.ok (.int 42019, S))) (nm 3)) (fun _ S => R.ok (.int 2147483179, S))) (nmG 2)))
  (retS (nm 2)))))
abbrev F_cell := runF 4 2 f_cell
def f_pool : FA := (seqN (asgS (ifE (orT (tstB (bin2 ltD (nm 0) (fun _ S => R.ok (.int 0, S)))) (tstB (bin2 geD (nm 0) (bin2 powD (fun _ S => R.ok (.int 10, S)) (fun _ S => R.ok (.int 18, S)))))) (callE absD (consA (nm 0) nilA)) (fun _ S => R.ok (.int 0, S))) (nmG 1))
  (lstF (consA (bin2 modD (nm 0) (fun _ S => R.ok (.int 2147483179, S))) (consA (nm 1) (consA (fun _ S => R.ok (.int 0, S)) nilA)))))
abbrev F_pool := runN 2 1 f_pool
def f_draw : FS := (seqS (asgS (bin2 addD (poolE 2) (fun _ S => R.ok (.int 1, S))) (poolG 2))
  (seqS (asgS (poolE 0) (nmG 2))
  (seqS (asgS (bin2 modD (bin2 addD (bin2 addD (bin2 mulD (nm 2) (bin2 addD (bin2 modD (nm 2) (fun _ S => R.ok (.int 40993, S))) (fun _ S => R.ok (.int 30013, S)))) (bin2 mulD (fun _ S => R.ok (.int 70001, S)) (poolE 2))) (fun _ S => R.ok (.int 9, S))) (fun _ S => R.ok (.int 2147483179, S))) (poolG 0))
  (seqS (ifS (tstB (bin2 gtD (poolE 1) (fun _ S => R.ok (.int 0, S)))) (seqS (asgS (callE divmodD (consA (poolE 1) (consA (nm 1) nilA))) (tupG 2 (consG (poolG 1) (consG (nmG 3) nilG))))
  (retS (nm 3))) nxS)
  (retS (bin2 modD (bin2 fdivD (poolE 0) (fun _ S => R.ok (.int 64, S))) (nm 1)))))))
abbrev F_draw := runP 4 2 f_draw
def f_flows : FS := (seqS (own4S 4 5 6 7 (fun _ S => R.ok (.int 0, S)) (nm 3))
  (seqS (forS (rngI rng1D (consA (nm 1) nilA)) (nmG 8) (seqS (asgS (callP F_draw (consA (fun _ S => R.ok (.int 6, S)) nilA)) (nmG 9))
  (seqS (asgS (callE min2D (consA (nm 7) (consA (bin2 idxD (ofF (lstF (consA (fun _ S => R.ok (.int 0, S)) (consA (fun _ S => R.ok (.int 0, S)) (consA (fun _ S => R.ok (.int 1, S)) (consA (nm 2) (consA (callP F_draw (consA (bin2 addD (nm 2) (fun _ S => R.ok (.int 1, S))) nilA)) (consA (callP F_draw (consA (bin2 addD (nm 2) (fun _ S => R.ok (.int 1, S))) nilA)) nilA)))))))) (nm 9)) nilA))) (nmG 10))
  (seqS (parS 6 7 (consA (bin2 addD (nm 6) (nm 10)) (consA (bin2 subD (nm 7) (nm 10)) nilA)))
  (seqS (asgS (callP F_draw (consA (fun _ S => R.ok (.int 6, S)) nilA)) (nmG 9))
  (seqS (asgS (bin2 idxD (ofF (lstF (consA (fun _ S => R.ok (.int 0, S)) (consA (nm 6) (consA (callE min2D (consA (fun _ S => R.ok (.int 1, S)) (consA (nm 6) nilA))) (consA (callP F_draw (consA (bin2 addD (nm 6) (fun _ S => R.ok (.int 1, S))) nilA)) (consA (callP F_draw (consA (bin2 addD (nm 6) (fun _ S => R.ok (.int 1, S))) nilA)) (consA (callE min2D (consA (nm 6) (consA (nm 10) nilA))) nilA)))))))) (nm 9)) (nmG 11))
  (seqS (appS 4 (nm 10))
  (seqS (appS 5 (nm 11))
  (asgS (bin2 subD (nm 6) (nm 11)) (nmG 6))))))))))
  (retS (ofF (lstF (consA (callE tupD (consA (nm 4) nilA)) (consA (callE tupD (consA (nm 5) nilA)) nilA)))))))
abbrev F_flows := runP 12 4 f_flows
abbrev P31 : Int := 2147483179
def PoolOk (S : List D) : Prop := ∃ a b c : Int, S = [.int a, .int b, .int c] ∧ 0 ≤ a ∧ a < P31 ∧ 0 ≤ b ∧ 0 ≤ c
theorem atI3 (x y z : D) : L2.atI [x, y, z] 0 = some x ∧ L2.atI [x, y, z] 1 = some y ∧ L2.atI [x, y, z] 2 = some z := ⟨rfl, rfl, rfl⟩
theorem ixN3 : ixN 3 0 = some 0 ∧ ixN 3 1 = some 1 ∧ ixN 3 2 = some 2 := ⟨rfl, rfl, rfl⟩
theorem draw_spec {S : List D} {n : Int} (hS : PoolOk S) (h0 : 0 < n) (h1 : n < 1073741824) : Sat (F_draw S [.int n]) (fun r => ∃ v : Int, r.1 = .int v ∧ 0 ≤ v ∧ v < n ∧ PoolOk r.2) EX0 := by
  obtain ⟨a, b, c, rfl, ha, ha2, hb, hc⟩ := hS
  refine (wp_runP rfl).mpr ?_
  unfold f_draw
  simp [startP, startE, atI3, ixN3]
  refine ⟨.inr ⟨by omega, by omega⟩, ?_⟩
  have hp : PoolOk [D.int ((a * (a % 40993 + 30013) + 70001 * (c + 1) + 9) % 2147483179), D.int (b / n), D.int (c + 1)] := ⟨_, _, _, rfl, Int.emod_nonneg _ (by decide), Int.emod_lt_of_pos _ (by decide), Int.ediv_nonneg hb (by omega), by omega⟩
  have hq : PoolOk [D.int ((a * (a % 40993 + 30013) + 70001 * (c + 1) + 9) % 2147483179), D.int b, D.int (c + 1)] := ⟨_, _, _, rfl, Int.emod_nonneg _ (by decide), Int.emod_lt_of_pos _ (by decide), hb, by omega⟩
  split
  · exact ⟨⟨h0, h1⟩, Int.emod_nonneg _ (by omega), Int.emod_lt_of_pos _ h0, hp⟩
  · exact ⟨h0, Int.emod_nonneg _ (by omega), Int.emod_lt_of_pos _ h0, hq⟩
/-! sums of the first ones -/
def pre (a : List Int) (k : Nat) : Int := (a.take k).sum
theorem pre_zero (a : List Int) : pre a 0 = 0 := by simp [pre]
theorem pre_all (a : List Int) {k : Nat} (h : a.length ≤ k) : pre a k = a.sum := by simp [pre, List.take_of_length_le h]
theorem pre_snoc (a : List Int) (x : Int) {k : Nat} (h : k ≤ a.length) : pre (a ++ [x]) k = pre a k := by
  unfold pre
  rw [List.take_append_of_le_length h]
theorem pre_succ {a : List Int} {i : Nat} {x : Int} (h : a[i]? = some x) : pre a (i + 1) = pre a i + x := by
  unfold pre
  obtain ⟨h1, h2⟩ := List.getElem?_eq_some_iff.mp h
  rw [List.take_succ_eq_append_getElem h1, h2]
  simp
theorem sum_nn : ∀ {l : List Int}, (∀ x ∈ l, 0 ≤ x) → 0 ≤ l.sum
  | [], _ => by simp
  | x :: r, h => by
    have h1 := h x (by simp)
    have h2 := sum_nn (l := r) fun y hy => h y (by simp [hy])
    simp
    omega
structure Flow (a b : List Int) (m : Int) : Prop where
  len : a.length = b.length
  ca : ∀ x ∈ a, 0 ≤ x
  cb : ∀ x ∈ b, 0 ≤ x
  le : ∀ k, k ≤ a.length → pre b k ≤ pre a k
  top : a.sum ≤ m
theorem Flow.nil {m : Int} (h : 0 ≤ m) : Flow [] [] m := ⟨rfl, by simp, by simp, by simp [pre], by simpa using h⟩
theorem Flow.snoc {a b : List Int} {m x y : Int} (f : Flow a b m) (hx : 0 ≤ x) (hx2 : a.sum + x ≤ m) (hy : 0 ≤ y) (hy2 : y ≤ a.sum - b.sum + x) : Flow (a ++ [x]) (b ++ [y]) m where
  len := by simp [f.len]
  ca := by
    intro z hz
    rcases List.mem_append.mp hz with h | h
    · exact f.ca z h
    · simp at h; omega
  cb := by
    intro z hz
    rcases List.mem_append.mp hz with h | h
    · exact f.cb z h
    · simp at h; omega
  le := by
    intro k hk
    simp at hk
    by_cases h : k ≤ a.length
    · rw [pre_snoc a x h, pre_snoc b y (by rw [← f.len]; exact h)]
      exact f.le k h
    · have := f.len
      rw [pre_all _ (by simp; omega), pre_all _ (by simp; omega)]
      simp
      omega
  top := by simpa using hx2
theorem rng_at {n i : Nat} {d : D} {lo : Int} (h : ((List.range n).map fun i => D.int (lo + (i : Nat)))[i]? = some d) : i < n ∧ d = .int (lo + i) := by
  rw [List.getElem?_map] at h
  cases q : (List.range n)[i]? with
  | none => rw [q] at h; cases h
  | some k =>
    rw [q] at h
    obtain ⟨h1, h2⟩ := List.getElem?_eq_some_iff.mp q
    simp at h1 h2 h
    subst h2
    exact ⟨h1, h.symm⟩
abbrev intL (a : List Int) : List D := a.map D.int
theorem flows_spec {S : List D} {n most m : Int} (hS : PoolOk S) (h0 : 0 ≤ n) (h1 : n ≤ 1000) (hm0 : 0 ≤ most) (hm1 : most < 1000000) (hp0 : 0 ≤ m) (hp1 : m < 1000000) :
    Sat (F_flows S [.int n, .int most, .int m]) (fun r => ∃ a b : List Int, r.1 = .lst [.tup (intL a), .tup (intL b)] ∧ (a.length : Int) = n ∧ Flow a b m ∧ PoolOk r.2) EX0 := by
  refine (wp_runP rfl).mpr ?_
  unfold f_flows
  simp [startP, startE]
  refine ⟨by omega, ?_⟩
  refine wp_for _ (fun i ρ S => ∃ (a b : List Int) (here : Int) (o1 o2 o3 o4 : Option D), ρ = [none, some (D.int n), some (D.int most), some (D.int m), some (.lst (intL a)), some (.lst (intL b)), some (.int here), some (.int (m - a.sum)), o1, o2, o3, o4] ∧ a.length = i ∧ Flow a b m ∧ here = a.sum - b.sum ∧ 0 ≤ here ∧ PoolOk S) ?_ ?_ ⟨[], [], 0, none, none, none, none, by simp [intL], rfl, Flow.nil hp0, rfl, by omega, hS⟩
  · rintro i d ρ S hd ⟨a, b, here, o1, o2, o3, o4, rfl, hl, hf, hh, hh0, hS⟩
    have ht := hf.top
    have hbs := sum_nn hf.cb
    obtain ⟨hin, rfl⟩ := rng_at (lo := 0) (by simpa using hd)
    simp
    refine (draw_spec hS (by omega) (by omega)).imp ?_
    rintro ⟨_, S1⟩ ⟨w, rfl, hw0, hw1, hS1⟩
    simp
    refine (draw_spec hS1 (by omega) (by omega)).imp ?_
    rintro ⟨_, S2⟩ ⟨u1, rfl, hu0, hu1, hS2⟩
    simp
    refine (draw_spec hS2 (by omega) (by omega)).imp ?_
    rintro ⟨_, S3⟩ ⟨u2, rfl, hv0, hv1, hS3⟩
    simp
    obtain ⟨x0, e0, hm, _⟩ := atI_of (xs := [D.int 0, D.int 0, D.int 1, D.int most, D.int u1, D.int u2]) (i := w) hw0 (by simpa using hw1)
    obtain ⟨x, rfl, hx0, hx1⟩ : ∃ x : Int, x0 = .int x ∧ 0 ≤ x ∧ x ≤ most + 1 := by
      simp at hm
      rcases hm with rfl | rfl | rfl | rfl | rfl <;> exact ⟨_, rfl, by omega, by omega⟩
    rw [e0]
    simp [LINE]
    generalize hx : (if x < m - a.sum then x else m - a.sum) = new
    have hn0 : 0 ≤ new := by split at hx <;> omega
    have hn1 : a.sum + new ≤ m := by split at hx <;> omega
    refine (draw_spec hS3 (by omega) (by omega)).imp ?_
    rintro ⟨_, S4⟩ ⟨w2, rfl, hw0, hw1, hS4⟩
    simp
    refine (draw_spec hS4 (by omega) (by omega)).imp ?_
    rintro ⟨_, S5⟩ ⟨u3, rfl, hu0, hu1, hS5⟩
    simp
    refine (draw_spec hS5 (by omega) (by omega)).imp ?_
    rintro ⟨_, S6⟩ ⟨u4, rfl, hv0, hv1, hS6⟩
    simp
    obtain ⟨y0, e1, hm, _⟩ := atI_of (xs := [D.int 0, D.int (here + new), D.int (if here + new < 1 then here + new else 1), D.int u3, D.int u4, D.int (if new < here + new then new else here + new)]) (i := w2) hw0 (by simpa using hw1)
    obtain ⟨y, rfl, hy0, hy1⟩ : ∃ y : Int, y0 = .int y ∧ 0 ≤ y ∧ y ≤ here + new := by
      simp at hm
      rcases hm with rfl | rfl | rfl | rfl | rfl | rfl <;> first | exact ⟨_, rfl, by omega, by omega⟩ | exact ⟨_, rfl, by split <;> omega, by split <;> omega⟩
    rw [e1]
    simp [LINE]
    have hlb := hf.len
    refine ⟨by omega, by omega, a ++ [new], b ++ [y], here + new - y, ⟨by simp, by simp, rfl, by simp; omega⟩, by simp; omega, hf.snoc hn0 hn1 hy0 (by omega), by simp; omega, by omega, hS6⟩
  · rintro ρ S ⟨a, b, here, o1, o2, o3, o4, rfl, hl, hf, hh, hh0, hS⟩
    simp [LINE]
    refine ⟨a, b, ⟨rfl, rfl⟩, ?_, hf, hS⟩
    simp at hl
    omega
end LW
set_option Elab.async false
set_option linter.all false
set_option maxRecDepth 100000
set_option maxHeartbeats 4000000
/-! An own class's defs that the language calls: properties, [], str, repr; texts joined. -/
namespace PL
open PySem PySem.Spec PyProof.Rows L2 ClX
section
variable {X : Cx} {z : Z} {O OI OM OO OL : List Nat} {EX : EXT} {a b c e o : Expr} {es : List Expr} {f g h : FE} {fa ga fk : FA} {fs gs : FS} {pos p apos : Pos}
variable {B : List Addr} {P : List (Nat × Addr)} {σ σ' : L2.St} {H H' : Hp} {ρ ρ' : Env} {S S' : List D} {x m : Str}
variable {k : Nat} {fA C : Addr} {fd : FuncData} {ps ks : List Str}
/-- a callee runs, wherever under the def -/
theorem code_at {A' : Around} {sp : Sp} {E : XK} {s : Shared} {pins : List (Addr × Obj)} {us : List Value} {vs : List V} {Q : VK} (G : FnG X.prog X.w X.K X.mg X.base k fA fd ps sp) (hr : Room k A') (hg : A'.guards = some []) (e0 : Env0 X.prog X.w X.K X.mg X.base A' X.stack s H)
    (I : Inv X pins σ H s) (hb : Binds X.K fd ps []) (r : Vals vs us) (h : sp vs H Q E) {R : Result → Shared → Prop} (hR : ∀ v s', EP X pins σ Q v s' → R (.ok (.ret v)) s') :
    codeAny (model X.prog X.w) A' (.call (.ref fA) ⟨us, []⟩) R s := by
  have hl : (us ++ ([] : List Value)).length = ps.length := by rw [List.append_nil, ← r.length]; exact G.num _ _ _ _ h
  have hb' := hb s us I.kIn hl
  rw [List.append_nil] at hb'
  refine codeAny_mono (G.go A' X.stack s H ⟨us, []⟩ us vs Q E hr hg e0 hb' r h) fun res s' hq => ?_
  match res, hq with
  | .ok (.ret u), hq => exact hR u s' (I.after hq)
  | .ok .next, hq => exact False.elim hq
  | .ok .brk, hq => exact False.elim hq
  | .ok .cont, hq => exact False.elim hq
  | .error er, hq => exact False.elim hq
theorem ins_in {cn : Str} {ns : List Str} {vs : List D} {v : V} (hca : z.ca cn = some C) {F : Hp} (h : Rp z.K z.ca F v (.ins cn ns vs)) : ∃ a dx fs, v = .ref a ∧ F a = some (.ins C dx fs) := by
  cases h with
  | ins h c r =>
    rw [hca] at c
    cases c
    exact ⟨_, _, _, rfl, h⟩
/-! ### e[i], an instance -/
def itmD (cn : Str) (F : List D → R D) (f g : FE) : FE := fun ρ S => f ρ S >>= fun x => g ρ x.2 >>= fun y => match x.1 with
  | .ins c _ _ => if c = cn then noX (F [x.1, y.1]) >>= fun d => R.ok (d, y.2) else R.bad
  | _ => R.bad
/-! ### str(e), repr(e), an instance -/
def strC (cn : Str) (F : List D → R D) (f : FE) : FE := fun ρ S => f ρ S >>= fun x => match x.1 with
  | .ins c _ _ => if c = cn then noX (F [x.1]) >>= fun d => match d with
    | .str y => R.ok (.str y, x.2)
    | _ => R.bad else R.bad
  | _ => R.bad
theorem sat_strC {cn : Str} {F : List D → R D} {v : V} {w : D × List D} {H1 : Hp} {Q : VK} (hca : z.ca cn = some C) (r1 : Rel z B P σ H1 ρ w.2) (hv : Rp z.K z.ca (Frz H1 (z.L B P)) v w.1)
    (hw : Sat (match w.1 with
      | .ins c _ _ => if c = cn then noX (F [w.1]) >>= fun d => match d with
        | .str y => R.ok (D.str y, w.2)
        | _ => R.bad else R.bad
      | _ => R.bad) (fun r => ∀ v H', Grow z H1 H' → Rel z B P σ H' ρ r.2 → Rp z.K z.ca (Frz H' (z.L B P)) v r.1 → Q v H') EX) :
    ∃ a dx fs, [v] = [V.ref a] ∧ H1 a = some (.ins C dx fs) ∧ spF z.K z.ca z.tb F [.ref a] H1 (fun v H' => ∃ y : Str, v = .str y ∧ Q (.str y) H') E0 := by
  obtain ⟨w1, w2⟩ := w
  cases w1 with
  | ins c ns vs =>
    dsimp only at hw
    split at hw
    · rename_i ec
      subst ec
      obtain ⟨a, dx, fs, rfl, ea⟩ := ins_in hca hv
      refine ⟨a, dx, fs, rfl, frz_ex _ _ _ _ ea, [_], z.L B P, r1.nd, fun b hb => r1.lt hb, r1.tin, .cons hv .nil, ?_⟩
      refine (sat_noX (sat_bind.mp hw)).imp fun d hd v H' e' tt hv' => ?_
      cases d with
      | str y =>
        cases hv'
        exact ⟨y, rfl, hd _ H' e'.grow (r1.growT e' tt) (.str y)⟩
      | _ => exact hd.elim
    · exact hw.elim
  | _ => exact hw.elim
theorem pd_strC {cn : Str} {F : List D → R D} (hm : X.mg "str" = none) (hca : z.ca cn = some C) (hs : PySem.W.findIn X.K (.ref C) "__str__" = some (some (.ref fA))) (hf : PySem.W.isFn X.K (.ref fA) = true) (G : FnG X.prog X.w X.K X.mg X.base k fA fd ps (spF z.K z.ca z.tb F)) (hr : Rm (k + 2) X.A) (hb : Binds X.K fd ps [])
    (ha : PD X z O EX e f) (hg : Gl X "str" := by rfl) (he : starEach [e] X.env = (false, eval e X.env) :: starEach [] X.env := by rfl) (hpl : (backTo pos (starEach [] X.env)).any (·.1) = false := by rfl) : PD X z O EX (.Call (.Name "str" p) [e] [] pos) (strC cn F f) := by
  obtain ⟨t, pt, q⟩ := ha.ex
  have rule : CallR X (.type "str") (fun vs H Q => ∃ a dx fs, vs = [.ref a] ∧ H a = some (.ins C dx fs) ∧ spF z.K z.ca z.tb F [.ref a] H (fun v H' => ∃ y : Str, v = .str y ∧ Q (.str y) H') E0) := by
    intro pins s σ H xs us Q I r h
    obtain ⟨ad, dx, fs, rfl, ea, hq⟩ := h
    rw [Vals.ref1 r]
    obtain ⟨mA, Oj, _⟩ := ins_get I.hok ea
    obtain ⟨od, J, _⟩ := Oj.look
    have hr2 : Room k X.A.in1.in1 := (show Room (k + 1) X.A.in1 from Room.in1 hr.r).in1
    refine PySem.W.kso_call hr2.units0 I.kIn J hs hf (wpAny_call (code_at G hr2 hr.g I.env0.in1.in1 I hb (vs := [.ref ad]) (.cons rfl .nil) hq fun v s' hv => ?_))
    obtain ⟨w, H', I3, rv, y, rfl, q3⟩ := hv
    obtain ⟨tk, rfl⟩ := rv
    exact ⟨.str y, H', I3, ⟨tk, rfl⟩, q3⟩
  refine ⟨_, pe_callTy rule hg hm (by decide +kernel) (pa_cons pt pa_nil he) (by decide) (by decide) he hpl, fun B P σ H ρ S Q hP rr hs' => ?_⟩
  refine q B P σ H ρ S _ hP rr ((sat_bind.mp hs').imp fun w hw v H1 g1 r1 hv => ?_)
  exact sat_strC hca r1 hv (Sat.imp hw fun r hr v' H' g' r' hv' => hr v' H' (g1.trans g') r' hv')
/-! ### f-strings -/
abbrev FJ := Str → Env → List D → R (Str × List D)
def nilJ : FJ := fun acc _ S => R.ok (acc, S)
def consJ (f : FE) (h : FJ) : FJ := fun acc ρ S => f ρ S >>= fun x => match x.1 with
  | .str y => if (acc ++ y).length ≤ LINE then h (acc ++ y) ρ x.2 else R.bad
  | _ => R.bad
def EvJ (z : Z) (O : List Nat) (EX : EXT) (ts : List TE) (f : FJ) : Prop :=
  ∀ B P σ H ρ S acc (Q : Str → Hp → Prop), P.map (·.1) = O → Rel z B P σ H ρ S → Sat (f acc ρ S) (fun r => ∀ H', Grow z H H' → Rel z B P σ H' ρ r.2 → Q r.1 H') EX → tJs ts acc σ H Q
structure PJd (X : Cx) (z : Z) (O : List Nat) (EX : EXT) (es : List Expr) (f : FJ) : Prop where
  ex : ∃ ts, PJ X es ts ∧ EvJ z O EX ts f
theorem pjd_nil : PJd X z O EX [] nilJ := ⟨_, .nil, fun B P σ H ρ S acc Q hP rr hs => hs H Grow.refl rr⟩
theorem pjd_cons {fj : FJ} (ha : PD X z O EX e f) (hr : PJd X z O EX es fj) : PJd X z O EX (e :: es) (consJ f fj) := by
  obtain ⟨t, pt, q⟩ := ha.ex
  obtain ⟨ts, pts, qs⟩ := hr.ex
  refine ⟨_, .cons pt pts, fun B P σ H ρ S acc Q hP rr hs => ?_⟩
  refine q B P σ H ρ S _ hP rr ((sat_bind.mp hs).imp fun w hw v H1 g1 r1 hv => ?_)
  obtain ⟨w1, w2⟩ := w
  cases w1 with
  | str y =>
    dsimp only at hw
    split at hw
    · rename_i l
      cases hv
      exact ⟨y, rfl, line_le l, qs B P σ H1 ρ w2 _ Q hP r1 (hw.imp fun r hr H' g' r' => hr H' (g1.trans g') r')⟩
    · exact hw.elim
  | _ => exact hw.elim
def fmtD : D → Option D
  | .str y => if y.length ≤ LINE then some (.str y) else none
  | .int i => if i.natAbs.log2 < 1920 then some (.str (toString i)) else none
  | _ => none
/-- {e} in a text -/
theorem pd_fmt (ha : PD X z O EX e f) : PD X z O EX (.FormattedValue e (-1) none pos) (un1 fmtD f) := by
  obtain ⟨t, pt, q⟩ := ha.ex
  refine ⟨_, pe_fmt pt, fun B P σ H ρ S Q hP rr hs => ?_⟩
  refine q B P σ H ρ S _ hP rr ((sat_bind.mp hs).imp fun w hw v H1 g1 r1 hv => ?_)
  obtain ⟨d, hd, hq⟩ := sat_of (sat_bind.mp hw)
  obtain ⟨w1, w2⟩ := w
  cases w1 <;> simp only [fmtD, reduceCtorEq] at hd
  · split at hd
    · rename_i l
      cases hd
      cases hv
      exact .inr ⟨_, rfl, l, hq _ H1 g1 r1 (.str _)⟩
    · cases hd
  · split at hd
    · rename_i l
      cases hd
      cases hv
      exact .inl ⟨_, rfl, line_le l, hq _ H1 g1 r1 (.str _)⟩
    · cases hd
def jnE (h : FJ) : FE := fun ρ S => h Str.empty ρ S >>= fun r => R.ok (.str r.1, r.2)
theorem pd_joined {v1 v2 : Expr} {rest : List Expr} {fj : FJ} (ha : PJd X z O EX (v1 :: v2 :: rest) fj) : PD X z O EX (.JoinedStr (v1 :: v2 :: rest) pos) (jnE fj) := by
  obtain ⟨ts, pts, qs⟩ := ha.ex
  refine ⟨_, pe_joined pts, fun B P σ H ρ S Q hP rr hs => ?_⟩
  exact qs B P σ H ρ S _ _ hP rr ((sat_bind.mp hs).imp fun r hr H' g' r' => hr _ H' g' r' (.str _))
/-! ### sep.join(xs) -/
def joinD : D → List D → Option D
  | .str a, [.lst ds] => (D.strs ds).bind fun ys => if (ys.map (·.length)).sum + ys.length * a.length ≤ LINE then some (.str (Txt.join a ys)) else none
  | _, _ => none
def rJoin (K : PySem.W.Frag) : V → List V → Hp → VK → Prop := fun x xs H Q => ∃ a p, ∃ ys : List Str, x = .str a ∧ xs = [.ref p] ∧ (SqL K H p (ys.map V.str) ∨ SqT K H p (ys.map V.str)) ∧
    (ys.map (·.length)).sum + ys.length * a.length ≤ 16777216 ∧ Q (.str (Txt.join a ys)) H
theorem mthD_join {K : PySem.W.Frag} {ca : Str → Option Addr} : MthD K ca "str" (rJoin K) joinD := by
  intro H L N x dx vs ds d Q fr hx hv e hq
  unfold joinD at e
  split at e
  · simp only [Option.bind_eq_some_iff] at e
    obtain ⟨ys, e1, e2⟩ := e
    split at e2
    · rename_i l
      cases e2
      cases hv with
      | cons h r =>
        cases r
        obtain ⟨p, xs, rfl, h1, r1⟩ := h.lst
        have := RpA.strs r1 e1
        subst this
        exact ⟨_, p, ys, hx.str, rfl, .inl (SqL.of h1), l, hq _ H (Ex.refl H) (.str _)⟩
    · cases e2
  · cases e
theorem pd_join (hK : X.K = z.K) (ho : PB X z O EX o f) (ha : PBA X z O EX [e] fa) (hbase : attributeBase o "join" X.env (eval o X.env) = eval o X.env := by rfl)
    (hfew : ((backTo pos (starEach (e :: []) X.env)).all (fun x => !x.1) && (backToKw pos (keywordEach [] X.env)).all (fun x => x.1.isSome)
      && decide ((e :: []).length + ([] : List Keyword).length + (if ([] : List Keyword).isEmpty then 0 else 1) < 30)) = true := by rfl)
    (hline : (apos.endLine == pos.line) = true := by rfl) (hs : starEach (e :: []) X.env = (false, eval e X.env) :: starEach [] X.env := by rfl) (hplain : (backTo pos (starEach [] X.env)).any (·.1) = false := by rfl) :
    PD X z O EX (.Call (.Attribute o "join" apos) [e] [] pos) (mthE "str" joinD f fa) :=
  pd_mth hK PySem.F.plainAttrs_str PySem.F.slot_str_join PySem.F.type_str_join (r := rJoin z.K) (hK ▸ mt_join) mthD_join ho ha hbase hfew hline hs hplain
end
end PL
set_option Elab.async false
set_option linter.all false
set_option maxRecDepth 100000
set_option maxHeartbeats 4000000
/-! A value of a usual type declines to be compared with an own class's instance. -/
namespace PL
open PySem PySem.Spec PyProof.Rows L2 ClX GQ SeqAt MeetsSeq AutoSeq1
section
variable {prog : Program} {w : World} {A : Around} {R : Result → Shared → Prop} {s : Shared} {l y C : Addr} {oy : Obj}
theorem dec_tup_eq {items : Array Value} {n : Nat} {dd : Option Addr} {sl : Array (Option Value)} (hl : s.heap.get? l = some { cls := .type "tuple", dict := dd, data := .seq items n, slots := sl }) (hy : s.heap.get? y = some oy) (hc : oy.cls = .ref C)
    (hs : PySem.W.Looks (model prog w) s.heap (isSubtype (.ref C) (.type "tuple")) false) (h : R (.ok (.ret .notImplemented)) s) :
    wpAny (model prog w) A.in1 (Builtin.«tuple.__eq__» ⟨[.ref l, .ref y], []⟩) (FinOf prog w A R) (fun e s' => R (.error e) s') s := by
  obtain ⟨hp, g, d, tk, os⟩ := s
  obtain ⟨cy, dy, ty, sy⟩ := oy
  dsimp only at hc
  subst hc
  have hs' : ∀ Q : Bool → Shared → Prop, Q false ⟨hp, g, d, tk, os⟩ → wpAny (model prog w) A.in1 (isSubtype (.ref C) (.type "tuple")) Q (fun e s' => R (.error e) s') ⟨hp, g, d, tk, os⟩ := fun Q q => hs.here q
  wp_walk using wpAny_loadPart' hl, wpAny_loadPart' hy, wpAny_load hy, hs' _
  exact h
theorem dec_lst_eq {items : Array Value} {n : Nat} {dd : Option Addr} {sl : Array (Option Value)} (hl : s.heap.get? l = some { cls := .type "list", dict := dd, data := .seq items n, slots := sl }) (hy : s.heap.get? y = some oy) (hc : oy.cls = .ref C)
    (hs : PySem.W.Looks (model prog w) s.heap (isSubtype (.ref C) (.type "list")) false) (h : R (.ok (.ret .notImplemented)) s) :
    wpAny (model prog w) A.in1 (Builtin.«list.__eq__» ⟨[.ref l, .ref y], []⟩) (FinOf prog w A R) (fun e s' => R (.error e) s') s := by
  obtain ⟨hp, g, d, tk, os⟩ := s
  obtain ⟨cy, dy, ty, sy⟩ := oy
  dsimp only at hc
  subst hc
  have hs' : ∀ Q : Bool → Shared → Prop, Q false ⟨hp, g, d, tk, os⟩ → wpAny (model prog w) A.in1 (isSubtype (.ref C) (.type "list")) Q (fun e s' => R (.error e) s') ⟨hp, g, d, tk, os⟩ := fun Q q => hs.here q
  wp_walk using wpAny_loadPart' hl, wpAny_loadPart' hy, wpAny_load hy, hs' _
  exact h
theorem dec_dic_eq {ol : Obj} (hl : s.heap.get? l = some ol) (hlc : ol.cls = .type "dict") (hy : s.heap.get? y = some oy) (hc : oy.cls = .ref C)
    (hs : PySem.W.Looks (model prog w) s.heap (isSubtype (.ref C) (.type "dict")) false) (h : R (.ok (.ret .notImplemented)) s) :
    wpAny (model prog w) A.in1 (Builtin.«dict.__eq__» ⟨[.ref l, .ref y], []⟩) (FinOf prog w A R) (fun e s' => R (.error e) s') s := by
  obtain ⟨hp, g, d, tk, os⟩ := s
  obtain ⟨cy, dy, ty, sy⟩ := oy
  dsimp only at hc
  subst hc
  have hs' : ∀ Q : Bool → Shared → Prop, Q false ⟨hp, g, d, tk, os⟩ → wpAny (model prog w) A.in1 (isSubtype (.ref C) (.type "dict")) Q (fun e s' => R (.error e) s') ⟨hp, g, d, tk, os⟩ := fun Q q => hs.here q
  wp_walk using wpAny_loadPart' hl, wpAny_load hl, wpAny_loadPart' hy, wpAny_load hy, hs' _
  exact h
theorem dec_int_eq {i : Int} {t : Tok} {dy : Option Addr} {sy : Array (Option Value)} (hy : s.heap.get? y = some { cls := .ref C, dict := dy, data := .plain, slots := sy }) (hs : PySem.W.Looks (model prog w) s.heap (isSubtype (.ref C) (.type "int")) false) (h : R (.ok (.ret .notImplemented)) s) :
    wpAny (model prog w) A.in1 (Builtin.«int.__eq__» ⟨[.int i t, .ref y], []⟩) (FinOf prog w A R) (fun e s' => R (.error e) s') s := by
  obtain ⟨hp, g, d, tk, os⟩ := s
  have hs' : ∀ Q : Bool → Shared → Prop, Q false ⟨hp, g, d, tk, os⟩ → wpAny (model prog w) A.in1 (isSubtype (.ref C) (.type "int")) Q (fun e s' => R (.error e) s') ⟨hp, g, d, tk, os⟩ := fun Q q => hs.here q
  wp_walk using wpAny_loadPart' hy, wpAny_load hy, hs' _
  exact h
theorem dec_bl_eq {i : Bool} {dy : Option Addr} {sy : Array (Option Value)} (hy : s.heap.get? y = some { cls := .ref C, dict := dy, data := .plain, slots := sy }) (hs : PySem.W.Looks (model prog w) s.heap (isSubtype (.ref C) (.type "int")) false) (h : R (.ok (.ret .notImplemented)) s) :
    wpAny (model prog w) A.in1 (Builtin.«int.__eq__» ⟨[.bool i, .ref y], []⟩) (FinOf prog w A R) (fun e s' => R (.error e) s') s := by
  obtain ⟨hp, g, d, tk, os⟩ := s
  have hs' : ∀ Q : Bool → Shared → Prop, Q false ⟨hp, g, d, tk, os⟩ → wpAny (model prog w) A.in1 (isSubtype (.ref C) (.type "int")) Q (fun e s' => R (.error e) s') ⟨hp, g, d, tk, os⟩ := fun Q q => hs.here q
  wp_walk using wpAny_loadPart' hy, wpAny_load hy, hs' _
  exact h
theorem dec_str_eq {i : Str} {t : Tok} {dy : Option Addr} {sy : Array (Option Value)} (hy : s.heap.get? y = some { cls := .ref C, dict := dy, data := .plain, slots := sy }) (hs : PySem.W.Looks (model prog w) s.heap (isSubtype (.ref C) (.type "str")) false) (h : R (.ok (.ret .notImplemented)) s) :
    wpAny (model prog w) A.in1 (Builtin.«str.__eq__» ⟨[.str i t, .ref y], []⟩) (FinOf prog w A R) (fun e s' => R (.error e) s') s := by
  obtain ⟨hp, g, d, tk, os⟩ := s
  have hs' : ∀ Q : Bool → Shared → Prop, Q false ⟨hp, g, d, tk, os⟩ → wpAny (model prog w) A.in1 (isSubtype (.ref C) (.type "str")) Q (fun e s' => R (.error e) s') ⟨hp, g, d, tk, os⟩ := fun Q q => hs.here q
  wp_walk using wpAny_loadPart' hy, wpAny_load hy, hs' _
  exact h
theorem dec_non_eq  {dy : Option Addr} {sy : Array (Option Value)} (hy : s.heap.get? y = some { cls := .ref C, dict := dy, data := .plain, slots := sy }) (hs : PySem.W.Looks (model prog w) s.heap (isSubtype (.ref C) (.type "NoneType")) false) (h : R (.ok (.ret .notImplemented)) s) :
    wpAny (model prog w) A.in1 (Builtin.«NoneType.__eq__» ⟨[.none, .ref y], []⟩) (FinOf prog w A R) (fun e s' => R (.error e) s') s := by
  obtain ⟨hp, g, d, tk, os⟩ := s
  have hs' : ∀ Q : Bool → Shared → Prop, Q false ⟨hp, g, d, tk, os⟩ → wpAny (model prog w) A.in1 (isSubtype (.ref C) (.type "NoneType")) Q (fun e s' => R (.error e) s') ⟨hp, g, d, tk, os⟩ := fun Q q => hs.here q
  wp_walk using wpAny_loadPart' hy, wpAny_load hy, hs' _
  exact h
end
end PL
set_option Elab.async false
set_option linter.all false
set_option maxRecDepth 100000
set_option maxHeartbeats 4000000
/-! == and != where an own class's instance stands on one side. -/
namespace PL
open PySem PySem.Spec PyProof.Rows L2 ClX
open PySem.W (InstAt Looks)
section
variable {prog : Program} {w : World} {A : Around} {E : Value → Shared → Prop} {s : Shared} {K : PySem.W.Frag} {x y C f : Addr} {ox oy : Obj} {od : Option Obj} {b u : Value}
theorem trc_eq {Q : Option Value → Shared → Prop} (X : K.In s.heap) (I : InstAt s.heap x ox C od) (hs : PySem.W.findIn K (.ref C) "__eq__" = some (some (.ref f))) (hf : PySem.W.isFn K (.ref f) = true)
    (h : wpAny (model prog w) A (call (.ref f) [.ref x, b]) (fun v s' => ∃ k, v = .bool k ∧ Q (some (.bool k)) s') E s) : wpAny (model prog w) A (tryCompare (.ref x) "__eq__" b) Q E s := by
  unfold tryCompare
  refine wpAny_bind (PySem.W.ifBound_K X I hs hf (wpAny_mono h (fun v s' hv => ?_) fun _ _ e => e))
  obtain ⟨k, rfl, hq⟩ := hv
  exact wpAny_pure hq
/-- the left one is an instance -/
theorem rc_left {op : CmpOp} {tb : Value} {Q : Value → Shared → Prop} (hu : A.units < cLine) (X : K.In s.heap) (I : InstAt s.heap x ox C od) (hb : Looks (model prog w) s.heap (typeOf b) tb) (hn : PySem.W.notFirst K C tb = true)
    (h : wpAny (model prog w) A (tryCompare (.ref x) (cmpInfo op).2.1 b) (fun r s' => ∃ v, r = some v ∧ Q v s') E s) : wpAny (model prog w) A (richCompare op (.ref x) b) Q E s := by
  unfold richCompare
  simp only [oneThing_ref]
  refine wpAny_holding (wpAny_bind (wpAny_cRoomFor hu ?_))
  refine wpAny_bind (I.type.here (wpAny_bind (hb.here ?_)))
  split
  · rename_i q
    have e : PySem.W.subIn K tb (.ref C) = some false := by
      rcases Bool.or_eq_true_iff.mp hn with e | e
      · rw [beq_iff_eq.mp e] at q; simp at q
      · exact beq_iff_eq.mp e
    refine wpAny_bind ((PySem.W.looks_subIn X e).here ?_)
    simp only [Bool.false_eq_true, if_false]
    refine wpAny_bind (wpAny_mono h (fun r s' z => ?_) fun _ _ e => e)
    obtain ⟨v, rfl, hq⟩ := z
    exact wpAny_pure hq
  · refine wpAny_bind (wpAny_pure ?_)
    simp only [Bool.false_eq_true, if_false]
    refine wpAny_bind (wpAny_mono h (fun r s' z => ?_) fun _ _ e => e)
    obtain ⟨v, rfl, hq⟩ := z
    exact wpAny_pure hq
/-- the right one alone is -/
theorem rc_right {op : CmpOp} {T id : String} {Q : Value → Shared → Prop} (hu : A.units < cLine) (hT : s.TypeIs u T) (I : InstAt s.heap y oy C od) (hs : Looks (model prog w) s.heap (isSubtype (.ref C) (.type T)) false) (h1 : Slot T (cmpInfo op).2.1 id)
    (hd : ∀ Q : Value → Shared → Prop, Q .notImplemented s → wpAny (model prog w) A (call (.builtin id) [u, .ref y]) Q E s)
    (h : wpAny (model prog w) A (tryCompare (.ref y) (cmpInfo op).2.2 u) (fun r s' => ∃ v, r = some v ∧ Q v s') E s) : wpAny (model prog w) A (richCompare op u (.ref y)) Q E s := by
  rcases hi : cmpInfo op with ⟨sym, f, r⟩
  rw [hi] at h1 h
  simp only [richCompare, hi, hT.oneThing_none]
  refine wpAny_holding (wpAny_bind (wpAny_cRoomFor hu ?_))
  refine wpAny_bind (wpAny_typeOf hT (wpAny_bind (I.type.here ?_)))
  rw [if_pos (by rfl)]
  refine wpAny_bind (hs.here ?_)
  simp only [Bool.false_eq_true, if_false, Bool.not_false, if_true]
  refine wpAny_bind (m := tryCompare u _ (.ref y)) (wpAny_tryCompare_declines hT h1 (hd _ ⟨rfl, ?_⟩))
  refine wpAny_bind (m := tryCompare (.ref y) _ u) (wpAny_mono h (fun q s' z => ?_) fun _ _ x => x)
  obtain ⟨v, rfl, hq⟩ := z
  exact wpAny_pure hq
end
end PL
set_option Elab.async false
set_option linter.all false
set_option maxRecDepth 100000
set_option maxHeartbeats 4000000
/-! == and != of an own class's instances and data. -/
namespace PL
open PySem PySem.Spec PyProof.Rows L2 ClX
/-- what == and != ask of an own class -/
structure OwnEq (K : PySem.W.Frag) (C fA : Addr) : Prop where
  eq : PySem.W.findIn K (.ref C) "__eq__" = some (some (.ref fA))
  fn : PySem.W.isFn K (.ref fA) = true
  ne : PySem.W.findIn K (.ref C) "__ne__" = some (some (.builtin "object.__ne__"))
  ob : PySem.W.mroIn K C (.type "object") = some true
  no : ∀ T ∈ known, PySem.W.mroIn K C (.type T) = some false
theorem known_first (K : PySem.W.Frag) (C : Addr) : ∀ t ∈ known, PySem.W.notFirst K C (.type t) = true := by
  intro t ht
  refine Bool.or_eq_true_iff.mpr (.inr (beq_iff_eq.mpr ?_))
  simp only [known, List.mem_cons, List.not_mem_nil, or_false] at ht
  rcases ht with rfl | rfl | rfl | rfl | rfl | rfl | rfl <;> kernel_rfl
theorem tyD_known {d : D} {t : String} (h : tyD d = some t) : t ∈ known := by
  cases d <;> simp [tyD] at h <;> subst h <;> simp [known]
/-- the data that declines -/
inductive DecV (K : PySem.W.Frag) (H : Hp) : V → Prop where
  | non : DecV K H .non
  | bl (b : Bool) : DecV K H (.bl b)
  | int (i : Int) : DecV K H (.int i)
  | str (x : Str) : DecV K H (.str x)
  | tup {a : Addr} {xs : List V} (h : SqT K H a xs) : DecV K H (.ref a)
  | lst {a : Addr} {xs : List V} (h : SqL K H a xs) : DecV K H (.ref a)
  | dic {a : Addr} {kvs : List (Key × V)} (h : H a = some (.dK kvs)) : DecV K H (.ref a)
theorem dec_of {K : PySem.W.Frag} {ca : Str → Option Addr} {H : Hp} {v : V} {d : D} {t : String} (h : Rp K ca H v d) (e : tyD d = some t) : DecV K H v := by
  cases h with
  | non => exact .non
  | bl b => exact .bl b
  | int i => exact .int i
  | str x => exact .str x
  | tup h r => exact .tup h
  | lst h r => exact .lst (SqL.of h)
  | scr h => exact .lst h
  | dic h r => exact .dic h
  | ins h c r => cases e
  | cls h => cases e
  | exn0 _ _ => cases e
  | exnD _ _ _ _ => cases e
theorem kit_look {X : Cx} {pins : List (Addr × Obj)} {σ : L2.St} {H : Hp} {s : Shared} {x : V} {u t : Value} (I : Inv X pins σ H s) (rx : RelV x u) (ty : TyX X.K H x t) : PySem.W.Looks (model X.prog X.w) s.heap (typeOf u) t := by
  obtain ⟨P, hk, hp, _⟩ := kit_of I rx ty
  exact hk.ty _ _ I.kIn hp
def rEqOwn (K : PySem.W.Frag) (C : Addr) (sp : V → V → Hp → VK → Prop) : R2 := fun x y H Q =>
  (∃ a dx fs t, x = .ref a ∧ H a = some (.ins C dx fs) ∧ TyX K H y t ∧ PySem.W.notFirst K C t = true ∧ sp x y H Q) ∨
  (∃ a dx fs, y = .ref a ∧ H a = some (.ins C dx fs) ∧ DecV K H x ∧ sp y x H Q)
section
variable {X : Cx} {z : Z} {O : List Nat} {EX : EXT} {a b : Expr} {f g : FE} {pos : Pos} {k : Nat} {fA C : Addr} {fd : FuncData} {ps : List Str}
theorem op_eqC {F : List D → R D} (hc : OwnEq X.K C fA) (G : FnG X.prog X.w X.K X.mg X.base k fA fd ps (spF z.K z.ca z.tb F)) (hr : Rm (k + 1) X.A) (hb : Binds X.K fd ps []) :
    OpR X (compareOp .Eq) (rEqOwn X.K C fun x y H Q => spF z.K z.ca z.tb F [x, y] H (fun v H' => ∃ k, v = .bl k ∧ Q (.bl k) H') E0) := by
  intro pins s σ H x y v u Q I rx ry h
  have hu := hr.r.units0
  rcases h with ⟨ad, dx, fs, t, rfl, ea, ty, nf, q⟩ | ⟨ad, dx, fs, rfl, ea, dc, q⟩
  · cases rx
    obtain ⟨mA, Oj, _⟩ := ins_get I.hok ea
    obtain ⟨od, J, _⟩ := Oj.look
    refine PySem.W.cmp_ofEq (rc_left hu I.kIn J (kit_look I ry ty) nf ?_)
    exact trc_eq I.kIn J hc.eq hc.fn (wpAny_mono (wpAny_call (code_at G (hr.r.mono (Nat.le_succ _)) hr.g I.env0 I hb (vs := [.ref ad, y]) (.cons rfl (.cons ry .nil)) q fun v s' hv => hv)) (fun v s' hv => by
      obtain ⟨w, H', I3, rv, k, rfl, q3⟩ := hv
      cases rv
      exact ⟨k, rfl, _, rfl, .bl k, H', I3, rfl, q3⟩) fun _ _ e => e)
  · cases ry
    obtain ⟨mA, Oj, _⟩ := ins_get I.hok ea
    obtain ⟨od, J, _⟩ := Oj.look
    have hy := Oj.obj
    have sub : ∀ T ∈ known, PySem.W.Looks (model X.prog X.w) s.heap (isSubtype (.ref C) (.type T)) false := fun T hT => PySem.W.looks_mroIn I.kIn (hc.no T hT)
    have own : ∀ {E : Value → Shared → Prop}, wpAny (model X.prog X.w) X.A (tryCompare (.ref ad) (cmpInfo .Eq).2.2 v) (fun r s' => ∃ w, r = some w ∧ EP X pins σ Q w s') E s := fun {E} =>
      trc_eq I.kIn J hc.eq hc.fn (wpAny_mono (wpAny_call (code_at G (hr.r.mono (Nat.le_succ _)) hr.g I.env0 I hb (vs := [.ref ad, x]) (.cons rfl (.cons rx .nil)) q fun v s' hv => hv)) (fun v s' hv => by
      obtain ⟨w, H', I3, rv, k, rfl, q3⟩ := hv
      cases rv
      exact ⟨k, rfl, _, rfl, .bl k, H', I3, rfl, q3⟩) fun _ _ e => e)
    refine PySem.W.cmp_ofEq ?_
    cases dc with
    | non =>
      cases (show v = Value.none from rx)
      exact rc_right hu (T := "NoneType") rfl J (sub _ (by simp [known])) PySem.F.slot_NoneType_eq (fun Q q => GQ.call_here PySem.F.slot_NoneType_eq rfl PySem.F.entry_NoneType_eq (PySem.F.args_NoneType_eq_2 _ _) (dec_non_eq hy (sub _ (by simp [known])) q)) own
    | bl i =>
      cases (show v = Value.bool i from rx)
      exact rc_right hu (T := "bool") rfl J (sub _ (by simp [known])) PySem.F.slot_bool_eq (fun Q q => GQ.call_here PySem.F.slot_bool_eq rfl PySem.F.entry_int_eq (PySem.F.args_int_eq_2 _ _) (dec_bl_eq hy (sub _ (by simp [known])) q)) own
    | int i =>
      obtain ⟨tk, rfl⟩ := (show ∃ t, v = Value.int i t from rx)
      exact rc_right hu (T := "int") rfl J (sub _ (by simp [known])) PySem.F.slot_int_eq (fun Q q => GQ.call_here PySem.F.slot_int_eq rfl PySem.F.entry_int_eq (PySem.F.args_int_eq_2 _ _) (dec_int_eq hy (sub _ (by simp [known])) q)) own
    | str i =>
      obtain ⟨tk, rfl⟩ := (show ∃ t, v = Value.str i t from rx)
      exact rc_right hu (T := "str") rfl J (sub _ (by simp [known])) PySem.F.slot_str_eq (fun Q q => GQ.call_here PySem.F.slot_str_eq rfl PySem.F.entry_str_eq (PySem.F.args_str_eq_2 _ _) (dec_str_eq hy (sub _ (by simp [known])) q)) own
    | @tup l xs h =>
      cases rx
      obtain ⟨its, r, ⟨o, ho, hcl, n, hd⟩, _⟩ := I.tuple h
      obtain ⟨cl, dd, dt, sl⟩ := o
      dsimp only at hcl hd
      subst hcl hd
      exact rc_right hu (T := "tuple") ⟨_, ho, rfl⟩ J (sub _ (by simp [known])) PySem.F.slot_tuple_eq (fun Q q => GQ.call_here PySem.F.slot_tuple_eq ⟨_, ho, rfl⟩ PySem.F.entry_tuple_eq (PySem.F.args_tuple_eq_2 _ _) (dec_tup_eq ho hy rfl (sub _ (by simp [known])) q)) own
    | @lst l xs h =>
      cases rx
      obtain ⟨its, r, ⟨o, n, ho, hcl, _, hd⟩, _⟩ := I.list h
      obtain ⟨cl, dd, dt, sl⟩ := o
      dsimp only at hcl hd
      subst hcl hd
      exact rc_right hu (T := "list") ⟨_, ho, rfl⟩ J (sub _ (by simp [known])) PySem.F.slot_list_eq (fun Q q => GQ.call_here PySem.F.slot_list_eq ⟨_, ho, rfl⟩ PySem.F.entry_list_eq (PySem.F.args_list_eq_2 _ _) (dec_lst_eq ho hy rfl (sub _ (by simp [known])) q)) own
    | @dic l kvs h =>
      cases rx
      obtain ⟨_, _, vs, _, o, es, ep, h1, h2, _⟩ := (show ObjOk X.prog X.w H s.heap l (.dK kvs) from I.hok l _ h)
      exact rc_right hu (T := "dict") ⟨_, h1, h2.1⟩ J (sub _ (by simp [known])) PySem.F.slot_dict_eq (fun Q q => GQ.call_here PySem.F.slot_dict_eq ⟨_, h1, h2.1⟩ PySem.F.entry_dict_eq (PySem.F.args_dict_eq_2 _ _) (dec_dic_eq h1 h2.1 hy rfl (sub _ (by simp [known])) q)) own
/-- == where an instance of cn stands on one side: its def's answer -/
def eqC (neg : Bool) (cn : Str) (F : List D → R D) (f g : FE) : FE := fun ρ S => f ρ S >>= fun x => g ρ x.2 >>= fun y => (match x.1, y.1 with
  | .ins c ns vs, .ins c' ns' vs' => if c = cn ∧ c' = cn then noX (F [.ins c ns vs, .ins c' ns' vs']) else R.bad
  | .ins _ _ _, .cls _ => R.bad
  | .cls _, .ins _ _ _ => R.bad
  | .ins _ _ _, .exn _ _ _ => R.bad
  | .exn _ _ _, .ins _ _ _ => R.bad
  | .ins c ns vs, d => if c = cn then noX (F [.ins c ns vs, d]) else R.bad
  | d, .ins c ns vs => if c = cn then noX (F [.ins c ns vs, d]) else R.bad
  | _, _ => R.bad) >>= fun d => match d with
  | .bl k => R.ok (.bl (k != neg), y.2)
  | _ => R.bad
theorem eqC_cases {neg : Bool} {cn : Str} {F : List D → R D} {x y : D} {S : List D} {Q : D × List D → Prop} {EX : EXT} (h : Sat ((match x, y with
  | .ins c ns vs, .ins c' ns' vs' => if c = cn ∧ c' = cn then noX (F [.ins c ns vs, .ins c' ns' vs']) else R.bad
  | .ins _ _ _, .cls _ => R.bad
  | .cls _, .ins _ _ _ => R.bad
  | .ins _ _ _, .exn _ _ _ => R.bad
  | .exn _ _ _, .ins _ _ _ => R.bad
  | .ins c ns vs, d => if c = cn then noX (F [.ins c ns vs, d]) else R.bad
  | d, .ins c ns vs => if c = cn then noX (F [.ins c ns vs, d]) else R.bad
  | _, _ => R.bad) >>= fun d => match d with
  | .bl k => R.ok (D.bl (k != neg), S)
  | _ => R.bad) Q EX) :
    ((∃ ns vs, x = .ins cn ns vs ∧ ((∃ t, tyD y = some t) ∨ ∃ ns' vs', y = .ins cn ns' vs')) ∧ Sat (F [x, y]) (fun d => ∃ k, d = .bl k ∧ Q (.bl (k != neg), S)) EX0) ∨
    ((∃ ns vs, y = .ins cn ns vs) ∧ (∃ t, tyD x = some t) ∧ Sat (F [y, x]) (fun d => ∃ k, d = .bl k ∧ Q (.bl (k != neg), S)) EX0) := by
  have fin : ∀ {r : R D}, Sat (noX r >>= fun d => match d with
    | .bl k => R.ok (D.bl (k != neg), S)
    | _ => R.bad) Q EX → Sat r (fun d => ∃ k, d = .bl k ∧ Q (.bl (k != neg), S)) EX0 := fun {r} h => (sat_noX (sat_bind.mp h)).imp fun d hd => by
      cases d with
      | bl k => exact ⟨k, rfl, hd⟩
      | _ => exact hd.elim
  cases x with
  | ins c ns vs =>
    cases y with
    | ins c' ns' vs' =>
      dsimp only at h
      split at h
      · rename_i w
        obtain ⟨rfl, rfl⟩ := w
        exact .inl ⟨⟨ns, vs, rfl, .inr ⟨ns', vs', rfl⟩⟩, fin h⟩
      · exact h.elim
    | cls c => exact h.elim
    | exn c ns vs => exact h.elim
    | _ =>
      dsimp only at h
      split at h
      · rename_i w
        subst w
        exact .inl ⟨⟨ns, vs, rfl, .inl ⟨_, rfl⟩⟩, fin h⟩
      · exact h.elim
  | cls c => cases y <;> exact h.elim
  | exn c ns vs => cases y <;> exact h.elim
  | _ =>
    cases y with
    | ins c' ns' vs' =>
      dsimp only at h
      split at h
      · rename_i w
        subst w
        exact .inr ⟨⟨ns', vs', rfl⟩, ⟨_, rfl⟩, fin h⟩
      · exact h.elim
    | _ => exact h.elim
theorem pd_eqC {cn : Str} {F : List D → R D} (hK : X.K = z.K) (hca : z.ca cn = some C) (ik : InsK z.K C) (hc : OwnEq X.K C fA) (G : FnG X.prog X.w X.K X.mg X.base k fA fd ps (spF z.K z.ca z.tb F)) (hr : Rm (k + 1) X.A) (hb : Binds X.K fd ps [])
    (ha : PD X z O EX a f) (hb' : PD X z O EX b g) : PD X z O EX (.Compare a [.Eq] [b] pos) (eqC false cn F f g) := by
  obtain ⟨ta, p1, q1⟩ := ha.ex
  obtain ⟨tb, p2, q2⟩ := hb'.ex
  refine ⟨_, pe_cmpR (op_eqC hc G hr hb) p1 p2 (nomark _), fun B P σ H ρ S Q hP rr hs => ?_⟩
  refine q1 B P σ H ρ S _ hP rr ((sat_bind.mp hs).imp fun x hx v H1 g1 r1 hv => ?_)
  refine q2 B P σ H1 ρ x.2 _ hP r1 ((sat_bind.mp hx).imp fun y hy u H2 g2 r2 hu => ?_)
  obtain ⟨x, S1⟩ := x
  obtain ⟨y, S2⟩ := y
  have hv2 := hv.mono g2.frz
  have go : ∀ {v1 v2 : V} {d1 d2 : D}, Rp z.K z.ca (Frz H2 (z.L B P)) v1 d1 → Rp z.K z.ca (Frz H2 (z.L B P)) v2 d2 → Sat (F [d1, d2]) (fun d => ∃ k, d = .bl k ∧ ∀ v H', Grow z H H' → Rel z B P σ H' ρ S2 → Rp z.K z.ca (Frz H' (z.L B P)) v (.bl (k != false)) → Q v H') EX0 → spF z.K z.ca z.tb F [v1, v2] H2 (fun v H' => ∃ k, v = .bl k ∧ Q (.bl k) H') E0 := fun h1 h2 hq =>
    ⟨[_, _], z.L B P, r2.nd, fun b hb => r2.lt hb, r2.tin, .cons h1 (.cons h2 .nil), hq.imp fun d hd v H' e' tt hv' => by
      obtain ⟨k, rfl, q⟩ := hd
      cases hv'
      refine ⟨k, rfl, q _ H' ((g1.trans g2).trans e'.grow) (r2.growT e' tt) ?_⟩
      cases k <;> exact .bl _⟩
  rcases eqC_cases hy with ⟨⟨ns, vs, rfl, hy2⟩, hq⟩ | ⟨⟨ns, vs, rfl⟩, ⟨t, ht⟩, hq⟩
  · obtain ⟨ad, dx, fs, rfl, ea⟩ := ins_in hca hv2
    have ea' := frz_ex _ _ _ _ ea
    refine .inl ⟨ad, dx, fs, ?_⟩
    rcases hy2 with ⟨t, ht⟩ | ⟨ns', vs', rfl⟩
    · exact ⟨.type t, rfl, ea', hK ▸ ty_x (hu.mono (frz_ex _ _)) ht, known_first _ _ _ (tyD_known ht), go hv2 hu hq⟩
    · obtain ⟨ad', dx', fs', rfl, eb⟩ := ins_in hca hu
      exact ⟨.ref C, rfl, ea', hK ▸ .base (.ins (frz_ex _ _ _ _ eb) ik.cl ik.ha ik.hn ik.tk ik.mr), by show ((Value.ref C == Value.ref C) || _) = true; rw [beq_self_eq_true]; rfl, go hv2 hu hq⟩
  · obtain ⟨ad, dx, fs, rfl, ea⟩ := ins_in hca hu
    exact .inr ⟨ad, dx, fs, rfl, frz_ex _ _ _ _ ea, hK ▸ dec_of (hv2.mono (frz_ex _ _)) ht, go hu hv2 hq⟩
end
end PL
set_option Elab.async false
set_option linter.all false
set_option maxRecDepth 100000
set_option maxHeartbeats 4000000
/-! x, y = [], e: some of the values are new lists, owned from there on. -/
namespace PL
open PySem PySem.Spec PyProof.Rows L2 ClX
/-- values, some of them new lists; L: the new lists, the last one first -/
inductive Mix (K : PySem.W.Frag) (ca : Str → Option Addr) (H F : Hp) : List V → List (Bool × D) → List Addr → Prop
  | nil : Mix K ca H F [] [] []
  | val {v : V} {vs : List V} {d : D} {ds : List (Bool × D)} {L : List Addr} : Rp K ca F v d → Mix K ca H F vs ds L → Mix K ca H F (v :: vs) ((false, d) :: ds) L
  | own {a : Addr} {xs : List V} {es : List D} {vs : List V} {ds : List (Bool × D)} {L : List Addr} : H a = some (.lst xs) → RpA K ca F xs es → Mix K ca H F vs ds L → Mix K ca H F (.ref a :: vs) ((true, .lst es) :: ds) (L ++ [a])
abbrev FM := Env → List D → R (List (Bool × D) × List D)
def EvM (z : Z) (O : List Nat) (EX : EXT) (t : TA) (f : FM) : Prop :=
  ∀ B P σ H ρ S Q, P.map (·.1) = O → Rel z B P σ H ρ S →
    Sat (f ρ S) (fun r => ∀ vs H' L, Grow z H H' → Rel z (L ++ B) P σ H' ρ r.2 → Ex (Frz H (z.L B P)) (Frz H' (z.L (L ++ B) P)) → (∀ a ∈ L, z.H0 a = none) → Mix z.K z.ca H' (Frz H' (z.L (L ++ B) P)) vs r.1 L → Q vs H') EX → t σ H Q
structure PMd (X : Cx) (z : Z) (O : List Nat) (EX : EXT) (es : List Expr) (f : FM) : Prop where
  ex : ∃ t, PA X es t ∧ EvM z O EX t f
def nilM : FM := fun _ S => R.ok ([], S)
def valM (f : FE) (h : FM) : FM := fun ρ S => f ρ S >>= fun x => h ρ x.2 >>= fun y => R.ok ((false, x.1) :: y.1, y.2)
def ownM (f : FA) (h : FM) : FM := fun ρ S => f ρ S >>= fun x => h ρ x.2 >>= fun y => R.ok ((true, .lst x.1) :: y.1, y.2)
section
variable {X : Cx} {z : Z} {O OL : List Nat} {EX : EXT} {a b c e : Expr} {es : List Expr} {f g : FE} {fa : FA} {fm : FM} {pos : Pos}
variable {B : List Addr} {P : List (Nat × Addr)} {σ : L2.St} {H : Hp} {ρ : Env} {S : List D}
theorem pmd_nil : PMd X z O EX [] nilM := ⟨_, pa_nil, fun B P σ H ρ S Q hP rr hs => hs [] H [] Grow.refl rr (Ex.refl _) (fun _ h => nomatch h) .nil⟩
theorem pmd_val (ha : PD X z O EX e f) (hr : PMd X z O EX es fm) (hs : starEach (e :: es) X.env = (false, eval e X.env) :: starEach es X.env := by rfl) : PMd X z O EX (e :: es) (valM f fm) := by
  obtain ⟨t, p, q⟩ := ha.ex
  obtain ⟨u, p2, q2⟩ := hr.ex
  refine ⟨_, pa_cons p p2 hs, fun B P σ H ρ S Q hP rr hs => ?_⟩
  refine q B P σ H ρ S _ hP rr ((sat_bind.mp hs).imp fun x hx v H1 g1 r1 hv => ?_)
  refine q2 B P σ H1 ρ x.2 _ hP r1 ((sat_bind.mp hx).imp fun y hy vs H2 L g2 r2 m h0 hvs => ?_)
  exact hy (v :: vs) H2 L (g1.trans g2) r2 (g1.frz.trans m) h0 (.val (hv.mono m) hvs)
theorem pmd_own (ha : PF X z O EX e fa) (hr : PMd X z O EX es fm) (hs : starEach (e :: es) X.env = (false, eval e X.env) :: starEach es X.env := by rfl) : PMd X z O EX (e :: es) (ownM fa fm) := by
  obtain ⟨t, p, q⟩ := ha.ex
  obtain ⟨u, p2, q2⟩ := hr.ex
  refine ⟨_, pa_cons p p2 hs, fun B P σ H ρ S Q hP rr hs => ?_⟩
  refine q B P σ H ρ S _ hP rr ((sat_bind.mp hs).imp fun x hx ad xs H1 g1 e1 e0 en r1 m hv => ?_)
  refine q2 (ad :: B) P σ H1 ρ x.2 _ hP r1 ((sat_bind.mp hx).imp fun y hy vs H2 L g2 r2 m2 h0 hvs => ?_)
  have eL : L ++ [ad] ++ B = L ++ (ad :: B) := by rw [List.append_assoc]; rfl
  have np : ad ∉ z.pls := fun q => by
    have nd := r1.nd
    unfold Z.L at nd
    exact (List.nodup_append.mp (List.nodup_append.mp nd).2.1).2.2 ad q ad List.mem_cons_self rfl
  have := hy (.ref ad :: vs) H2 (L ++ [ad]) (g1.trans g2) (by rw [eL]; exact r2) (by rw [eL]; exact m.trans m2) (fun a ha => by
    rcases List.mem_append.mp ha with h | h
    · exact h0 a h
    · rw [List.mem_singleton.mp h]; exact e0)
  rw [eL] at this
  exact this (.own (g2 _ _ np e1) (hv.mono m2) hvs)
/-! ### stored to places -/
def stV : List Nat → List V → L2.St → L2.St
  | i :: is, v :: vs, σ => stV is vs (σ.set i (some v))
  | _, _, σ => σ
def stD : List Nat → List (Bool × D) → Env → R Env
  | [], [], ρ => R.ok ρ
  | i :: is, d :: ds, ρ => setE ρ i d.2 >>= fun ρ1 => stD is ds ρ1
  | _, _, _ => R.bad
def flg (is : List Nat) (fl : List Bool) : List Nat := (is.zip fl).filterMap fun p => if p.2 then some p.1 else none
theorem stV_set {i : Nat} {v : V} : ∀ (is : List Nat) (vs : List V) (σ : L2.St), i ∉ is → stV is vs (σ.set i (some v)) = (stV is vs σ).set i (some v)
  | [], _, _, _ => by cases ‹List V› <;> rfl
  | _ :: _, [], _, _ => rfl
  | j :: is, u :: vs, σ, h => by
    have hj : i ≠ j := fun e => h (by rw [e]; exact List.mem_cons_self)
    show stV is vs ((σ.set i (some v)).set j (some u)) = (stV is vs (σ.set j (some u))).set i (some v)
    rw [List.set_comm _ _ hj]
    exact stV_set is vs _ fun q => h (List.mem_cons_of_mem _ q)
theorem sat_stD {i : Nat} {d : D} {EX : EXT} : ∀ (is : List Nat) (ds : List (Bool × D)) (ρ : Env) {Q : Env → Prop}, i ∉ is → i < ρ.length → Sat (stD is ds (ρ.set i (some d))) Q EX → Sat (stD is ds ρ) (fun r => i < r.length ∧ Q (r.set i (some d))) EX
  | [], [], ρ, Q, _, hi, h => ⟨hi, h⟩
  | [], _ :: _, _, _, _, _, h => h.elim
  | _ :: _, [], _, _, _, _, h => h.elim
  | j :: is, u :: ds, ρ, Q, hn, hi, h => by
    have hj : i ≠ j := fun e => hn (by rw [e]; exact List.mem_cons_self)
    obtain ⟨w, h⟩ := sat_set (sat_bind.mp h)
    rw [List.set_comm _ _ hj] at h
    have w' : j < ρ.length := by simpa using w
    refine sat_bind.mpr ?_
    unfold setE
    rw [if_pos w']
    exact sat_stD is ds _ (fun q => hn (List.mem_cons_of_mem _ q)) (by simpa using hi) h
theorem Rel.mix : ∀ {is : List Nat} {vs : List V} {ds : List (Bool × D)} {L B : List Addr} {σ : L2.St} {ρ : Env} {Q : Env → Prop} {EX : EXT}, Mix z.K z.ca H (Frz H (z.L (L ++ B) P)) vs ds L → Rel z (L ++ B) P σ H ρ S → (∀ a ∈ L, z.H0 a = none) → is.Nodup → (∀ i ∈ is, ∀ q ∈ P, q.1 ≠ i) → (∀ i ∈ is, NotPl z i) →
    Sat (stD is ds ρ) Q EX → ∃ ρ' P', Rel z B (P' ++ P) (stV is vs σ) H ρ' S ∧ Q ρ' ∧ Frz H (z.L (L ++ B) P) = Frz H (z.L B (P' ++ P)) ∧ P'.map (·.1) = flg is (ds.map (·.1)) := by
  intro is
  induction is with
  | nil =>
    intro vs ds L B σ ρ Q EX m r h0 hd hP hz hs
    cases m with
    | nil => exact ⟨ρ, [], r, hs, rfl, rfl⟩
    | val _ _ => exact hs.elim
    | own _ _ _ => exact hs.elim
  | cons i is ih =>
    intro vs ds L B σ ρ Q EX m r h0 hd hP hz hs
    obtain ⟨hd1, hd2⟩ := List.nodup_cons.mp hd
    have hPi := hP i List.mem_cons_self
    have hzi := hz i List.mem_cons_self
    cases m with
    | nil => exact hs.elim
    | @val v vs d ds _ hv m =>
      obtain ⟨w, hs⟩ := sat_set (sat_bind.mp hs)
      obtain ⟨ρ', P', r', q, e, ep⟩ := ih m r h0 hd2 (fun j hj => hP j (List.mem_cons_of_mem _ hj)) (fun j hj => hz j (List.mem_cons_of_mem _ hj)) (sat_stD is ds ρ hd1 w hs)
      have e2 : flg (i :: is) ((false, d).1 :: ds.map (·.1)) = flg is (ds.map (·.1)) := rfl
      refine ⟨_, P', ?_, q.2, e, by rw [ep]; rfl⟩
      have hn : ∀ p ∈ P' ++ P, p.1 ≠ i := fun p hp => by
        rcases List.mem_append.mp hp with h | h
        · intro e9
          have : p.1 ∈ flg is (ds.map (·.1)) := by rw [← ep]; exact List.mem_map_of_mem h
          unfold flg at this
          obtain ⟨q', hq', eq'⟩ := List.mem_filterMap.mp this
          split at eq'
          · have e8 := Option.some.inj eq'
            exact hd1 (by rw [← e9, ← e8]; exact (List.of_mem_zip hq').1)
          · cases eq'
        · exact hPi p h
      have := r'.set (e ▸ hv) hn hzi q.1
      rw [show stV (i :: is) (v :: vs) σ = stV is vs (σ.set i (some v)) from rfl, stV_set is vs σ hd1]
      exact this
    | @own ad xs es vs ds L hx hr m =>
      obtain ⟨w, hs⟩ := sat_set (sat_bind.mp hs)
      have eL : L ++ [ad] ++ B = L ++ (ad :: B) := by rw [List.append_assoc]; rfl
      rw [eL] at r m hr
      obtain ⟨ρ', P', r', q, e, ep⟩ := ih (B := ad :: B) m r (fun a ha => h0 a (List.mem_append_left _ ha)) hd2 (fun j hj => hP j (List.mem_cons_of_mem _ hj)) (fun j hj => hz j (List.mem_cons_of_mem _ hj)) (sat_stD is ds ρ hd1 w hs)
      have hn : ∀ p ∈ P' ++ P, p.1 ≠ i := fun p hp => by
        rcases List.mem_append.mp hp with h | h
        · intro e9
          have : p.1 ∈ flg is (ds.map (·.1)) := by rw [← ep]; exact List.mem_map_of_mem h
          unfold flg at this
          obtain ⟨q', hq', eq'⟩ := List.mem_filterMap.mp this
          split at eq'
          · have e8 := Option.some.inj eq'
            exact hd1 (by rw [← e9, ← e8]; exact (List.of_mem_zip hq').1)
          · cases eq'
        · exact hPi p h
      obtain ⟨r2, e2⟩ := r'.own1 hx (h0 ad (List.mem_append_right _ List.mem_cons_self)) (e ▸ hr) hn hzi q.1
      refine ⟨_, (i, ad) :: P', ?_, q.2, by rw [eL, e, e2]; rfl, by rw [List.map_cons, ep]; rfl⟩
      rw [show stV (i :: is) (V.ref ad :: vs) σ = stV is vs (σ.set i (some (V.ref ad))) from rfl, stV_set is vs σ hd1]
      exact r2
def mixS (is : List Nat) (fl : List Bool) (f : FM) : FS := fun ρ S => f ρ S >>= fun x => if x.1.map (·.1) = fl then stD is x.1 ρ >>= fun ρ1 => R.ok (.nx, ρ1, x.2) else R.bad
theorem ev_mix {t : TA} {is : List Nat} {fl : List Bool} (q : EvM z O EX t fm) (hd : is.Nodup) (hO : (O.all fun n => is.all (n != ·)) = true) (hz : ∀ i ∈ is, NotPl z i) {D' : Ends} {OO : List Nat} (hOO : flg is fl ++ O = OO) (hP : P.map (·.1) = O) (rr : Rel z B P σ H ρ S)
    (hs : Sat (mixS is fl fm ρ S) (PostS z B (Frz H (z.L B P)) OO OL D') EX) {Q' : List V → Hp → Prop} (hQ : ∀ vs H1, vs.length = fl.length → D'.nx (stV is vs σ) H1 → Q' vs H1) : t σ H Q' := by
  refine q B P σ H ρ S _ hP rr ((sat_bind.mp hs).imp fun x hx vs H1 L g1 r1 m1 h0 mx => ?_)
  split at hx
  · rename_i ef
    have lm : ∀ {vs : List V} {ds : List (Bool × D)} {L : List Addr} {H F : Hp}, Mix z.K z.ca H F vs ds L → vs.length = ds.length := fun m => by
      induction m with
      | nil => rfl
      | val _ _ ih => simp [ih]
      | own _ _ _ ih => simp [ih]
    refine hQ vs H1 (by rw [lm mx, ← ef, List.length_map]) ?_
    obtain ⟨ρ', P', r2, hq, e, ep⟩ := Rel.mix mx r1 h0 hd (fun i hi p hp q => by
      have hm : p.1 ∈ O := by rw [← hP]; exact List.mem_map_of_mem hp
      have := List.all_eq_true.mp (List.all_eq_true.mp hO p.1 hm) i hi
      rw [q] at this
      simp at this) hz (sat_bind.mp hx)
    exact hq (P' ++ P) _ H1 (by rw [List.map_append, ep, ef, hP, hOO]) (e ▸ m1) r2
  · exact hx.elim
theorem psd_mix2 (i j : Nat) (b1 b2 : Bool) (hc : X.calm = true) (hN : X.N.Nodup) (hzi : NotPl z i) (hzj : NotPl z j) (ha : PMd X z O EX [a, b] fm) (hO : (O.all fun n => [i, j].all (n != ·)) = true := by rfl) {OO : List Nat} (hOO : flg [i, j] [b1, b2] ++ O = OO := by rfl) {x y : Str} {px py pt : Pos} {kt k2 pt2}
    (hx : X.N[i]? = some x := by rfl) (hy : X.N[j]? = some y := by rfl) (hij : i ≠ j := by decide) (lx : X.env.scope.names.lookup x = some .local := by rfl) (ly : X.env.scope.names.lookup y = some .local := by rfl)
    (hw : swappedStores [.Tuple [.Name x px, .Name y py] kt pt] (.Tuple [a, b] k2 pt2) X.env = pure (some [x, y]) := by rfl)
    (hs : swapsWithSole [.Tuple [.Name x px, .Name y py] kt pt] (.Tuple [a, b] k2 pt2) pos.line X.env = pure false := by rfl) : PSd X z O OO OL EX (.Assign [.Tuple [.Name x px, .Name y py] kt pt] (.Tuple [a, b] k2 pt2) pos) (mixS [i, j] [b1, b2] fm) := by
  obtain ⟨t, p, q⟩ := ha.ex
  refine ⟨_, ps_par hc hN hx hy hij lx ly p hw hs, fun B P σ H ρ S D' hP rr hs => ?_⟩
  refine ev_mix (D' := D') q (by simp [hij]) hO (fun n hn => ?_) hOO hP rr hs fun vs H1 hl h => ?_
  · rcases List.mem_cons.mp hn with rfl | hn
    · exact hzi
    · rw [List.mem_singleton.mp hn]; exact hzj
  · match vs, hl, h with
    | [u, v], _, h => exact ⟨u, v, rfl, h⟩
end
end PL
set_option Elab.async false
set_option linter.all false
set_option maxRecDepth 100000
set_option maxHeartbeats 4000000
/-! sum of lists and tuples of ints. -/
namespace PL
open PySem PySem.Spec PyProof.Rows L2 ClX
section
variable {X : Cx} {z : Z} {O : List Nat} {EX : EXT} {e : Expr} {fa : FA} {p pos : Pos}
def intsA : D → Option (List Int) | .lst ds => D.ints ds | .tup ds => D.ints ds | .scr ns => some ns | _ => none
def rSumA (K : PySem.W.Frag) : List V → Hp → VK → Prop := fun vs H Q => ∃ (a : Addr) (ns : List Int), vs = [V.ref a] ∧ (SqL K H a (ns.map V.int) ∨ SqT K H a (ns.map V.int)) ∧ Q (.int ns.sum) H
theorem cr_sumA (hc : X.calm = true) : CallR X (.builtin "sum") (rSumA X.K) := by
  intro pins s σ H vs us Q I r h
  obtain ⟨a, ns, rfl, hs, q⟩ := h
  rcases hs with hs | hs
  · exact cr_sum hc pins s σ H [V.ref a] us Q I r ⟨a, ns, rfl, hs, q⟩
  · obtain ⟨its, rv, ht, _⟩ := I.tuple hs
    rw [Vals.ref1 r]
    have hi := rv.ints
    obtain ⟨xs, e⟩ := hi.allInts.items
    have hn : numsOf (intItems xs).toList = ns := by rw [← e]; exact hi.numsOf
    rw [nums_intItems] at hn
    rw [e] at ht
    refine PySem.W.ktm_sumG (I.ok.hd hc) ht fun h' tk t' hk => ?_
    refine ⟨.int _, H, I.kept hk, ⟨t', ?_⟩, q⟩
    rw [preSum_eq, List.take_of_length_le (by simp), hn]
def sumA : List D → Option D | [x] => (intsA x).map fun ns => .int ns.sum | _ => none
theorem intsA_sq {K : PySem.W.Frag} {ca : Str → Option Addr} {H : Hp} {L N : List Addr} {v : V} {d : D} {ns : List Int} (h : Rb K ca H L N v d) (e : intsA d = some ns) : ∃ a, v = .ref a ∧ (SqL K H a (ns.map V.int) ∨ SqT K H a (ns.map V.int)) := by
  cases d <;> simp only [intsA, reduceCtorEq, Option.some.injEq] at e
  · obtain ⟨a, xs, rfl, h1, r1⟩ := h.tup
    rw [RpA.ints r1 e] at h1
    exact ⟨a, rfl, .inr (ex_t (frz_ex _ _) h1)⟩
  · obtain ⟨a, xs, rfl, h1, r1⟩ := h.lst
    rw [RpA.ints r1 e] at h1
    exact ⟨a, rfl, .inl (SqL.of h1)⟩
  · subst e
    obtain ⟨a, rfl, h1⟩ := h.scr
    exact ⟨a, rfl, .inl (ex_l (frz_ex _ _) h1)⟩
theorem callD_sumA {K : PySem.W.Frag} {ca : Str → Option Addr} : CallD K ca (rSumA K) sumA := by
  intro H L N vs ds d Q fr hv e hq
  unfold sumA at e
  split at e
  · simp only [Option.map_eq_some_iff] at e
    obtain ⟨ns, e, rfl⟩ := e
    cases hv with
    | cons h r =>
      cases r
      obtain ⟨a, rfl, h1⟩ := intsA_sq h e
      exact ⟨a, ns, rfl, h1, hq _ H (Ex.refl H) (.int _)⟩
  · cases e
theorem pd_sumA (hK : X.K = z.K) (hc : X.calm = true) (hm : X.mg "sum" = none) (ha : PBA X z O EX [e] fa) (hg : Gl X "sum" := by rfl) (he : starEach [e] X.env = (false, eval e X.env) :: starEach [] X.env := by rfl) (hpl : (backTo pos (starEach [] X.env)).any (·.1) = false := by rfl) :
    PD X z O EX (.Call (.Name "sum" p) [e] [] pos) (callE sumA fa) := pd_callB (r := rSumA z.K) (hK ▸ cr_sumA hc) callD_sumA hm ha hg (by decide +kernel) (by decide) (by decide) he hpl
@[simp] theorem sumA_tup (a : List Int) : sumA [.tup (a.map D.int)] = some (.int a.sum) := by
  show (D.ints (a.map D.int)).map _ = _
  rw [D.ints_map]
  rfl
@[simp] theorem sumA_lst (a : List Int) : sumA [.lst (a.map D.int)] = some (.int a.sum) := by
  show (D.ints (a.map D.int)).map _ = _
  rw [D.ints_map]
  rfl
end
end PL
set_option Elab.async false
set_option linter.all false
set_option maxRecDepth 100000
set_option maxHeartbeats 4000000
/-! Texts of printable signs, the texts of data. -/
namespace PL
open PySem PySem.Spec PyProof.Rows L2 ClX
def Nice (n : Nat) (x : Str) : Prop := (∀ c ∈ x.cps.toList, 32 ≤ c ∧ c < 127) ∧ x.length ≤ n
def niceB (n : Nat) (x : Str) : Bool := x.cps.toList.all (fun c => decide (32 ≤ c) && decide (c < 127)) && decide (x.length ≤ n)
theorem nice_of {n : Nat} {x : Str} (h : niceB n x = true) : Nice n x := by
  unfold niceB at h
  simp only [Bool.and_eq_true, List.all_eq_true, decide_eq_true_eq] at h
  exact h
theorem Nice.mono {n m : Nat} {x : Str} (h : Nice n x) (l : n ≤ m) : Nice m x := ⟨h.1, Nat.le_trans h.2 l⟩
theorem len_append (x y : Str) : (x ++ y).length = x.length + y.length := by
  show (x.cps ++ y.cps).size = _
  simp [Str.length]
theorem Nice.append {n m : Nat} {x y : Str} (h : Nice n x) (k : Nice m y) : Nice (n + m) (x ++ y) := by
  refine ⟨fun c hc => ?_, ?_⟩
  · have : c ∈ (x.cps ++ y.cps).toList := hc
    rw [Array.toList_append, List.mem_append] at this
    rcases this with q | q
    · exact h.1 c q
    · exact k.1 c q
  · rw [len_append]
    have := h.2
    have := k.2
    omega
theorem nice_empty {n : Nat} : Nice n Str.empty := ⟨fun c hc => by simp [Str.empty] at hc, Nat.zero_le _⟩
theorem Nice.ok {n : Nat} {x : Str} (h : Nice n x) : PyData.strOk x = true := by
  unfold PyData.strOk
  rw [Array.all_eq_true']
  intro c hc
  have := h.1 c (by simpa using hc)
  simp
  omega
theorem append_empty (x : Str) : Str.empty ++ x = x := by
  show Str.mk (#[] ++ x.cps) = x
  simp
/-- small numbers -/
theorem nat_str (n : Nat) : (Str.ofString (toString (n : Int))) = ⟨((Nat.toDigits 10 n).map Char.toNat).toArray⟩ := by
  rw [Str.ofString_eq_toList]
  have : (toString (n : Int)) = String.ofList (Nat.toDigits 10 n) := rfl
  rw [this, String.toList_ofList]
theorem dig_ok : ∀ n : _root_.Fin 1000, ((Nat.toDigits 10 n.val).all (fun c => decide (32 ≤ c.toNat) && decide (c.toNat < 127)) && decide ((Nat.toDigits 10 n.val).length ≤ 4)) = true := by decide +kernel
theorem nice_int {i : Int} (h0 : 0 ≤ i) (h1 : i < 1000) : Nice 4 (toString i : String) := by
  obtain ⟨n, rfl⟩ := Int.eq_ofNat_of_zero_le h0
  have := dig_ok ⟨n, by omega⟩
  simp only [Bool.and_eq_true, List.all_eq_true, decide_eq_true_eq] at this
  rw [nat_str]
  refine ⟨fun c hc => ?_, ?_⟩
  · obtain ⟨d, hd, rfl⟩ := List.mem_map.mp (show c ∈ (Nat.toDigits 10 n).map Char.toNat by simpa using hc)
    exact this.1 d hd
  · show (Array.size _) ≤ 4
    simpa using this.2
theorem log_small {i : Int} (h0 : 0 ≤ i) (h1 : i < 1000) : i.natAbs.log2 < 1920 := by
  by_cases z : i.natAbs = 0
  · rw [z]; decide
  · exact Nat.lt_trans ((Nat.log2_lt z).mpr (show i.natAbs < 2 ^ 14 by omega)) (by decide)
theorem repr_fold {q : Nat} (hq : 32 ≤ q ∧ q < 127) : ∀ (l : List Nat) (acc : Array Nat), (∀ c ∈ l, 32 ≤ c ∧ c < 127) → (∀ c ∈ acc.toList, 32 ≤ c ∧ c < 127) →
    (∀ c ∈ (l.foldl (fun out c => out ++ (Builtin.Str.reprChar q c).toArray) acc).toList, 32 ≤ c ∧ c < 127) ∧ (l.foldl (fun out c => out ++ (Builtin.Str.reprChar q c).toArray) acc).size ≤ acc.size + 2 * l.length
  | [], acc, _, h => ⟨h, by simp⟩
  | c :: l, acc, hl, h => by
    have pr : ∀ c : _root_.Fin 127, 32 ≤ c.val → Unicode.isPrintable c.val = true := by decide +kernel
    have hc := hl c List.mem_cons_self
    have e : (Builtin.Str.reprChar q c).length ≤ 2 ∧ ∀ d ∈ Builtin.Str.reprChar q c, 32 ≤ d ∧ d < 127 := by
      unfold Builtin.Str.reprChar
      split
      · exact ⟨Nat.le_refl _, fun d hd => by simp at hd; omega⟩
      · rw [if_neg (by simp; omega), if_neg (by simp; omega), if_neg (by simp; omega), if_pos (pr ⟨c, hc.2⟩ hc.1)]
        exact ⟨by simp, fun d hd => by simp at hd; omega⟩
    obtain ⟨h1, h2⟩ := repr_fold hq l (acc ++ (Builtin.Str.reprChar q c).toArray) (fun d hd => hl d (List.mem_cons_of_mem _ hd)) (fun d hd => by
      rw [Array.toList_append, List.mem_append] at hd
      rcases hd with q | q
      · exact h d q
      · exact e.2 d (by simpa using q))
    refine ⟨h1, Nat.le_trans h2 ?_⟩
    rw [Array.size_append, List.length_cons]
    have := e.1
    simp
    omega
theorem nice_repr {n : Nat} {x : Str} (h : Nice n x) : Nice (2 * n + 2) (reprText x) := by
  have hq : 32 ≤ reprQuote x ∧ reprQuote x < 127 := by unfold reprQuote; split <;> omega
  have e : x.cps.foldl (fun out c => out ++ (Builtin.Str.reprChar (reprQuote x) c).toArray) #[reprQuote x] = x.cps.toList.foldl (fun out c => out ++ (Builtin.Str.reprChar (reprQuote x) c).toArray) #[reprQuote x] := by rw [Array.foldl_toList]
  obtain ⟨h1, h2⟩ := repr_fold hq x.cps.toList #[reprQuote x] h.1 (fun c hc => by simp at hc; omega)
  rw [← e] at h1 h2
  unfold reprText
  refine ⟨fun c hc => ?_, ?_⟩
  · rw [Array.toList_push, List.mem_append] at hc
    rcases hc with q | q
    · exact h1 c q
    · simp at q; omega
  · show (Array.push _ _).size ≤ _
    rw [Array.size_push]
    have := h.2
    have hl : x.cps.toList.length = x.length := by simp [Str.length]
    rw [hl] at h2
    have h3 : (#[reprQuote x] : Array Nat).size = 1 := rfl
    omega
/-! the text of data -/
inductive NiceL : Nat → List Str → Prop
  | nil : NiceL 0 []
  | cons {n m : Nat} {t : Str} {ts : List Str} : Nice n t → NiceL m ts → NiceL (n + m + 2) (t :: ts)
theorem nice_tf {m : Nat} {ts : List Str} (h : NiceL m ts) : ∀ (k a : Nat) (acc : Str), Nice a acc → Nice (a + m) (textFrom k acc ts) := by
  induction h with
  | nil => exact fun k a acc h => h
  | @cons n m t ts h1 _ ih =>
    intro k a acc ha
    have e : Nice 2 ((if k > 0 then ", " else "" : String) : Str) := by split <;> exact nice_of (by decide)
    exact (ih (k + 1) _ _ ((ha.append e).append h1)).mono (by omega)
theorem nice_list {m : Nat} {ts : List Str} (h : NiceL m ts) : Nice (m + 2) (listText ts) :=
  ((nice_tf h 0 1 "[" (nice_of (by decide))).append (show Nice 1 ("]" : String) from nice_of (by decide))).mono (by omega)
theorem nice_join {m : Nat} {ts : List Str} (h : NiceL m ts) : Nice m (Str.join ", " ts) := by
  induction h with
  | nil => exact nice_empty
  | @cons n m t ts h1 h2 ih =>
    cases ts with
    | nil => exact h1.mono (by omega)
    | cons u us => exact (((h1.append (show Nice 2 (", " : String) from nice_of (by decide))).append ih)).mono (by omega)
theorem nice_tuple {m : Nat} {ts : List Str} (h : NiceL m ts) : Nice (m + 3) (tupleText ts) := by
  have e : Nice 2 ((if ts.length == 1 then ",)" else ")" : String) : Str) := by split <;> exact nice_of (by decide)
  exact (((show Nice 1 ("(" : String) from nice_of (by decide)).append (nice_join h)).append e).mono (by omega)
mutual
/-- data whose text is nice: n its signs at most, k its depth at most -/
inductive Nd : Nat → Nat → D → Prop
  | non {n k : Nat} : 4 ≤ n → Nd n k .non
  | bl {n k : Nat} (b : Bool) : 5 ≤ n → Nd n k (.bl b)
  | int {n k : Nat} {i : Int} : 0 ≤ i → i < 1000 → 4 ≤ n → Nd n k (.int i)
  | str {n m k : Nat} {x : Str} : Nice m x → 2 * m + 2 ≤ n → Nd n k (.str x)
  | tup {n m k j : Nat} {ds : List D} : NdA m j ds → m + 3 ≤ n → j < k → Nd n k (.tup ds)
  | lst {n m k j : Nat} {ds : List D} : NdA m j ds → m + 2 ≤ n → j < k → Nd n k (.lst ds)
inductive NdA : Nat → Nat → List D → Prop
  | nil {k : Nat} : NdA 0 k []
  | cons {n m k : Nat} {d : D} {ds : List D} : Nd n k d → NdA m k ds → NdA (n + m + 2) k (d :: ds)
end
structure NP (n k : Nat) (p : PyData) : Prop where
  nice : Nice n p.shown
  show_ : p.showable = true
  flat : p.hasDict = false
  deep : p.depth ≤ k
  lay : p.canLay0 = true
structure NPA (n k : Nat) (ps : List PyData) : Prop where
  nice : NiceL n (PyData.shownAll ps)
  show_ : PyData.showableAll ps = true
  flat : PyData.hasDictAll ps = false
  deep : PyData.depthAll ps ≤ k
  lay : PyData.canLayAll0 ps = true
mutual
theorem Nd.py : ∀ {n k : Nat} {d : D}, Nd n k d → ∃ p, toPy d = some p ∧ NP n k p
  | _, _, _, .non h => ⟨_, rfl, ⟨(show Nice 4 ("None" : String) from nice_of (by decide)).mono h, rfl, rfl, Nat.zero_le _, rfl⟩⟩
  | _, _, _, .bl b h => ⟨_, rfl, ⟨by cases b; exact (show Nice 5 ("False" : String) from nice_of (by decide)).mono h; exact (show Nice 5 ("True" : String) from nice_of (by decide)).mono h, rfl, rfl, Nat.zero_le _, rfl⟩⟩
  | _, _, _, .int h0 h1 h => ⟨_, rfl, ⟨(nice_int h0 h1).mono h, by simp only [PyData.showable, decide_eq_true_eq]; exact log_small h0 h1, rfl, Nat.zero_le _, rfl⟩⟩
  | _, _, _, .str hx h => ⟨_, rfl, ⟨by simp only [PyData.shown]; exact (nice_repr hx).mono h, rfl, rfl, Nat.zero_le _, by simp only [PyData.canLay0]; exact hx.ok⟩⟩
  | _, _, _, .tup ha h hk => by
    obtain ⟨ps, e, q⟩ := NdA.py ha
    exact ⟨.tuple ps, by simp only [toPy, e, Option.map_some], ⟨by simp only [PyData.shown]; exact (nice_tuple q.nice).mono h, by simp only [PyData.showable]; exact q.show_, by simp only [PyData.hasDict]; exact q.flat, by simp only [PyData.depth]; have := q.deep; omega, by simp only [PyData.canLay0]; exact q.lay⟩⟩
  | _, _, _, .lst ha h hk => by
    obtain ⟨ps, e, q⟩ := NdA.py ha
    exact ⟨.list ps, by simp only [toPy, e, Option.map_some], ⟨by simp only [PyData.shown]; exact (nice_list q.nice).mono h, by simp only [PyData.showable]; exact q.show_, by simp only [PyData.hasDict]; exact q.flat, by simp only [PyData.depth]; have := q.deep; omega, by simp only [PyData.canLay0]; exact q.lay⟩⟩
theorem NdA.py : ∀ {n k : Nat} {ds : List D}, NdA n k ds → ∃ ps, toPyA ds = some ps ∧ NPA n k ps
  | _, _, _, .nil => ⟨[], rfl, ⟨.nil, rfl, rfl, Nat.zero_le _, rfl⟩⟩
  | _, _, _, .cons h r => by
    obtain ⟨p, e, q⟩ := Nd.py h
    obtain ⟨ps, e2, q2⟩ := NdA.py r
    refine ⟨p :: ps, by simp only [toPyA, e, e2, Option.bind_some, Option.map_some], ⟨.cons q.nice q2.nice, ?_, ?_, ?_, ?_⟩⟩
    · simp only [PyData.showableAll, q.show_, q2.show_, Bool.and_self]
    · simp only [PyData.hasDictAll, q.flat, q2.flat, Bool.or_self]
    · simp only [PyData.depthAll]; exact Nat.max_le.mpr ⟨q.deep, q2.deep⟩
    · simp only [PyData.canLayAll0, q.lay, q2.lay, Bool.and_self]
end
theorem eqD_self {n k : Nat} {d : D} (h : Nd n k d) (hk : k ≤ 64) : eqD d d = some (.bl true) ∧ neD d d = some (.bl false) := by
  obtain ⟨p, e, q⟩ := h.py
  have es : SeqAt.shaped p = true := by
    unfold SeqAt.shaped
    rw [q.lay]
    have := q.deep
    simp
    omega
  have : eqP d d = some true := by
    unfold eqP
    rw [e]
    simp only [Option.bind_some, es, Bool.and_self, if_true]
    rw [SeqAt.eqv_refl p q.lay]
  unfold eqD neD
  rw [this]
  exact ⟨rfl, rfl⟩
end PL
set_option Elab.async false
set_option linter.all false
set_option maxRecDepth 100000
set_option maxHeartbeats 4000000
/-! The program's own defs about counts and stays; cs: the own classes that a law's text has. -/
namespace LW
open PySem PySem.Spec PyProof.Rows L2 ClX PL
section
variable (cs : List Str)
def nm_ini : List Str := ["arrivals", "departures"]
def f_ii : FS := (retS (andV (un1 (isiD (tyK "int") (inst0 cs)) (nm 0)) (andV (notV (un1 (isiD (tyK "bool") (inst0 cs)) (nm 0))) (chn leD leD (nm 1) (nm 0) (nm 2)))))
abbrev F_ii := runF 3 3 (f_ii cs)
def f_cl : FS := (seqS (ifS (orT (notT (tst (un1 (isiD (tyK "tuple") (inst0 cs)) (nm 0)))) (notT (tst (un1 (isiD (tyK "tuple") (inst0 cs)) (nm 1))))) badS nxS)
  (ifS (orT (tstB (bin2 neD (callE lenD (consA (nm 0) nilA)) (callE lenD (consA (nm 1) nilA)))) (notT (tstB (chn leD leD (fun _ S => R.ok (.int 1, S)) (callE lenD (consA (nm 0) nilA)) (fun _ S => R.ok (.int 60, S)))))) badS nxS))
abbrev F_cl := runF 2 2 (f_cl cs)
def f_inu : FS := (retS (callD (F_ii cs) [] (consA (nm 0) (consA (fun _ S => R.ok (.int 0, S)) (consA (fun _ S => R.ok (.int 999, S)) nilA)))))
abbrev F_inu := runF 1 1 (f_inu cs)
def f_cn : FS := (seqS (asgS (fun _ S => R.ok (.int 0, S)) (nmG 2))
  (seqS (asgS (fun _ S => R.ok (.int 0, S)) (nmG 3))
  (forS (enI (rngI zip2D (consA (nm 0) (consA (nm 1) nilA)))) (tupG 2 (consG (nmG 4) (consG (tupG 2 (consG (nmG 5) (consG (nmG 6) nilG))) nilG))) (seqS (ifS (orT (notT (tst (callD (F_inu cs) [] (consA (nm 5) nilA)))) (notT (tst (callD (F_inu cs) [] (consA (nm 6) nilA))))) badS nxS)
  (seqS (asgS (bin2 addD (nm 2) (nm 5)) (nmG 2))
  (seqS (asgS (bin2 subD (bin2 addD (nm 3) (nm 5)) (nm 6)) (nmG 3))
  (ifS (orT (tstB (bin2 gtD (nm 2) (fun _ S => R.ok (.int 999, S)))) (tstB (bin2 ltD (nm 3) (fun _ S => R.ok (.int 0, S))))) badS nxS)))))))
abbrev F_cn := runF 7 2 (f_cn cs)
def f_ini : FS := (seqS (exprS (callD (F_cl cs) [] (consA (nm 1) (consA (nm 2) nilA))))
  (seqS (exprS (callD (F_cn cs) [] (consA (nm 1) (consA (nm 2) nilA))))
  (seqS (slfS nm_ini "arrivals" (nm 1))
  (slfS nm_ini "departures" (nm 2)))))
abbrev F_ini := runI nm_ini 3 3 (f_ini cs)
end
section
variable {cs : List Str}
theorem ii_int (v lo hi : Int) : F_ii cs [.int v, .int lo, .int hi] = R.ok (.bl (decide (lo ≤ v) && decide (v ≤ hi))) := by
  refine eq_sat ((wp_runF rfl).mpr ?_)
  unfold f_ii
  simp [startE, tyK, known, tyB]
  split <;> simp_all <;> omega
theorem enD_at {ds : List D} {i : Nat} {d : D} (h : (enD ds)[i]? = some d) : ∃ x, ds[i]? = some x ∧ d = .tup [.int (i : Nat), x] := by
  unfold enD at h
  rw [List.getElem?_mapIdx] at h
  cases q : ds[i]? with
  | none => rw [q] at h; cases h
  | some x =>
    rw [q] at h
    exact ⟨x, rfl, by simpa using h.symm⟩
theorem rows2_at {xs ys : List D} {n i : Nat} {d : D} (h : (rows [xs, ys] n)[i]? = some d) : i < n ∧ d = .tup [xs.getD i .non, ys.getD i .non] := by
  unfold rows at h
  rw [List.getElem?_map] at h
  cases q : (List.range n)[i]? with
  | none => rw [q] at h; cases h
  | some k =>
    rw [q] at h
    obtain ⟨h1, h2⟩ := List.getElem?_eq_some_iff.mp q
    simp at h1 h2 h
    subst h2
    exact ⟨h1, by simp [← h]⟩
theorem pre_le {a : List Int} (h : ∀ x ∈ a, 0 ≤ x) (k : Nat) : pre a k ≤ a.sum := by
  have e : a.sum = (a.take k).sum + (a.drop k).sum := by rw [← List.sum_append, List.take_append_drop]
  have := sum_nn (l := a.drop k) fun x hx => h x (List.mem_of_mem_drop hx)
  unfold pre
  omega
theorem pre_nn {a : List Int} (h : ∀ x ∈ a, 0 ≤ x) (k : Nat) : 0 ≤ pre a k := sum_nn fun x hx => h x (List.mem_of_mem_take hx)
abbrev cnt (a b : List D) : D := .ins "Counts" ["arrivals", "departures"] [.tup a, .tup b]
end
end LW
set_option Elab.async false
set_option linter.all false
set_option maxRecDepth 100000
set_option maxHeartbeats 4000000
/-! What is wanted of a result: the forms of PLD, PLF, PLH. -/
namespace PL
open PySem PySem.Spec PyProof.Rows L2 ClX
@[simp ↓] theorem wp_itmD {cn : Str} {F : List D → R D} {f g : FE} {ρ : Env} {S : List D} {Q : D × List D → Prop} {EX : EXT} : Sat (itmD cn F f g ρ S) Q EX ↔ Sat (f ρ S >>= fun x => g ρ x.2 >>= fun y => match x.1 with
  | .ins c _ _ => if c = cn then noX (F [x.1, y.1]) >>= fun d => R.ok (d, y.2) else R.bad
  | _ => R.bad) Q EX := Iff.rfl
@[simp ↓] theorem wp_strC {cn : Str} {F : List D → R D} {f : FE} {ρ : Env} {S : List D} {Q : D × List D → Prop} {EX : EXT} : Sat (strC cn F f ρ S) Q EX ↔ Sat (f ρ S >>= fun x => match x.1 with
  | .ins c _ _ => if c = cn then noX (F [x.1]) >>= fun d => match d with
    | .str y => R.ok (.str y, x.2)
    | _ => R.bad else R.bad
  | _ => R.bad) Q EX := Iff.rfl
@[simp ↓] theorem wp_jnE {h : FJ} {ρ : Env} {S : List D} {Q : D × List D → Prop} {EX : EXT} : Sat (jnE h ρ S) Q EX ↔ Sat (h Str.empty ρ S >>= fun r => R.ok (.str r.1, r.2)) Q EX := Iff.rfl
@[simp ↓] theorem wp_nilJ {acc : Str} {ρ : Env} {S : List D} {Q : Str × List D → Prop} {EX : EXT} : Sat (nilJ acc ρ S) Q EX ↔ Q (acc, S) := Iff.rfl
@[simp ↓] theorem wp_consJ {f : FE} {h : FJ} {acc : Str} {ρ : Env} {S : List D} {Q : Str × List D → Prop} {EX : EXT} : Sat (consJ f h acc ρ S) Q EX ↔ Sat (f ρ S >>= fun x => match x.1 with
  | .str y => if (acc ++ y).length ≤ LINE then h (acc ++ y) ρ x.2 else R.bad
  | _ => R.bad) Q EX := Iff.rfl
@[simp ↓] theorem wp_eqC {neg : Bool} {cn : Str} {F : List D → R D} {f g : FE} {ρ : Env} {S : List D} {Q : D × List D → Prop} {EX : EXT} : Sat (eqC neg cn F f g ρ S) Q EX ↔ Sat (f ρ S >>= fun x => g ρ x.2 >>= fun y => (match x.1, y.1 with
  | .ins c ns vs, .ins c' ns' vs' => if c = cn ∧ c' = cn then noX (F [.ins c ns vs, .ins c' ns' vs']) else R.bad
  | .ins _ _ _, .cls _ => R.bad
  | .cls _, .ins _ _ _ => R.bad
  | .ins _ _ _, .exn _ _ _ => R.bad
  | .exn _ _ _, .ins _ _ _ => R.bad
  | .ins c ns vs, d => if c = cn then noX (F [.ins c ns vs, d]) else R.bad
  | d, .ins c ns vs => if c = cn then noX (F [.ins c ns vs, d]) else R.bad
  | _, _ => R.bad) >>= fun d => match d with
  | .bl k => R.ok (.bl (k != neg), y.2)
  | _ => R.bad) Q EX := Iff.rfl
@[simp ↓] theorem wp_nilM {ρ : Env} {S : List D} {Q : List (Bool × D) × List D → Prop} {EX : EXT} : Sat (nilM ρ S) Q EX ↔ Q ([], S) := Iff.rfl
@[simp ↓] theorem wp_valM {f : FE} {h : FM} {ρ : Env} {S : List D} {Q : List (Bool × D) × List D → Prop} {EX : EXT} : Sat (valM f h ρ S) Q EX ↔ Sat (f ρ S >>= fun x => h ρ x.2 >>= fun y => R.ok ((false, x.1) :: y.1, y.2)) Q EX := Iff.rfl
@[simp ↓] theorem wp_ownM {f : FA} {h : FM} {ρ : Env} {S : List D} {Q : List (Bool × D) × List D → Prop} {EX : EXT} : Sat (ownM f h ρ S) Q EX ↔ Sat (f ρ S >>= fun x => h ρ x.2 >>= fun y => R.ok ((true, .lst x.1) :: y.1, y.2)) Q EX := Iff.rfl
@[simp ↓] theorem wp_mixS {is : List Nat} {fl : List Bool} {f : FM} {ρ : Env} {S : List D} {Q : Ctl × Env × List D → Prop} {EX : EXT} : Sat (mixS is fl f ρ S) Q EX ↔ Sat (f ρ S >>= fun x => if x.1.map (·.1) = fl then stD is x.1 ρ >>= fun ρ1 => R.ok (.nx, ρ1, x.2) else R.bad) Q EX := Iff.rfl
@[simp ↓] theorem wp_stD_nil {ρ : Env} {Q : Env → Prop} {EX : EXT} : Sat (stD [] [] ρ) Q EX ↔ Q ρ := Iff.rfl
@[simp ↓] theorem wp_stD_cons {i : Nat} {is : List Nat} {d : Bool × D} {ds : List (Bool × D)} {ρ : Env} {Q : Env → Prop} {EX : EXT} : Sat (stD (i :: is) (d :: ds) ρ) Q EX ↔ Sat (setE ρ i d.2 >>= fun ρ1 => stD is ds ρ1) Q EX := Iff.rfl
@[simp] theorem kindD_str (x : Str) : kindD "str" (.str x) = true := rfl
@[simp] theorem fmtD_int (i : Int) : fmtD (.int i) = if i.natAbs.log2 < 1920 then some (.str (toString i)) else none := rfl
@[simp] theorem fmtD_str (x : Str) : fmtD (.str x) = if x.length ≤ LINE then some (.str x) else none := rfl
@[simp] theorem strD_int (i : Int) : strD [.int i] = if i.natAbs.log2 < 1920 then some (.str (toString i)) else none := rfl
@[simp] theorem addD_str (a b : Str) : addD (.str a) (.str b) = if a.length + b.length ≤ LINE then some (.str (a ++ b)) else none := by
  show (none : Option D).or ((addS (.str a) (.str b)).or ((none : Option D).or (none : Option D))) = _
  simp only [addS, Option.none_or, Option.or_none]
theorem joinD_map (a : Str) (ys : List Str) : joinD (.str a) [.lst (ys.map D.str)] = if (ys.map (·.length)).sum + ys.length * a.length ≤ LINE then some (.str (Txt.join a ys)) else none := by
  show (D.strs (ys.map D.str)).bind _ = _
  rw [D.strs_map]
  rfl
end PL
set_option Elab.async false
set_option linter.all false
set_option maxRecDepth 100000
set_option maxHeartbeats 4000000
/-! The law's own call where lambdas are made: tables of code objects stand in the heap. -/
namespace PL
open PySem PySem.Spec PyProof.Rows L2
/-- what the top knows of the tables: cs, code objects with their tables, still empty -/
structure Tops (K : PySem.W.Frag) (mg : Str → Option Value) (h : Heap) (cs : List (Addr × Addr)) : Prop where
  emp : ∀ p ∈ cs, h.get? p.2 = some { cls := .none, data := .fields #[] }
  out : ∀ p ∈ cs, K.lookup p.2 = none
  code : ∀ p ∈ cs, PySem.W.CodeHd h p.1 p.2
  bm : ∃ (bm : Addr) (ob : Obj), mg "__builtins__" = some (.ref bm) ∧ bm ≠ builtinsNs ∧ h.get? bm = some ob ∧ ob.cls = .type "module" ∧ ob.dict = some builtinsNs ∧ ob.data = .plain
theorem law_gT {Pg : Program} {w : World} {K : PySem.W.Frag} {mg mb : Str → Option Value} {k : Nat} {fA a : Addr} {fd : FuncData} {x : Str} {sp : Sp} {s1 : Shared} {vs : List Value} {ns : List Int} {cs : List (Addr × Addr)}
    (kin : K.In s1.heap) (hns : s1.heap.Ns mainGlobals mg) (hb : s1.heap.Ns builtinsNs mb) (hbb : ∀ y : Str, y ≠ "__name__" → mb y = bootBuiltins y) (lim : s1.heap.NoLimit) (hg : s1.gens = #[])
    (tp : Tops K mg s1.heap cs)
    (ha : s1.heap.get? a = some { cls := .type "list", data := .seq vs.toArray }) (hi : PyProof.Rows.IntsAre vs ns) (hl : ns.length ≤ sizeLine) (hr : Room k callerA)
    (F : ∀ base : Heap, K.In base → base.Ns mainGlobals mg → (∀ p ∈ cs, LamX.TabB base mg p.1 p.2) → FnG Pg w K mg base k fA fd [x] sp) (bnd : ∀ (s : Shared) (u : Value), BindsTo s fd ⟨[u], []⟩ [(x, u)])
    (hsp : ∀ H : Hp, (∀ p ∈ cs, H p.2 = some (.tbl #[])) → a ∉ cs.map (·.2) → SqL K H a (ns.map V.int) → sp [.ref a] H (fun v _ => v = .bl true) fun _ _ _ => False) :
    codeAny (model Pg w) callerA (.call (.ref fA) ⟨[.ref a], []⟩) (fun r s' => r = .ok (.ret (.bool true)) ∧ OldK s1.heap s'.heap ∧ s'.os = s1.os ∧ AllBare s'.gens) s1 := by
  have rv := vals_ints hi
  have ln := hi.length
  have na : a ∉ cs.map (·.2) := fun q => by
    obtain ⟨p, hp, e⟩ := List.mem_map.mp q
    have e2 := tp.emp p hp
    rw [e, ha] at e2
    have e3 := congrArg Obj.data (Option.some.inj e2)
    cases e3
  -- the tables are tracked, and the script where the written part does not have it
  suffices main : ∀ (H : Hp), (∀ p ∈ cs, H p.2 = some (.tbl #[])) → (∀ b u, b ∉ cs.map (·.2) → H b = some u → b = a ∧ K.lookup a = none ∧ ∃ o xs, u = .frz o (.lst xs)) → SqL K H a (ns.map V.int) → HOk Pg w H s1.heap →
      codeAny (model Pg w) callerA (.call (.ref fA) ⟨[.ref a], []⟩) (fun r s' => r = .ok (.ret (.bool true)) ∧ OldK s1.heap s'.heap ∧ s'.os = s1.os ∧ AllBare s'.gens) s1 by
    have tok : ∀ (H : Hp) (b : Addr), b ∈ cs.map (·.2) → H b = some (.tbl #[]) → ∀ u, H b = some u → ObjOk Pg w H s1.heap b u := fun H b hb e u q => by
      obtain ⟨p, hp, rfl⟩ := List.mem_map.mp hb
      rw [e] at q
      cases q
      exact tp.emp p hp
    by_cases hk : ∃ o, K.lookup a = some o
    · obtain ⟨o, hk⟩ := hk
      have eo := kin a o hk
      rw [ha] at eo
      cases eo
      generalize hHH : (fun b => if b ∈ cs.map (·.2) then some (HO.tbl #[]) else none : Hp) = HH
      have hT : ∀ b, b ∈ cs.map (·.2) → HH b = some (.tbl #[]) := fun b hb => by
        rw [← hHH]
        exact if_pos hb
      have hN : ∀ b, b ∉ cs.map (·.2) → HH b = none := fun b hb => by
        rw [← hHH]
        exact if_neg hb
      refine main HH (fun p hp => hT _ (List.mem_map_of_mem hp)) (fun b u nb q => ?_) (.inr ⟨_, vs.toArray, _, hk, rfl, rfl, rfl, by rw [List.size_toArray, ln]; exact hl, by simpa using rv⟩) (fun b u q => ?_)
      · rw [hN b nb] at q
        cases q
      · by_cases nb : b ∈ cs.map (·.2)
        · exact tok _ b nb (hT b nb) u q
        · rw [hN b nb] at q
          cases q
    · have hk0 : K.lookup a = none := by
        cases q : K.lookup a with
        | none => rfl
        | some o => exact absurd ⟨o, q⟩ hk
      generalize hHH : upd (fun b => if b ∈ cs.map (·.2) then some (HO.tbl #[]) else none) a (.frz { cls := .type "list", data := .seq vs.toArray } (.lst (ns.map V.int))) = HH
      have hA : HH a = some (.frz { cls := .type "list", data := .seq vs.toArray } (.lst (ns.map V.int))) := by rw [← hHH, upd_same]
      have hT : ∀ b, b ∈ cs.map (·.2) → HH b = some (.tbl #[]) := fun b hb => by
        rw [← hHH, upd_ne (fun e => na (by rw [← e]; exact hb))]
        exact if_pos hb
      have hN : ∀ b, b ∉ cs.map (·.2) → b ≠ a → HH b = none := fun b hb ne => by
        rw [← hHH, upd_ne ne]
        exact if_neg hb
      refine main HH (fun p hp => hT _ (List.mem_map_of_mem hp)) (fun b u nb q => ?_) (.inl (.inr ⟨_, hA⟩)) (fun b u q => ?_)
      · by_cases hba : b = a
        · rw [hba, hA] at q
          cases q
          exact ⟨hba, hk0, _, _, rfl⟩
        · rw [hN b nb hba] at q
          cases q
      · by_cases nb : b ∈ cs.map (·.2)
        · exact tok _ b nb (hT b nb) u q
        · by_cases hba : b = a
          · rw [hba, hA] at q
            cases q
            rw [hba]
            exact ⟨ha, by rw [List.length_map]; exact hl, vs, _, rv, ha⟩
          · rw [hN b nb hba] at q
            cases q
  intro H hH hO hS hok
  have isT : ∀ {b : Addr} {o : Obj}, s1.heap.get? b = some o → b ∈ cs.map (·.2) → o.cls = .none ∧ o.data = .fields #[] := fun {b o} e hb => by
    obtain ⟨p, hp, rfl⟩ := List.mem_map.mp hb
    rw [tp.emp p hp] at e
    cases e
    exact ⟨rfl, rfl⟩
  have keepB : ∀ {b : Addr} {o : Obj}, s1.heap.get? b = some o → (b ∉ cs.map (·.2)) → (b = a → K.lookup a ≠ none ∨ o.cls ≠ .type "list") → (hidT s1.heap H).get? b = some o := fun {b o} e nb n => hidT_get e (by
    cases q : H b with
    | none => rfl
    | some u =>
      obtain ⟨hba, hk, _⟩ := hO b u nb q
      rcases n hba with z | z
      · exact absurd hk z
      · rw [hba, ha] at e
        cases e
        exact absurd rfl z)
  have dictB : ∀ {b : Addr} {o : Obj} {es : Array DictEntry} {ep : Nat}, s1.heap.get? b = some o → o.data = .dict es ep → (hidT s1.heap H).get? b = some o := fun {b o es ep} e d => hidT_get e (by
    cases q : H b with
    | none => rfl
    | some u =>
      by_cases nb : b ∈ cs.map (·.2)
      · have z := (isT e nb).2
        rw [d] at z
        cases z
      · obtain ⟨hba, hk, _⟩ := hO b u nb q
        rw [hba, ha] at e
        cases e
        cases (show Data.seq vs.toArray _ = Data.dict es ep from d))
  have nsB : ∀ {b : Addr} {m : Str → Option Value}, s1.heap.Ns b m → (hidT s1.heap H).Ns b m := fun {b m} hN => by
    obtain ⟨o, es, ep, e, d, r⟩ := hN
    exact ⟨o, es, ep, dictB e d, d, r⟩
  have kinB : K.In (hidT s1.heap H) := fun b o e => keepB (kin b o e) (fun nb => by
    obtain ⟨p, hp, rfl⟩ := List.mem_map.mp nb
    rw [tp.out p hp] at e
    cases e) fun hba => .inl (by rw [← hba, e]; exact fun z => nomatch z)
  have e0 : Env0 Pg w K mg (hidT s1.heap H) callerA [] s1 H := by
    obtain ⟨mc, h1, h2⟩ := lim
    exact { frames := rfl, mod := ⟨kinB, nsB hns, ⟨mb, nsB hb, hbb⟩, mc, nsB h1, h2⟩, bs := fun b o e => of_hidT e, bsz := Nat.le_of_eq (hidT_size _ _), funs := trivial, frf := (fun b hb => nomatch hb), hok := hok, bare := .of_eq hg }
  have tb : ∀ p ∈ cs, LamX.TabB (hidT s1.heap H) mg p.1 p.2 := fun p hp => by
    refine ⟨?_, ?_, fun q => ?_⟩
    · obtain ⟨o, us, fi, t1, fl, t2, fn, tx, t3, e, ecl, edt, e11, rest⟩ := tp.code p hp
      refine ⟨o, us, fi, t1, fl, t2, fn, tx, t3, keepB e (fun nb => ?_) fun _ => .inr ?_, ecl, edt, e11, rest⟩
      · have z := (isT e nb).1
        rw [ecl] at z
        cases z
      · rw [ecl]
        intro z
        have z2 := congrArg (fun v : Value => match v with | .type t => t | _ => "") z
        exact absurd z2 (by decide)
    · obtain ⟨bm, ob, b1, b2, b3, b4, b5, b6⟩ := tp.bm
      have nb : bm ∉ cs.map (·.2) := fun q => by
        have z := (isT b3 q).2
        rw [b6] at z
        cases z
      refine ⟨bm, ob, b1, b2, fun q => ?_, fun q => nb (by rw [q]; exact List.mem_map_of_mem hp), keepB b3 nb fun _ => .inr ?_, b4, b5, b6⟩
      · obtain ⟨o, es, ep, e, d, _⟩ := hns
        rw [q, e] at b3
        cases b3
        rw [d] at b6
        cases b6
      · rw [b4]
        intro z
        have z2 := congrArg (fun v : Value => match v with | .type t => t | _ => "") z
        exact absurd z2 (by decide)
    · obtain ⟨o, es, ep, e, d, _⟩ := hns
      have z := (isT e (by rw [q]; exact List.mem_map_of_mem hp)).2
      rw [d] at z
      cases z
  refine codeAny_mono ((F _ kinB (nsB hns) tb).go callerA [] s1 H ⟨[.ref a], []⟩ [.ref a] [.ref a] _ _ hr rfl e0 (bnd s1 (.ref a)) (.cons rfl .nil) (hsp H hH na hS)) fun res s' hq => ?_
  match res, hq with
  | .ok (.ret u), hq =>
    obtain ⟨v, H', os, bare, un, hok', r', q⟩ := hq
    cases (show v = .bl true from q)
    cases (show u = Value.bool true from r')
    have kept : ∀ b o, b ∉ cs.map (·.2) → s1.heap.get? b = some o → s'.heap.get? b = some o := fun b o nb e => by
      cases q : H b with
      | none => exact un.keep b o e q (fun z => nomatch z) (fun z => nomatch z)
      | some u =>
        obtain ⟨_, _, ob, xs, rfl⟩ := hO b u nb q
        obtain ⟨e1, _⟩ := hok b _ q
        obtain ⟨e2, _⟩ := hok' b _ (un.frzs b ob _ q)
        rw [e] at e1
        cases e1
        exact e2
    have more : ∀ p ∈ cs, ∃ ps : Array Value, s'.heap.get? p.2 = some { cls := .none, data := .fields ps } := fun p hp => by
      obtain ⟨ps, z⟩ := un.tbls p.2 #[] (hH p hp)
      exact ⟨_, hok' p.2 _ z⟩
    refine ⟨rfl, ⟨fun b o e => ?_, fun b o e => ?_⟩, os, bare⟩
    · by_cases nb : b ∈ cs.map (·.2)
      · obtain ⟨p, hp, rfl⟩ := List.mem_map.mp nb
        obtain ⟨ps, z⟩ := more p hp
        have e2 := tp.emp p hp
        rw [e2] at e
        cases e
        exact .inr (.inl ⟨((tp.code p hp).tab e2).isCodeTable, rfl, #[], ps, rfl, by rw [Array.empty_append]; exact z⟩)
      · exact .inl (kept b o nb e)
    · by_cases nb : b ∈ cs.map (·.2)
      · obtain ⟨p, hp, rfl⟩ := List.mem_map.mp nb
        obtain ⟨ps, z⟩ := more p hp
        exact ⟨_, z⟩
      · exact ⟨o, kept b o nb e⟩
  | .ok .next, hq => exact False.elim hq
  | .ok .brk, hq => exact False.elim hq
  | .ok .cont, hq => exact False.elim hq
  | .error er, hq => exact False.elim hq
end PL
set_option Elab.async false
set_option linter.all false
set_option maxRecDepth 100000
set_option maxHeartbeats 4000000
/-! min(l, key=f) in the hand layer; a lambda of one parameter that is called where it was made. -/
namespace PL
open PySem PySem.Spec PyProof.Rows L2
end PL
set_option Elab.async false
set_option linter.all false
set_option maxRecDepth 100000
set_option maxHeartbeats 4000000
/-! A lambda of one parameter, called where it was made. -/
namespace PL
open PySem PySem.Spec PyProof.Rows L2
end PL
set_option Elab.async false
set_option linter.all false
set_option maxRecDepth 100000
set_option maxHeartbeats 4000000
/-! A lambda made: the one table that its maker has grows, nothing else. -/
namespace PL
open PySem PySem.Spec PyProof.Rows L2
section
variable {X : Cx} {pins : List (Addr × Obj)} {σ : L2.St} {H : Hp} {s : Shared}
theorem lam_made {T : Tb} {cd P : Addr} {pr : Arguments} {bd : Expr} {scp : Scope} {ps : Pos} {E : Value → Shared → Prop} {Q : Value → Shared → Prop} (J : Inv X pins σ H s) (tb : LamX.TabB X.base X.mg cd P) (ecd : X.env.code = .ref cd)
    (mem : (P, X.env.qual ++ "<lambda>") ∈ T) (one : ∀ p ∈ T, p.1 = P → p.2 = X.env.qual ++ "<lambda>") (tt : LamX.Tabs T H) (nodef : defaultsOf pr X.env = ([], [])) (fr : ∀ y ∈ scp.names, y.2 = .free → ∃ c, X.env.cells.lookup y.1 = some c)
    (go : ∀ (f c2 : Addr) (pm ctv : Value) (H1 : Hp) (s1 : Shared), Inv X pins σ H1 s1 → (∀ b o, b ≠ P → H b = some o → H1 b = some o) → LamX.Tabs T H1 →
      s1.heap.get? f = some (PySem.W.kla_obj "<lambda>" (X.env.qual ++ "<lambda>") pr bd scp (cloFrom X.env.cells scp.names []) pm c2 ctv) → H1 f = none → f ∉ frs X.stack → H1 c2 = some (LamX.CodeO c2 (X.env.qual ++ "<lambda>")) → Q (.ref f) s1) :
    wpAny (model X.prog X.w) X.A (eval (.Lambda pr bd scp ps) X.env) Q E s := by
  obtain ⟨tab, atP, tri, amg⟩ := tt _ mem
  have hp : s.heap.get? P = some { cls := .none, data := .fields tab } := J.hok P _ atP
  have young : ∀ f, s.heap.objs.size ≤ f → f ∉ frs X.stack := fun f hf z => by
    rcases List.mem_cons.mp (J.stkSub _ z) with e | e
    · have l := J.lt
      rw [← e] at l
      exact absurd (Nat.lt_of_lt_of_le l hf) (Nat.lt_irrefl _)
    · exact J.nofs hf e
  have gl : X.env.globals = mainGlobals := J.ok.glob
  refine PySem.W.kla_eval nodef ?_
  generalize hq : X.env.qual ++ "<lambda>" = qn at *
  cases cam : codeAmong ps tab.toList with
  | none =>
    refine PySem.W.kla_makeFunction (P := P) (c := cd) (ps := tab) (mg := X.mg)
      (closure_ok fr) gl (J.mod.glob.keeps J.bk) ecd (tb.code.keeps J.bk) hp tri cam tb.gP
      (tb.bm.keeps J.bk) fun h1 ctv h2 tk keep old lt2 rec2 tab2 => ?_
    obtain ⟨c3, oc, ws, t, e3, hoc, hdc, hvc⟩ := rec2
    cases e3
    have big : s.heap.objs.size ≤ h2.objs.size := by omega
    have fresh1 : H h1 = none := J.hok.fresh old
    have neP : P ≠ h1 := ne_of_none atP fresh1
    generalize hfo : PySem.W.kla_obj "<lambda>" qn pr bd scp (cloFrom X.env.cells scp.names []) ((X.mg "__name__").getD .none) h1 ctv = fo
    have J1 := LamX.inv_table (t' := tk) (c := h1) (q := qn) (more := #[rawInt ps.line, rawInt ps.col, .ref h1]) (h' := h2.push fo) J atP
      (fun b o hb e => Heap.get?_push_of_some _ (keep b o hb e)) (Heap.get?_push_of_some _ tab2) old
      ⟨oc, ws, t, Heap.get?_push_of_some _ hoc, hdc, hvc⟩
    generalize hHH : upd (upd H P (.tbl (tab ++ #[rawInt ps.line, rawInt ps.col, .ref h1]))) h1 (LamX.CodeO h1 qn) = HH at J1
    have far : ∀ b, b ≠ P → b ≠ h1 → HH b = H b := fun b n1 n2 => by rw [← hHH, upd_ne n2, upd_ne n1]
    have rest : ∀ b o, b ≠ P → H b = some o → HH b = some o := fun b o n e => by rw [far b n (ne_of_none e fresh1)]; exact e
    have mine : HH P = some (.tbl (tab ++ #[rawInt ps.line, rawInt ps.col, .ref h1])) := by rw [← hHH, upd_ne neP, upd_same]
    have code : HH h1 = some (LamX.CodeO h1 qn) := by rw [← hHH, upd_same]
    have el : (tab ++ #[rawInt ps.line, rawInt ps.col, .ref h1]).toList = tab.toList ++ [rawInt ps.line, rawInt ps.col, .ref h1] := by simp
    have nf1 : h2.objs.size ≠ h1 := by omega
    have nfP : h2.objs.size ≠ P := Nat.ne_of_gt (Nat.lt_of_lt_of_le (Heap.lt_size hp) big)
    refine go h2.objs.size h1 _ ctv HH _ J1 rest (fun p hpT => ?_) (by rw [hfo]; exact Heap.get?_push_size _ (by rw [← hfo]; rfl)) (by rw [far _ nfP nf1]; exact J.hok.fresh big) (young _ big) code
    by_cases same : p.1 = P
    · rw [one p hpT same, same]
      refine ⟨_, mine, by rw [el]; exact PySem.TriplesOk_snoc _ _ _ _ tri, fun p2 cv hcv => ?_⟩
      rw [el] at hcv
      rcases LamX.among_app _ tri hcv with z | z
      · obtain ⟨c0, e1, e2⟩ := amg p2 cv z
        refine ⟨c0, e1, rest _ _ (fun n => ?_) e2⟩
        rw [n, atP] at e2
        exact LamX.codeO_ne _ (Option.some.inj e2).symm
      · exact ⟨h1, z, code⟩
    · obtain ⟨tab', b1, b2, b3⟩ := tt p hpT
      refine ⟨tab', rest _ _ same b1, b2, fun p2 cv hcv => ?_⟩
      obtain ⟨c0, e1, e2⟩ := b3 p2 cv hcv
      refine ⟨c0, e1, rest _ _ (fun n => ?_) e2⟩
      rw [n, atP] at e2
      exact LamX.codeO_ne _ (Option.some.inj e2).symm
  | some cv =>
    obtain ⟨c2, e, hco⟩ := amg ps cv cam
    subst e
    refine PySem.W.kla_makeFunctionHit (P := P) (c := cd) (ps := tab) (mg := X.mg)
      (closure_ok fr) gl (J.mod.glob.keeps J.bk) ecd (tb.code.keeps J.bk) hp tri cam
      (tb.bm.keeps J.bk) fun ctv h2 tk keep big => ?_
    exact go h2.objs.size c2 _ ctv H _ (J.kept fun b o e => Heap.get?_push_of_some _ (keep b o e)) (fun _ _ _ e => e) tt (Heap.get?_push_size _ rfl) (J.hok.fresh big) (young _ big) hco
end
end PL
set_option Elab.async false
set_option linter.all false
set_option maxRecDepth 100000
set_option maxHeartbeats 4000000
/-! min(e, key=lambda a: ..) over plain data. -/
namespace PL
open PySem PySem.Spec PyProof.Rows L2
def keysL (fb : FE) (ρ : Env) (S : List D) : List D → R (List Int)
  | [] => R.ok []
  | d :: r => noX (fb (some d :: ρ) S) >>= fun y => match y.1 with
    | .int k => keysL fb ρ S r >>= fun ks => R.ok (k :: ks)
    | _ => R.bad
def argK (ks : List Int) : Nat := argBest (fun i j => decide (ks.getD i 0 < ks.getD j 0)) (ks.length - 1)
def minLamE (f fb : FE) : FE := fun ρ S => f ρ S >>= fun x => match x.1 with
  | .lst ds => keysL fb ρ x.2 ds >>= fun ks => R.of (if ds = [] then none else ds[argK ks]?) >>= fun d => R.ok (d, x.2)
  | _ => R.bad
section
variable {X : Cx} {z : Z} {EX : EXT} {B : List Addr} {σ : L2.St} {H H' : Hp} {ρ : Env} {S : List D}
theorem Rel.push {v : V} {d : D} (r : Rel z B [] σ H ρ S) (hz : z.pl = none) (hk : z.kp = []) (hv : Rp z.K z.ca (Frz H (z.L B [])) v d) : Rel z B [] (some v :: σ) H (some d :: ρ) S where
  val := fun i d' n e => by
    cases i with
    | zero =>
      cases e
      exact ⟨v, rfl, hv⟩
    | succ i => exact r.val i d' (fun p hp => nomatch hp) e
  own := fun p hp => nomatch hp
  pool := fun i a e => by rw [hz] at e; cases e
  nd := r.nd
  there := r.there
  ex := r.ex
  new := fun p hp => nomatch hp
  len := congrArg (· + 1) r.len
  tabs := r.tabs
  xt := ⟨r.xt.1, fun i hi => by rw [hk] at hi; cases hi⟩
end
@[simp ↓] theorem wp_minLam {f fb : FE} {ρ : Env} {S : List D} {Q : D × List D → Prop} {EX : EXT} : Sat (minLamE f fb ρ S) Q EX ↔ Sat (f ρ S >>= fun x => match x.1 with
  | .lst ds => keysL fb ρ x.2 ds >>= fun ks => R.of (if ds = [] then none else ds[argK ks]?) >>= fun d => R.ok (d, x.2)
  | _ => R.bad) Q EX := Iff.rfl
end PL
set_option Elab.async false
set_option linter.all false
set_option maxRecDepth 100000
set_option maxHeartbeats 4000000
/-! min of a list of ints, its place. -/
namespace PL
open PySem PySem.Spec PyProof.Rows L2
section
variable {X : Cx} {z : Z} {O : List Nat} {EX : EXT} {e o : Expr} {f : FE} {fa : FA} {p pos apos : Pos}
def leastI : List Int → Int
  | [] => 0
  | [x] => x
  | x :: y :: r => if leastI (y :: r) < x then leastI (y :: r) else x
end
end PL
set_option Elab.async false
set_option linter.all false
set_option maxRecDepth 100000
set_option maxHeartbeats 4000000
/-! Defs that make lambdas; the law's end with tables; an owned list handed back. -/
namespace PL
open PySem PySem.Spec PyProof.Rows L2
/-- a def whose lambdas are noted in a table that is among tb -/
structure MkAt (base : Heap) (mg : Str → Option Value) (tb : Tb) (fd : FuncData) (qn : Str) : Prop where
  ex : ∃ c P, fd.code = .ref c ∧ LamX.TabB base mg c P ∧ (P, qn) ∈ tb ∧ ∀ p ∈ tb, p.1 = P → p.2 = qn
section
variable {Pg : Program} {w : World} {K : PySem.W.Frag} {mg : Str → Option Value} {base : Heap} {ca : Str → Option Addr} {T : Tb}
theorem fn_bodyC {x qual : Str} {st : Stmt} {fA : Addr} {fd : FuncData} {N ps : List Str} {k : Nat} {sp : Sp} (F : Fun K x qual st fA fd) (Sc : FnScope N ps (defScope st)) (num : ∀ vs H Q E, sp vs H Q E → vs.length = ps.length)
    (body : ∀ (cdv : Value), fd.code = cdv → ∀ (A : Around) (up : List PySem.Env) (s : Shared) (H : Hp) (vs : List V) (Q : VK) (E : XK), Room k (A.deeper (envOfC qual (defScope st) s.heap.objs.size fA cdv)) → A.guards = some [] → sp vs H Q E →
      ∃ t, PSs (cxOf CX0 Pg w K mg base N qual (defScope st) fA cdv A up s H E).nox (defBody st) t ∧ t { nx := fun _ H' => Q .non H', rt := Q } (L2.start N vs) H) : FnG Pg w K mg base (k + 1) fA fd ps sp := by
  obtain ⟨oc, od, kV, doc, pm, an, cdv, ct, osl, rfl, lk, hcd⟩ := F.ex
  constructor
  · exact num
  · intro A up s H args us vs Q E hr hgu e0 hb rv hsp
    have hlen := num _ _ _ _ hsp
    have kin : K.In s.heap := e0.mod.kin.keeps fun b o e => (e0.bs b o e).1
    have nolim : s.heap.NoLimit := e0.mod.nolimit.keeps fun b o e => (e0.bs b o e).1
    refine codeAny_call_function hr.depth (kin _ _ lk) rfl Sc.co Sc.gen rfl (PySem.W.codeRec_of kin hcd) (hb _ _ _ _ (wpAny_newFunctionEnv_cells Sc.kind (fun y hy => ?_) fun env he s1 x => ?_))
    · obtain ⟨n, v⟩ := y
      exact (Sc.par n (List.of_mem_zip hy).1).imp id fun q => ⟨q, PySem.W.cellsFrom_some _ _ _ (.inl q)⟩
    · subst he
      obtain ⟨t, ht, hq⟩ := body cdv rfl A up s H vs Q E (hr.deeper _) hgu hsp
      have J : Inv (cxOf CX0 Pg w K mg base N qual (defScope st) fA cdv A up s H E) [] (L2.start N vs) H s1 := inv_start Sc hr.hd e0 hlen rv x
      refine ⟨nolim.keeps x.toInCall.keep, codeAny_func (wpAny_mono (ht.nox.run [] s1 _ H _ J hq) (fun fl s' hs => ?_) fun e s' hs => hs)⟩
      cases fl with
      | ret u => obtain ⟨v, σ', H', J2, r2, q2⟩ := hs; exact ⟨v, H', J2.os, J2.bare, J2.base, J2.hok, r2, q2⟩
      | next => obtain ⟨σ', H', J2, q2⟩ := hs; exact ⟨V.non, H', J2.os, J2.bare, J2.base, J2.hok, rfl, q2⟩
      | brk => obtain ⟨_, _, _, q2⟩ := hs; exact q2.elim
      | cont => obtain ⟨_, _, _, q2⟩ := hs; exact q2.elim
theorem fn_dC {x qual : Str} {st : Stmt} {fA : Addr} {fd : FuncData} {N ps : List Str} {k : Nat} {fs : FS} {OO : List Nat} (F : Fun K x qual st fA fd) (Sc : FnScope N ps (defScope st))
    (body : ∀ (cdv : Value), fd.code = cdv → ∀ (A : Around) (outer : List PySem.Env) (s : Shared) (H : Hp) (E : XK), Rm k (A.deeper (envOfC qual (defScope st) s.heap.objs.size fA cdv)) →
      PSS (cxOf CX0 Pg w K mg base N qual (defScope st) fA cdv A outer s H E).nox ⟨K, ca, H, none, .lst, T, [], [], []⟩ [] OO [] EX0 (defBody st) fs) :
    FnG Pg w K mg base (k + 1) fA fd ps (spF K ca T (runF N.length ps.length fs)) := by
  refine fn_bodyC F Sc (fun vs H Q E h => ?_) (fun cdv hcd A outer s H vs Q E hr hgu h => ?_)
  · obtain ⟨ds, B, _, _, _, hv, hs⟩ := h
    rw [hv.length]
    unfold runF at hs
    split at hs
    · assumption
    · exact hs.elim
  · obtain ⟨ds, B, hB, hb, ti, hv, hs⟩ := h
    obtain ⟨t, p, q⟩ := (body cdv hcd A outer s H E ⟨hr, hgu⟩).ex
    refine ⟨t, p, ?_⟩
    unfold runF at hs
    split at hs
    · have ef : ∀ H', Frz H' (Z.L ⟨K, ca, H, none, .lst, T, [], [], []⟩ (beside T B) []) = Frz H' B := fun H' => frz_congr fun a => beside_iff ti.sub a
      refine q (beside T B) [] (L2.start N vs) H (startE N.length ds) [] _ rfl (rel_start hB hb ti hv) ((sat_bind.mp hs).imp fun r hr => ?_)
      obtain ⟨c, ρ1, S1⟩ := r
      cases c with
      | nx =>
        intro P' σ' H' h1 h2 h3
        have hr : ∀ v H', GrT T H H' → LamX.Tabs T H' → Rp K ca (Frz H' B) v .non → Q v H' := hr
        exact hr .non H' (fun a o n e => h3.ex a o e n) h3.tabs .non
      | rt d =>
        intro v H' hf
        have hr : ∀ v H', GrT T H H' → LamX.Tabs T H' → Rp K ca (Frz H' B) v d → Q v H' := hr
        exact hr v H' (fun a o n e => hf.ex a o e n) hf.tabs (ef H' ▸ hf.val)
      | bk => exact hr.elim
      | ct => exact hr.elim
    · exact hs.elim
end
/-- return x, x an owned list: a new list -/
def ownN (i : Nat) : FA := fun ρ S => lk ρ i >>= fun d => match d with
  | .lst ds => R.ok (ds, S)
  | _ => R.bad
theorem psn_own {X : Cx} {z : Z} {O : List Nat} {EX : EXT} {x : Str} {p pos : Pos} (i : Nat) (hi : O.contains i = true) (hN : X.N[i]? = some x := by rfl) (hv : Vis X.env.scope x := by first | exact Or.inl rfl | exact Or.inr (Or.inl rfl) | exact Or.inr (Or.inr rfl))
    (hd : (x == ("__debug__" : Str)) = false := by decide) (hcd : (x == ("__classdict__" : Str)) = false := by decide) : PSN X z O EX [.Return (some (.Name x p)) pos] (ownN i) := by
  refine ⟨_, pss_one (ps_ret (pe_var hN hv hd hcd)), fun B P σ H ρ S D' hP rr hs => ?_⟩
  obtain ⟨a, ha⟩ := own_at hP hi
  obtain ⟨e1, xs, ds, e2, e3, q⟩ := rr.own (i, a) ha
  refine ⟨_, e1, ?_⟩
  have hs : Sat (lk ρ i >>= fun d => match d with | .lst ds => R.ok (ds, S) | _ => R.bad) _ EX := hs
  have el : lk ρ i = R.ok (.lst ds) := by
    unfold lk
    rw [e3]
    rfl
  rw [el] at hs
  refine hs a xs H (rr.new (i, a) ha) rr.ex rr.tabs e2 (q.mono (frz_sub fun b hb => ?_))
  unfold Z.L
  rcases List.mem_cons.mp hb with h | h
  · rw [h]
    exact List.mem_append_left _ (List.mem_map_of_mem (f := (·.2)) ha)
  · exact List.mem_append_right _ h
/-! the goal that k_head leaves, where the def nm makes lambdas -/
@[simp ↓] theorem wp_ownN {i : Nat} {ρ : Env} {S : List D} {Q : List D × List D → Prop} {EX : EXT} : Sat (ownN i ρ S) Q EX ↔ Sat (lk ρ i >>= fun d => match d with
  | .lst ds => R.ok (ds, S)
  | _ => R.bad) Q EX := Iff.rfl
end PL
set_option Elab.async false
set_option linter.all false
set_option maxRecDepth 100000
set_option maxHeartbeats 4000000
/-! xs[::-1] of a tuple. -/
namespace PL
open PySem PySem.Spec PyProof.Rows L2 HT
section
variable {X : Cx} {z : Z} {O : List Nat} {EX : EXT} {e : Expr} {f : FE} {pos : Pos}
def revD : D → Option D | .tup ds => some (.tup ds.reverse) | _ => none
theorem RpA.reverse {K : PySem.W.Frag} {ca : Str → Option Addr} {F : Hp} : ∀ {xs : List V} {ds : List D}, RpA K ca F xs ds → RpA K ca F xs.reverse ds.reverse
  | _, _, .nil => .nil
  | _, _, .cons h r => by
    rw [List.reverse_cons, List.reverse_cons]
    exact (RpA.reverse r).append (.cons h .nil)
end
end PL
set_option Elab.async false
set_option linter.all false
set_option maxRecDepth 100000
set_option maxHeartbeats 4000000
/-! A class as a value: what it holds, its making, its classmethods. -/
namespace PL
open PySem PySem.Spec PyProof.Rows L2 ClX
section
variable {X : Cx} {z : Z} {O : List Nat} {EX : EXT} {e o : Expr} {es : List Expr} {f fx : FE} {fa : FA} {C fA : Addr} {fd : FuncData} {k : Nat} {ps : List Str} {x m : Str} {p pos apos : Pos} {sp : Sp} {E : XK} {tx ta : TE} {t : TA}
def clsConD (cn : Str) (d0 : D) : D → Option D | .cls c => if c = cn then some d0 else none | _ => none
theorem rp_cls {K : PySem.W.Frag} {ca : Str → Option Addr} {F : Hp} {v : V} {c : Str} (h : Rp K ca F v (.cls c)) (hca : ca c = some C) : v = .ref C := by
  cases h with
  | cls h => rw [hca] at h; cases h; rfl
/-- e.fn, e the class as a value, fn a constant of it -/
theorem pd_cvalV {cn fn : Str} {mc u : Value} {v : V} {d0 : D} (hK : X.K = z.K) (hca : z.ca cn = some C) (r : CRead X.K C mc) (k : CVal X.K C mc fn v u) (hv : ∀ F, Rp z.K z.ca F v d0) (ha : PD X z O EX e f)
    (hb : attributeBase e fn X.env (eval e X.env) = eval e X.env := by rfl) : PD X z O EX (.Attribute e fn pos) (un1 (clsConD cn d0) f) := by
  obtain ⟨t, pt, q⟩ := ha.ex
  refine ⟨_, pe_cval pt hb, fun B P σ H ρ S Q hP rr hs => ?_⟩
  refine q B P σ H ρ S _ hP rr ((sat_bind.mp hs).imp fun y hy v' H1 g1 r1 hv1 => ?_)
  obtain ⟨d, hd, hq⟩ := sat_of (sat_bind.mp hy)
  obtain ⟨y1, S1⟩ := y
  cases y1 <;> simp only [clsConD, reduceCtorEq] at hd
  split at hd
  · rename_i ec
    cases hd
    subst ec
    exact ⟨C, mc, v, u, rp_cls hv1 hca, r, k, hq _ H1 g1 r1 (hv _)⟩
  · cases hd
/-- x(..), x a name that holds the class -/
def tMkV (C : Addr) (sp : Sp) (n : Nat) (ix : List Nat) (E : XK) (tx : TE) (t : TA) : TE := fun σ H Q => tx σ H fun v H0 => v = .ref C ∧ tMkI C sp n 0 ix E t tNil σ H0 Q
theorem pe_mkV {n : Nat} {ix : List Nat} (M : Mk X.K C fA) (F : FnG X.prog X.w X.K X.mg X.base k fA fd ps sp) (hr : Rm (k + 1) X.A) (hb : KBd X.K fd ps [] n ix) (hn : PE X (.Name x p) tx)
    (ha : PA X (e :: es) t) (he : starEach (e :: es) X.env = (false, eval e X.env) :: starEach es X.env) (hpl : (backTo pos (starEach es X.env)).any (·.1) = false) :
    PE X (.Call (.Name x p) (e :: es) [] pos) (tMkV C sp n ix E tx t) := ⟨fun pins s σ H Q I h => by
  refine wpAny_Call_Name_kw (thn (hn.run pins s σ H _ I h) fun u s1 hv => ?_)
  obtain ⟨v, H1, I1, r1, ev, q⟩ := hv
  subst ev
  obtain rfl : u = Value.ref C := r1
  refine PySem.W.callWith_K (h₀ := X.base) I1.ok.mod.kin M.kp (thn (ha.run pos pins s1 σ H1 _ I1 q) fun us s2 hw => ?_) he hpl
  obtain ⟨vs, H2, I2, r, l1, l2, q2⟩ := hw
  exact ⟨I2.kIn, run_gmk (us := us) (ks := []) (ws := []) M F hr hb (by rw [← r.length]; exact l1) rfl I2 (by rw [List.append_nil]; exact r) (by rw [List.append_nil] at q2; exact q2)⟩⟩
def mkV (cn : Str) (nm : List Str) (F : List D → R (List D)) (n : Nat) (ix : List Nat) (fx : FE) (fa : FA) : FE := fun ρ S => fx ρ S >>= fun c => match c.1 with
  | .cls c' => if c' = cn then mkI cn nm F n 0 ix fa nilA ρ c.2 else R.bad
  | _ => R.bad
theorem pd_makeV {cn : Str} {nm : List Str} {F : List D → R (List D)} {n : Nat} {ix : List Nat} (hca : z.ca cn = some C) (M : Mk X.K C fA) (G : FnG X.prog X.w X.K X.mg X.base k fA fd ps (spI z.K z.ca z.tb C nm F)) (hr : Rm (k + 1) X.A) (hb : KBd X.K fd ps [] (n + 1) (0 :: ix.map (· + 1)))
    (hn : PD X z O EX (.Name x p) fx) (ha : PAd X z O EX (e :: es) fa) (he : starEach (e :: es) X.env = (false, eval e X.env) :: starEach es X.env := by rfl) (hpl : (backTo pos (starEach es X.env)).any (·.1) = false := by rfl) :
    PD X z O EX (.Call (.Name x p) (e :: es) [] pos) (mkV cn nm F n ix fx fa) := by
  obtain ⟨t, pt, q⟩ := ha.ex
  obtain ⟨tn, pn, qn⟩ := hn.ex
  refine ⟨_, pe_mkV (E := E0) M G hr hb pn pt he hpl, fun B P σ H ρ S Q hP rr hs => ?_⟩
  refine qn B P σ H ρ S _ hP rr ((sat_bind.mp hs).imp fun c hc v0 H0 g0 r0 hv0 => ?_)
  obtain ⟨c1, S0⟩ := c
  cases c1 with
  | cls c' =>
    dsimp only at hc
    split at hc
    · rename_i ec
      subst ec
      refine ⟨rp_cls hv0 hca, q B P σ H0 ρ S0 _ hP r0 ((sat_bind.mp hc).imp fun w hw vs H1 g1 r1 hv => ?_)⟩
      have hw : Sat (if w.1.length = n ∧ ([] : List D).length = 0 then noX (F (pick ix (w.1 ++ []))) >>= fun es => R.ok (D.ins c' nm es, w.2) else R.bad) (fun r => ∀ v H', Grow z H H' → Rel z B P σ H' ρ r.2 → Rp z.K z.ca (Frz H' (z.L B P)) v r.1 → Q v H') EX := hw
      split at hw
      · rename_i l
        refine ⟨by rw [hv.length, l.1], rfl, fun xa dx nx ndx nex => ?_⟩
        rw [pick_self]
        exact spI_of hca r1 (rpa_pick (hv.append .nil) ix) nx ndx nex (hw.imp fun r hr v H' g' r' hv' => hr v H' ((g0.trans g1).trans g') r' hv')
      · exact hw.elim
    · exact hc.elim
  | _ => exact hc.elim
def cmD (cn : Str) (F : List D → R D) (fa : FA) : FE := fun ρ S => fa ρ S >>= fun x => noX (F (.cls cn :: x.1)) >>= fun d => R.ok (d, x.2)
/-! ### own + -/
def addC (cn : Str) (F : List D → R D) (f g : FE) : FE := fun ρ S => f ρ S >>= fun x => g ρ x.2 >>= fun y => match x.1, y.1 with
  | .ins c _ _, .ins c' _ _ => if c = cn ∧ c' = cn then noX (F [x.1, y.1]) >>= fun d => R.ok (d, y.2) else R.bad
  | _, _ => R.bad
/-! ### what is wanted of them -/
@[simp ↓] theorem wp_addC {cn : Str} {F : List D → R D} {f g : FE} {ρ : Env} {S : List D} {Q : D × List D → Prop} {EX : EXT} : Sat (addC cn F f g ρ S) Q EX ↔ Sat (f ρ S >>= fun x => g ρ x.2 >>= fun y => match x.1, y.1 with
  | .ins c _ _, .ins c' _ _ => if c = cn ∧ c' = cn then noX (F [x.1, y.1]) >>= fun d => R.ok (d, y.2) else R.bad
  | _, _ => R.bad) Q EX := Iff.rfl
@[simp ↓] theorem wp_cmD {cn : Str} {F : List D → R D} {fa : FA} {ρ : Env} {S : List D} {Q : D × List D → Prop} {EX : EXT} : Sat (cmD cn F fa ρ S) Q EX ↔ Sat (fa ρ S >>= fun x => noX (F (.cls cn :: x.1)) >>= fun d => R.ok (d, x.2)) Q EX := Iff.rfl
@[simp ↓] theorem wp_mkV {cn : Str} {nm : List Str} {F : List D → R (List D)} {n : Nat} {ix : List Nat} {fx : FE} {fa : FA} {ρ : Env} {S : List D} {Q : D × List D → Prop} {EX : EXT} : Sat (mkV cn nm F n ix fx fa ρ S) Q EX ↔ Sat (fx ρ S >>= fun c => match c.1 with
  | .cls c' => if c' = cn then mkI cn nm F n 0 ix fa nilA ρ c.2 else R.bad
  | _ => R.bad) Q EX := Iff.rfl
@[simp] theorem clsConD_cls {c cn : Str} {d0 : D} : clsConD cn d0 (.cls c) = if c = cn then some d0 else none := rfl
@[simp] theorem revD_tup {ds : List D} : revD (.tup ds) = some (.tup ds.reverse) := rfl
end
end PL
set_option Elab.async false
set_option linter.all false
set_option maxRecDepth 100000
set_option maxHeartbeats 4000000
/-! min(t), a tuple of ints. -/
namespace PL
open PySem PySem.Spec PyProof.Rows L2 ClX
section
variable {X : Cx} {z : Z} {O : List Nat} {EX : EXT} {e : Expr} {fa : FA} {p pos : Pos}
def tupI : D → Option (List Int) | .tup ds => D.ints ds | _ => none
def minTD : List D → Option D | [x] => (tupI x).bind fun ns => if ns = [] then none else some (.int (leastI ns)) | _ => none
@[simp] theorem minTD_tup (a : List Int) : minTD [.tup (a.map D.int)] = if a = [] then none else some (.int (leastI a)) := by
  show ((D.ints (a.map D.int)).bind _) = _
  rw [D.ints_map]
  rfl
end
end PL
set_option Elab.async false
set_option linter.all false
set_option maxRecDepth 100000
set_option maxHeartbeats 4000000
/-! Own exceptions over ValueError, LookupError, ArithmeticError: made, their attributes stored. -/
namespace PL
open PySem PySem.Spec PyProof.Rows L2 Builtin.ObjectAttr
/-- what the written part says of such a class -/
structure OxC (K : PySem.W.Frag) (C : Addr) (bmB : List Value) (newId : String) : Prop where
  q : PySem.W.excInitIn K C bmB newId = true
  ov : PySem.W.excOver K C bmB = true
  hd : PySem.W.hasDictIn K C = true
  sa : PySem.W.findIn K (.ref C) "__setattr__" = some (some (.builtin "object.__setattr__"))
  exC : PySem.W.subIn K (.ref C) (.type "BaseException") = some true
  tyC : PySem.W.typeIn K (.ref C) = some (.type "type")
  kC : PySem.W.keepIn K (.ref C) = true
section
variable {X : Cx} {pins : List (Addr × Obj)} {σ : L2.St} {H : Hp} {s : Shared} {a C dx : Addr} {f : Str} {y : V} {u : Value} {fs : List (Str × V)} {Q : Unit → Shared → Prop} {E : Value → Shared → Prop} {A : Around} {bmB : List Value} {B newId initId : String}
/-- the exception at a has got its dict at dx -/
theorem Inv.exn_dict {hp h' : Heap} {g : Array GenState} {d : Drawn} {t t' : Nat} {os : OsState} {mA : Str → Option Value} {t1 : Addr} (I : Inv X pins σ H ⟨hp, g, d, t, os⟩) (e : H a = some (exo a C none)) (dn : hp.objs.size ≤ dx) (dne : dx ≠ a)
    (k : ∀ b o, b ≠ a → hp.get? b = some o → h'.get? b = some o) (hx : h'.get? a = some ({ cls := .ref C, dict := some dx, data := .fields #[.ref t1, .none, .none, .none, .bool false, .none] } : Obj)) (hn : h'.Ns1 dx mA) (rel : ∀ f, RelO (fs.lookup f) (mA f)) :
    Inv X pins σ (upd (upd H dx (exd dx fs)) a (exo a C (some dx))) ⟨h', g, d, t', os⟩ := by
  have nd := I.hok.fresh dn
  have lt : ∀ {b : Addr} {o : Obj}, hp.get? b = some o → b ≠ dx := fun {b o} w => Nat.ne_of_lt (Nat.lt_of_lt_of_le (Heap.lt_size w) dn)
  have nn : ∀ {b : Addr}, H b = none → b ≠ a := fun {b} n w => by
    subst w
    rw [n] at e
    cases e
  have go : ∀ {b : Addr} {o : HO}, b ≠ a → b ≠ dx → (upd (upd H dx (exd dx fs)) a (exo a C (some dx))) b = H b := fun {b o} h1 h2 => (upd_ne h1).trans (upd_ne h2)
  have U : Un X.fs [] H (upd (upd H dx (exd dx fs)) a (exo a C (some dx))) hp h' := by
    constructor
    · intro b o w n _ _
      exact k b o (nn n) w
    · intro b o w n _ _
      exact ⟨o.slots, k b o (nn n) w⟩
    · intro b o w n _
      rw [go (o := .own a) (nn n) (lt w)]
      exact n
    · intro b o w _
      by_cases hb : b = a
      · subst hb
        exact ⟨_, hx⟩
      · exact ⟨o, k b o hb w⟩
    · intro b xs w
      rw [go (o := .own a) (at_ne e w exo_tup) (ne_of_none w nd)]
      exact w
    · intro b o v w
      rw [go (o := .own a) (at_ne e w exo_frz) (ne_of_none w nd)]
      exact w
    · intro b ps w
      refine ⟨#[], ?_⟩
      rw [go (o := .own a) (at_ne e w exo_tbl) (ne_of_none w nd), w]
      simp
  refine I.un (t' := t') U fun b o w => ?_
  by_cases hb : b = a
  · subst hb
    rw [upd_same] at w
    cases w
    exact exo_ok hx
  · rw [upd_ne hb] at w
    by_cases hd : b = dx
    · subst hd
      rw [upd_same] at w
      cases w
      exact exd_ok hn rel
    · rw [upd_ne hd] at w
      have own_a : ∀ {c : Addr}, H c = some (.own b) → c ≠ a := fun {c} hc => at_ne e hc exo_own
      refine (I.hok b o w).stay (fun c v hc z => k c v (hc.elim (fun z9 => z9 ▸ hb) own_a) z) (fun c hc => ?_) fun c xs hc => ?_
      · rw [go (o := .own a) (own_a hc) (ne_of_none hc nd)]
        exact hc
      · rw [go (o := .own a) (at_ne e hc exo_tup) (ne_of_none hc nd)]
        exact hc
theorem taker_none {K : PySem.W.Frag} (hno : PySem.W.findIn K (.ref C) f = some none) : PySem.W.takerIn K C f = some none := by
  unfold PySem.W.takerIn
  rw [hno]
  rfl
/-- self.f = y, the first one -/
theorem xst_new (SF : StoreFacts B bmB "object.__setattr__" "object") (T : OxC X.K C bmB newId) (I : Inv X pins σ H s) (e : H a = some (exo a C none)) (hno : PySem.W.findIn X.K (.ref C) f = some none) (ry : RelV y u)
    (h : ∀ dx s', H dx = none → dx ≠ a → Inv X pins σ (upd (upd H dx (exd dx [(f, y)])) a (exo a C (some dx))) s' → Q () s') : wpAny (model X.prog X.w) A (setAttr (.ref a) f u) Q E s := by
  obtain ⟨t1, ho⟩ := exo_at I.hok e
  obtain ⟨hp, g, d, t, os⟩ := s
  have kin : X.K.In hp := I.kIn
  obtain ⟨cd, hc, hd'⟩ := PySem.W.any_some T.hd
  have iat : PySem.W.InstAt hp a ({ cls := .ref C, dict := none, data := .fields #[.ref t1, .none, .none, .none, .bool false, .none] } : Obj) C none := ⟨ho, rfl, rfl, trivial⟩
  have has : a ≠ hp.objs.size := Nat.ne_of_lt (Heap.lt_size ho)
  refine PySem.W.set_plain kin iat T.sa (PySem.W.osa_openX (s := ⟨hp, g, d, t + 1, os⟩) SF kin iat T.ov (taker_none hno) fun b => ?_)
  refine wpAny_bind (wpAny_pure (wpAny_bind (PySem.W.instanceDict_exc (t := t1) (c2 := .none) ho (PySem.W.looks_clsIn kin hc) hd' ?_)))
  show wpAny _ _ (storeInDict hp.objs.size (.str f t) f u) _ _ _
  have ho2 := Heap.get?_push_of_some (h := hp) (PySem.W.dictOf [] 0) ho
  refine PySem.HandSPX.store_in_new ⟨_, #[], _, (Heap.get?_update_ne _ _ _ _ has.symm).trans (Heap.get?_push_at rfl rfl), rfl, fun q hq => absurd hq (by simp), fun _ => rfl⟩ fun h' tk' hn hs => ?_
  have hx : h'.get? a = some ({ cls := .ref C, dict := some hp.objs.size, data := .fields #[.ref t1, .none, .none, .none, .bool false, .none] } : Obj) := (hs.2 a has).trans (Heap.get?_update_self _ ho2 rfl)
  refine h hp.objs.size _ (I.hok.fresh (Nat.le_refl _)) has.symm (Inv.exn_dict I e (Nat.le_refl _) has.symm (fun b o hb ho' => ?_) hx hn (relO_put (fs := []) ry fun g => True.intro))
  · exact (hs.2 b (Nat.ne_of_lt (Heap.lt_size ho'))).trans ((Heap.get?_update_ne _ _ _ _ hb).trans (Heap.get?_push_of_some _ ho'))
/-- .. a further one -/
theorem xst_old (SF : StoreFacts B bmB "object.__setattr__" "object") (T : OxC X.K C bmB newId) (I : Inv X pins σ H s) (e : H a = some (exo a C (some dx))) (ed : H dx = some (exd dx fs)) (hl : fs.length ≤ 900) (hno : PySem.W.findIn X.K (.ref C) f = some none) (ry : RelV y u)
    (h : ∀ s', Inv X pins σ (upd H dx (exd dx ((f, y) :: fs))) s' → Q () s') : wpAny (model X.prog X.w) A (setAttr (.ref a) f u) Q E s := by
  obtain ⟨t1, ho⟩ := exo_at I.hok e
  obtain ⟨mA, hns, rel⟩ := exd_at I.hok ed
  have hw := within_of rel
  obtain ⟨hp, g, d, t, os⟩ := s
  obtain ⟨oD, _, _, hoD, _, _⟩ := hns.count hw
  have kin : X.K.In hp := I.kIn
  obtain ⟨cd, hc, hd'⟩ := PySem.W.any_some T.hd
  have iat : PySem.W.InstAt hp a ({ cls := .ref C, dict := some dx, data := .fields #[.ref t1, .none, .none, .none, .bool false, .none] } : Obj) C (some oD) := ⟨ho, rfl, rfl, hoD⟩
  refine PySem.W.set_plain kin iat T.sa (PySem.W.osa_openX (s := ⟨hp, g, d, t + 1, os⟩) SF kin iat T.ov (taker_none hno) fun b => ?_)
  refine wpAny_bind (wpAny_pure (wpAny_bind (wpAny_bind (wpAny_loadPart ho (wpAny_bind ((PySem.W.looks_clsIn kin hc).here ?_))))))
  rw [hd']
  refine wpAny_pure (a := some dx) ?_
  show wpAny _ _ (storeInDict dx (.str f t) f u) _ _ _
  refine PySem.OEX.store_in_old hns hw (by rw [List.length_map]; omega) fun h' tk' hn hs => ?_
  refine h _ (I.write (t' := tk') (x := dx) (e := dx) (o := exd dx ((f, y) :: fs)) (by rw [ed]; exact True.intro) (.inl rfl) (fun b o hb z => (hs.2 b hb).trans z) ?_ (exd_ok hn (relO_put ry rel)))
  obtain ⟨o, _, _, w, _⟩ := hn
  exact ⟨o, w⟩
end
end PL
set_option Elab.async false
set_option linter.all false
set_option maxRecDepth 100000
set_option maxHeartbeats 4000000
namespace PL
open PySem PySem.Spec PyProof.Rows L2
/-- an exception class of one's own, as it is made: over the base B -/
structure OxB (K : PySem.W.Frag) (C : Addr) : Prop where
  ex : ∃ (B newId initId : String) (bmB : List Value), ExcBaseFacts B newId initId bmB ∧ StoreFacts B bmB "object.__setattr__" "object" ∧ OxC K C bmB newId
theorem OxB.exC {K : PySem.W.Frag} {C : Addr} (h : OxB K C) : PySem.W.subIn K (.ref C) (.type "BaseException") = some true := by
  obtain ⟨_, _, _, _, _, _, t⟩ := h.ex
  exact t.exC
theorem OxB.tyC {K : PySem.W.Frag} {C : Addr} (h : OxB K C) : PySem.W.typeIn K (.ref C) = some (.type "type") := by
  obtain ⟨_, _, _, _, _, _, t⟩ := h.ex
  exact t.tyC
theorem OxB.kC {K : PySem.W.Frag} {C : Addr} (h : OxB K C) : PySem.W.keepIn K (.ref C) = true := by
  obtain ⟨_, _, _, _, _, _, t⟩ := h.ex
  exact t.kC
theorem oxb_V {K : PySem.W.Frag} {C : Addr} (t : OxC K C [.type "ValueError", .type "Exception", .type "BaseException", .type "object"] "ValueError.__new__") : OxB K C := ⟨_, _, _, _, PySem.F.excBase_ValueError, PySem.F.store_ValueError, t⟩
theorem oxb_A {K : PySem.W.Frag} {C : Addr} (t : OxC K C [.type "ArithmeticError", .type "Exception", .type "BaseException", .type "object"] "ArithmeticError.__new__") : OxB K C := ⟨_, _, _, _, PySem.F.excBase_ArithmeticError, PySem.F.store_ArithmeticError, t⟩
/-- self.f = e of an exception that is being made -/
def tSlx (C : Addr) (f : Str) (to te : TE) : TS := fun D σ H => te σ H fun y H1 => to σ H1 fun x H2 => ∃ a : Addr, x = .ref a ∧
  ((H2 a = some (exo a C none) ∧ ∀ dx, H2 dx = none → dx ≠ a → D.nx σ (upd (upd H2 dx (exd dx [(f, y)])) a (exo a C (some dx)))) ∨
    ∃ (dx : Addr) (fs : List (Str × V)), H2 a = some (exo a C (some dx)) ∧ H2 dx = some (exd dx fs) ∧ fs.length ≤ 900 ∧ D.nx σ (upd H2 dx (exd dx ((f, y) :: fs))))
theorem ps_slx {X : Cx} {C : Addr} {o e : Expr} {to te : TE} {f : Str} {p1 pos : Pos} (T : OxB X.K C) (hno : PySem.W.findIn X.K (.ref C) f = some none) (ho : PE X o to) (he : PE X e te) (hs : swapsWith e (some (.Attribute o f p1)) pos.line X.env = pure false := by rfl) :
    PS X (.Assign [.Attribute o f p1] e pos) (tSlx C f to te) := by
  obtain ⟨B, newId, initId, bmB, FB, SF, T⟩ := T.ex
  constructor
  intro pins s σ H D I h
  refine plainObj_wpAny_Assign_Attribute (thn (he.run pins s σ H _ I h) fun v s1 hv => ?_) hs
  obtain ⟨y, H1, I1, r1, q1⟩ := hv
  refine thn (ho.run pins s1 σ H1 _ I1 q1) fun u s2 hu => ?_
  obtain ⟨x, H2, I2, r2, a, rfl, q⟩ := hu
  obtain rfl : u = Value.ref a := r2
  rcases q with ⟨ea, q⟩ | ⟨dx, fs, ea, ed, hl, q⟩
  · exact xst_new SF T I2 ea hno r1 fun dx s' n ne J => ⟨σ, _, J, q dx n ne⟩
  · exact xst_old SF T I2 ea ed hl hno r1 fun s' J => ⟨σ, _, J, q⟩
/-- an exception's __init__: the attributes fs, in the order in which they are stored -/
def spXI (C : Addr) (fs : List Str) : Sp := fun vs H Q _ => ∃ (a : Addr) (ws : List V), vs = .ref a :: ws ∧ ws.length = fs.length ∧ H a = some (exo a C none) ∧
  ∀ (dx : Addr) (H' : Hp), H dx = none → dx ≠ a → H' a = some (exo a C (some dx)) → H' dx = some (exd dx (fs.zip ws).reverse) → (∀ b, b ≠ a → b ≠ dx → H' b = H b) → Q .non H'
section
variable {Pg : Program} {w : World} {K : PySem.W.Frag} {mg : Str → Option Value} {base : Heap} {C fA : Addr} {fd : FuncData} {x qual sx f g : Str} {st : Stmt} {p0 p1 p2 p3 p4 p5 pos pos' : Pos}
theorem fn_x1 (T : OxB K C) (F : Fun K x qual st fA fd) (Sc : FnScope [sx, f] [sx, f] (defScope st)) (hb : defBody st = [.Assign [.Attribute (.Name sx p0) f p1] (.Name f p2) pos]) (hno : PySem.W.findIn K (.ref C) f = some none)
    (v0 : Vis (defScope st) sx) (v1 : Vis (defScope st) f) (d0 : (sx == ("__debug__" : Str)) = false) (d1 : (f == ("__debug__" : Str)) = false) (c0 : (sx == ("__classdict__" : Str)) = false) (c1 : (f == ("__classdict__" : Str)) = false) :
    FnG Pg w K mg base 1 fA fd [sx, f] (spXI C [f]) := by
  refine fn_body F Sc (fun vs H Q E h => ?_) (fun cdv A outer s H vs Q E hr hgu h => ?_)
  · obtain ⟨a, ws, rfl, hl, _⟩ := h
    simp [hl]
  · obtain ⟨a, ws, rfl, hl, ha, h⟩ := h
    match ws, hl with
    | [v], _ =>
      rw [hb]
      refine ⟨_, pss_one (ps_slx (T := T) hno (pe_var (i := 0) rfl v0 d0 c0) (pe_var (i := 1) rfl v1 d1 c1)), v, rfl, .ref a, rfl, a, rfl, .inl ⟨ha, fun dx n ne => ?_⟩⟩
      refine h dx _ n ne upd_same (by rw [upd_ne ne, upd_same]; rfl) fun b h1 h2 => ?_
      rw [upd_ne h1, upd_ne h2]
end
section
variable {X : Cx} {pins : List (Addr × Obj)} {σ : L2.St} {H : Hp} {s : Shared} {C fI : Addr} {k : Nat} {fd : FuncData} {ps nms : List Str}
/-- C(..), its own __init__ -/
theorem run_mkx {Q : XK} {us : List Value} {vs : List V} (T : OxB X.K C) (iC : PySem.W.findIn X.K (.ref C) "__init__" = some (some (.ref fI))) (hf : PySem.W.isFn X.K (.ref fI) = true) (G : FnG X.prog X.w X.K X.mg X.base k fI fd ps (spXI C nms)) (hr : Rm (k + 1) X.A) (hb : Binds X.K fd ps [])
    (I : Inv X pins σ H s) (r : Vals vs us) (hl : vs.length = nms.length) (hz : vs.length ≤ 1000) (q : ∀ (d : Addr) (H' : Hp), H d = none → H' d = some (.xd (nms.zip vs).reverse) → (∀ b, b ≠ d → H' b = H b) → Q (.ref C) (some d) H') :
    wpAny (model X.prog X.w) X.A (call (.ref C) us) (MkP X pins σ Q) X.xe s := by
  obtain ⟨B, newId, initId, bmB, FB, SF, T⟩ := T.ex
  obtain ⟨nm, N', qn, bs, bm, hdct, sn, sub, ab, col, dd, k0, k1, k2, k3, k5, hC, hT⟩ := PySem.W.excInit_of I.kIn T.q
  obtain ⟨oI, hoI, hcI⟩ : ∃ oI, s.heap.get? fI = some oI ∧ oI.cls = .type "function" := by
    obtain ⟨o, w1, w2⟩ := Option.map_eq_some_iff.mp (show (X.K.lookup fI).map (·.cls) = some (.type "function") from beq_iff_eq.mp hf)
    exact ⟨o, I.kIn _ _ w1, w2⟩
  have hlook := PySem.W.looks_findIn (M := model X.prog X.w) I.kIn iC
  have hbnd := fun self => PySem.W.exc_bind (M := model X.prog X.w) hoI hcI self
  have hlu := r.length
  obtain ⟨hp, g, dr, tk, os⟩ := s
  have le1 : hp.objs.size ≤ hp.objs.size + 1 := Nat.le_succ _
  have hn : H (hp.objs.size + 1) = none := I.hok.fresh le1
  have kk : ∀ b o, hp.get? b = some o → ((hp.push (PySem.W.kdv_tup us)).push (PySem.HandSPX.excO C hp.objs.size)).get? b = some o := fun b o w => Heap.get?_push_of_some _ (Heap.get?_push_of_some _ w)
  have ge : ((hp.push (PySem.W.kdv_tup us)).push (PySem.HandSPX.excO C hp.objs.size)).get? (hp.objs.size + 1) = some (PySem.HandSPX.excO C hp.objs.size) := by heap_get
  have I2 := I.laid (t' := tk) (a := hp.objs.size + 1) (o := exo (hp.objs.size + 1) C none) kk le1 (exo_ok ge)
  have r2 : Vals (V.ref (hp.objs.size + 1) :: vs) (Value.ref (hp.objs.size + 1) :: us) := .cons rfl r
  have hsp : spXI C nms (V.ref (hp.objs.size + 1) :: vs) (upd H (hp.objs.size + 1) (exo (hp.objs.size + 1) C none)) (fun v H2 => v = .non ∧ ∃ (d : Addr) (fs : List (Str × V)), H2 (hp.objs.size + 1) = some (exo (hp.objs.size + 1) C (some d)) ∧ H2 d = some (exd d fs) ∧ H d = none ∧ Q (.ref C) (some d) (upd (del H2 (hp.objs.size + 1)) d (.xd fs))) (fun _ _ _ => False) := by
    refine ⟨_, vs, rfl, hl, upd_same, fun dx H' n ne ha hd hk => ⟨rfl, dx, _, ha, hd, by rw [upd_ne ne] at n; exact n, ?_⟩⟩
    rw [upd_ne ne] at n
    refine q dx _ n upd_same fun b hb => ?_
    rw [upd_ne hb]
    by_cases hba : b = hp.objs.size + 1
    · rw [hba, del_same, hn]
    · rw [del_ne hba, hk b hba hb, upd_ne hba]
  have hgu : (X.A.under (.builtin "type.__call__" ⟨.ref C :: us, []⟩)).guards = some [] := by
    show pushGuards (Code.guards (.builtin "type.__call__" ⟨.ref C :: us, []⟩)) X.A.guards = some []
    rw [hr.g]
    first
      | rfl
      | simp [Code.guards, Code.isGuard, pushGuards]
  have hlen : (Value.ref (hp.objs.size + 1) :: us ++ []).length = ps.length := by
    have w1 := G.num _ _ _ _ hsp
    have w2 := r2.length
    rw [List.append_nil]
    omega
  have hbb := hb ⟨(hp.push (PySem.W.kdv_tup us)).push (PySem.HandSPX.excO C hp.objs.size), g, dr, tk, os⟩ (Value.ref (hp.objs.size + 1) :: us) I2.kIn hlen
  rw [List.append_nil] at hbb
  refine wpAny_call (PySem.HandSPX.call_own FB hT hC hlook hbnd (by rw [← hlu, sizeLine_eq]; omega) ?_)
  refine codeAny_mono (G.go _ X.stack _ _ ⟨Value.ref (hp.objs.size + 1) :: us, []⟩ _ _ _ (fun _ _ _ => False) (hr.r.make C us []) hgu (I2.env0.make C us []) hbb r2 hsp) fun r s' hq => ?_
  match r, hq with
  | .ok (.ret u), hq =>
    obtain ⟨v, H2, os2, bare2, un2, hok2, rv, ev, d, fs, ea, ed, hd1, q2⟩ := hq
    subst ev
    obtain ⟨h2, g2, d2, t2, os'⟩ := s'
    exact ⟨rv, mk_end (raises_own T.exC T.tyC) I le1 kk un2 hok2 os2 bare2 ea ed hd1 q2⟩
  | .ok .next, hq => exact False.elim hq
  | .ok .brk, hq => exact False.elim hq
  | .ok .cont, hq => exact False.elim hq
  | .error er, hq => exact False.elim hq
/-- the reading of C(e, ..), to be raised -/
def tMkx (C : Addr) (nms : List Str) (t : TA) : L2.St → Hp → XK → Prop := fun σ H Q => t σ H fun vs H1 => vs.length = nms.length ∧ vs.length ≤ 1000 ∧
  ∀ (d : Addr) (H' : Hp), H1 d = none → H' d = some (.xd (nms.zip vs).reverse) → (∀ b, b ≠ d → H' b = H1 b) → Q (.ref C) (some d) H'
theorem pmk_x {e : Expr} {es : List Expr} {t : TA} {x : Str} {p pos : Pos} (T : OxB X.K C) (iC : PySem.W.findIn X.K (.ref C) "__init__" = some (some (.ref fI))) (hf : PySem.W.isFn X.K (.ref fI) = true) (G : FnG X.prog X.w X.K X.mg X.base k fI fd ps (spXI C nms)) (hr : Rm (k + 1) X.A) (hb : Binds X.K fd ps [])
    (hg : Gl X x) (hm : X.mg x = some (.ref C)) (ha : PA X (e :: es) t) (hdb : (x == ("__debug__" : Str)) = false := by decide) (he : starEach (e :: es) X.env = (false, eval e X.env) :: starEach es X.env := by rfl) (hpl : (backTo pos (starEach es X.env)).any (·.1) = false := by rfl) :
    PMk X (.Call (.Name x p) (e :: es) [] pos) (tMkx C nms t) := by
  intro pins s σ H Q I h
  refine wpAny_Call_Name_kw (ld_glob I hg hm ?_ hdb)
  refine PySem.W.callWith_K (h₀ := X.base) I.ok.mod.kin T.kC (thn (ha.run pos pins s σ H _ I h) fun us s1 hv => ?_) he hpl
  obtain ⟨vs, H1, I1, r1, hl, hz, q⟩ := hv
  exact ⟨I1.kIn, run_mkx T iC hf G hr hb I1 r1 hl hz q⟩
end
end PL
set_option Elab.async false
set_option linter.all false
set_option maxRecDepth 100000
set_option maxHeartbeats 4000000
/-! Defs that may raise: what they promise, calls, raise. -/
namespace PL
open PySem PySem.Spec PyProof.Rows L2
/-- an exception in the air: its class, its dict -/
inductive Xp (K : PySem.W.Frag) (ca : Str → Option Addr) (F : Hp) : Value → Option Addr → Str → List Str → List D → Prop
  | d0 {C : Addr} {c : Str} : ca c = some C → Xp K ca F (.ref C) none c [] []
  | dD {C dx : Addr} {c : Str} {fs : List (Str × V)} {ds : List D} : ca c = some C → F dx = some (.xd fs) → RpA K ca F (fs.map (·.2)) ds → Xp K ca F (.ref C) (some dx) c (fs.map (·.1)) ds
theorem Xp.mono {K : PySem.W.Frag} {ca : Str → Option Addr} {F F' : Hp} (e : Ex F F') {cls : Value} {d : Option Addr} {c : Str} {ns : List Str} {vs : List D} (h : Xp K ca F cls d c ns vs) : Xp K ca F' cls d c ns vs := by
  cases h with
  | d0 h => exact .d0 h
  | dD h g r => exact .dD h (e _ _ g) (r.mono e)
/-- what is wished of an exception on its way out -/
def WD (z : Z) (EX : EXT) : WX := fun cls d σ H' => ∃ c ns vs, EX c ns vs ∧ Xp z.K z.ca (Frz H' (z.pls ++ z.bs)) cls d c ns vs ∧ (∀ a o, z.H0 a = some o → a ∉ z.pls → H' a = some o) ∧ LamX.Tabs z.tb H' ∧ ∀ i ∈ z.kp, σ[i]? = z.s0[i]?
theorem wd_of {z : Z} {EX : EXT} {B : List Addr} {P : List (Nat × Addr)} {σ : L2.St} {H : Hp} {ρ : Env} {S : List D} {cls : Value} {d : Option Addr} {c : Str} {ns : List Str} {vs : List D} (r : Rel z B P σ H ρ S) (hx : Xp z.K z.ca (Frz H (z.L B P)) cls d c ns vs) (he : EX c ns vs) : WD z EX cls d σ H := by
  refine ⟨c, ns, vs, he, hx.mono (frz_sub fun a ha => ?_), r.ex, r.tabs, r.xt.2⟩
  unfold Z.L
  rcases List.mem_append.mp ha with h | h
  · exact List.mem_append_right _ (List.mem_append_left _ h)
  · exact List.mem_append_right _ (List.mem_append_right _ (r.xt.1 a h).2)
/-- the same places under another way out -/
theorem Rel.way {K : PySem.W.Frag} {ca : Str → Option Addr} {H0 : Hp} {pl : Option (Nat × Addr)} {sh : List V → HO} {T : Tb} {b0 bs : List Addr} {t0 s0 : L2.St} {k0 kp : List Nat} {B : List Addr} {P : List (Nat × Addr)} {σ : L2.St} {H : Hp} {ρ : Env} {S : List D}
    (r : Rel ⟨K, ca, H0, pl, sh, T, b0, t0, k0⟩ B P σ H ρ S) (h1 : ∀ a ∈ bs, H0 a ≠ none ∧ a ∈ B) (h2 : ∀ i ∈ kp, σ[i]? = s0[i]?) : Rel ⟨K, ca, H0, pl, sh, T, bs, s0, kp⟩ B P σ H ρ S :=
  ⟨r.val, r.own, r.pool, r.nd, r.there, r.ex, r.new, r.len, r.tabs, ⟨h1, h2⟩⟩
theorem sat_ex {α : Type} {r : R α} {Q Q' : α → Prop} {EX EX' : EXT} (h : Sat r Q EX) (hq : ∀ a, Q a → Q' a) (he : ∀ c ns vs, EX c ns vs → EX' c ns vs) : Sat r Q' EX' := by
  cases r with
  | ok a => exact hq a h
  | exc c ns vs => exact he c ns vs h
  | bad => exact h
/-! ### promises -/
structure FnX (Pg : Program) (w : World) (K : PySem.W.Frag) (mg : Str → Option Value) (base : Heap) (k : Nat) (fA : Addr) (fd : FuncData) (ps : List Str) (sp : Sp) : Prop where
  num : ∀ vs H Q E, sp vs H Q E → vs.length = ps.length
  go : ∀ (A : Around) (up : List PySem.Env) (s : Shared) (H : Hp) (args : Args) (us : List Value) (vs : List V) (Q : VK) (E : XK), Room k A → A.guards = some [] → Env0 Pg w K mg base A up s H →
    BindsTo s fd args (ps.zip us) → Vals vs us → sp vs H Q E → codeAny (model Pg w) A (.call (.ref fA) args) (CR (L2.CX Pg w) up Pg w H s Q E) s
def spX (K : PySem.W.Frag) (ca : Str → Option Addr) (T : Tb) (F : List D → R D) : Sp := fun vs H Q E => ∃ ds B, B.Nodup ∧ (∀ b ∈ B, H b ≠ none) ∧ TIn T B H ∧ RpA K ca (Frz H B) vs ds ∧
  Sat (F ds) (fun d => ∀ v H', GrT T H H' → LamX.Tabs T H' → Rp K ca (Frz H' B) v d → Q v H') (fun c ns ws => ∀ cls d H', GrT T H H' → LamX.Tabs T H' → Xp K ca (Frz H' B) cls d c ns ws → E cls d H')
/-- an __init__ that may raise -/
def spIX (K : PySem.W.Frag) (ca : Str → Option Addr) (T : Tb) (C : Addr) (nm : List Str) (F : List D → R (List D)) : Sp := fun vs H Q E => ∃ x dx ws ds B, vs = .ref x :: ws ∧ H x = some (.ins C dx []) ∧ (x :: B).Nodup ∧ (∀ b ∈ B, H b ≠ none) ∧ TIn T B H ∧ RpA K ca (Frz H (x :: B)) ws ds ∧
  Sat (F ds) (fun es => ∀ H' xs, (∀ a o, a ≠ x → a ∉ tbs T → H a = some o → H' a = some o) → LamX.Tabs T H' → H' x = some (.ins C dx (nm.zip xs)) → xs.length = nm.length → RpA K ca (Frz H' (x :: B)) xs es → Q .non H')
    (fun c ns ws => ∀ cls d H', (∀ a o, a ≠ x → a ∉ tbs T → H a = some o → H' a = some o) → LamX.Tabs T H' → Xp K ca (Frz H' (x :: B)) cls d c ns ws → E cls d H')
section
variable {Pg : Program} {w : World} {K : PySem.W.Frag} {mg : Str → Option Value} {base : Heap} {j k : Nat} {fA : Addr} {fd : FuncData} {ps : List Str} {sp sp' : Sp} {ca : Str → Option Addr} {T : Tb}
/-- where it raises nothing -/
theorem FnX.calm (F : FnX Pg w K mg base k fA fd ps sp) (h : ∀ vs H Q E, sp' vs H Q E → sp vs H Q fun _ _ _ => False) : FnG Pg w K mg base k fA fd ps sp' :=
  ⟨fun vs H Q E q => F.num vs H Q _ (h vs H Q E q), fun A up s H args us vs Q E hr hgu e0 hb r q => codeAny_mono (F.go A up s H args us vs Q (fun _ _ _ => False) hr hgu e0 hb r (h vs H Q E q)) fun res s' hq => by
    match res, hq with
    | .ok (.ret u), hq => exact hq
    | .ok .next, hq => exact hq.elim
    | .ok .brk, hq => exact hq.elim
    | .ok .cont, hq => exact hq.elim
    | .error er, hq =>
      obtain ⟨_, _, _, _, _, _, _, _, _, _, _, _, z⟩ := hq
      exact z.elim⟩
theorem FnX.toG {F : List D → R D} (G : FnX Pg w K mg base k fA fd ps (spX K ca T F)) : FnG Pg w K mg base k fA fd ps (spF K ca T F) := G.calm fun vs H Q E q => by
  obtain ⟨ds, B, h1, h2, h3, h4, h5⟩ := q
  exact ⟨ds, B, h1, h2, h3, h4, sat_ex h5 (fun _ h => h) fun _ _ _ h => h.elim⟩
theorem FnX.toGI {C : Addr} {nm : List Str} {F : List D → R (List D)} (G : FnX Pg w K mg base k fA fd ps (spIX K ca T C nm F)) : FnG Pg w K mg base k fA fd ps (spI K ca T C nm F) := G.calm fun vs H Q E q => by
  obtain ⟨x, dx, ws, ds, B, h0, h1, h2, h3, h4, h5, h6⟩ := q
  exact ⟨x, dx, ws, ds, B, h0, h1, h2, h3, h4, h5, sat_ex h6 (fun _ h => h) fun _ _ _ h => h.elim⟩
/-- from the body -/
theorem fn_bodyX {x qual : Str} {st : Stmt} {N : List Str} (F : Fun K x qual st fA fd) (Sc : FnScope N ps (defScope st)) (num : ∀ vs H Q E, sp vs H Q E → vs.length = ps.length)
    (body : ∀ (cdv : Value) (A : Around) (up : List PySem.Env) (s : Shared) (H : Hp) (vs : List V) (Q : VK) (E : XK), Room k (A.deeper (envOfC qual (defScope st) s.heap.objs.size fA cdv)) → A.guards = some [] → sp vs H Q E →
      ∃ t, PSs (cxOf (L2.CX Pg w) Pg w K mg base N qual (defScope st) fA cdv A up s H E) (defBody st) t ∧ t { nx := fun _ H' => Q .non H', rt := Q } (L2.start N vs) H) : FnX Pg w K mg base (k + 1) fA fd ps sp := by
  obtain ⟨oc, od, kV, doc, pm, an, cdv, ct, osl, rfl, lk, hcd⟩ := F.ex
  refine ⟨num, fun A up s H args us vs Q E hr hgu e0 hb rv hsp => ?_⟩
  have hlen := num _ _ _ _ hsp
  have kin : K.In s.heap := e0.mod.kin.keeps fun b o e => (e0.bs b o e).1
  have nolim : s.heap.NoLimit := e0.mod.nolimit.keeps fun b o e => (e0.bs b o e).1
  have hvis : ∀ y ∈ ps.zip us, (defScope st).names.lookup y.1 = some .local ∨ ((defScope st).names.lookup y.1 = some .cell ∧ ((cellsFrom (s.heap.objs.size + 1) (defScope st).names []).lookup y.1).isSome = true) := by
    intro y hy
    obtain ⟨n, v⟩ := y
    exact (Sc.par n (List.of_mem_zip hy).1).imp id fun q => ⟨q, PySem.W.cellsFrom_some _ _ _ (.inl q)⟩
  refine codeAny_call_function hr.depth (kin _ _ lk) rfl Sc.co Sc.gen rfl (PySem.W.codeRec_of kin hcd) (hb _ _ _ _ (wpAny_newFunctionEnv_cells Sc.kind hvis fun env he s1 x => ?_))
  subst he
  obtain ⟨t, ht, hq⟩ := body cdv A up s H vs Q E (hr.deeper _) hgu hsp
  have J : Inv (cxOf (L2.CX Pg w) Pg w K mg base N qual (defScope st) fA cdv A up s H E) [] (L2.start N vs) H s1 := inv_start Sc hr.hd e0 hlen rv x
  refine ⟨nolim.keeps x.toInCall.keep, codeAny_func (wpAny_mono (ht.run [] s1 _ H _ J hq) (fun fl s' hs => ?_) fun e s' hs => hs)⟩
  cases fl with
  | ret u =>
    obtain ⟨v, σ', H', J2, r2, q2⟩ := hs
    exact ⟨v, H', J2.os, J2.bare, J2.base, J2.hok, r2, q2⟩
  | next =>
    obtain ⟨σ', H', J2, q2⟩ := hs
    exact ⟨V.non, H', J2.os, J2.bare, J2.base, J2.hok, rfl, q2⟩
  | brk =>
    obtain ⟨_, _, _, q2⟩ := hs
    exact q2.elim
  | cont =>
    obtain ⟨_, _, _, q2⟩ := hs
    exact q2.elim
theorem takes_cx {N : List Str} {qual : Str} {scope : Scope} {cdv : Value} {A : Around} {up : List PySem.Env} {s : Shared} {H : Hp} {E : XK} : L2.Takes (cxOf (L2.CX Pg w) Pg w K mg base N qual scope fA cdv A up s H E) (fun cls d _ H => E cls d H) := takes_of rfl rfl rfl rfl
theorem passes_cx {N : List Str} {qual : Str} {scope : Scope} {cdv : Value} {A : Around} {up : List PySem.Env} {s : Shared} {H : Hp} {E : XK} : PassesOwn (model Pg w) (A.deeper (envOfC qual scope s.heap.objs.size fA cdv)) (envOfC qual scope s.heap.objs.size fA cdv) (cxOf (L2.CX Pg w) Pg w K mg base N qual scope fA cdv A up s H E).xe := PassesOwn.leaving
/-- a def that may raise -/
theorem fn_x {x qual : Str} {st : Stmt} {N : List Str} {fs : FS} {OO : List Nat} (F : Fun K x qual st fA fd) (Sc : FnScope N ps (defScope st))
    (body : ∀ (cdv : Value) (A : Around) (outer : List PySem.Env) (s : Shared) (H : Hp) (E : XK) (bs : List Addr) (EX : EXT), Rm k (A.deeper (envOfC qual (defScope st) s.heap.objs.size fA cdv)) →
      L2.Takes (cxOf (L2.CX Pg w) Pg w K mg base N qual (defScope st) fA cdv A outer s H E) (WD ⟨K, ca, H, none, .lst, T, bs, [], []⟩ EX) →
      PSS (cxOf (L2.CX Pg w) Pg w K mg base N qual (defScope st) fA cdv A outer s H E) ⟨K, ca, H, none, .lst, T, bs, [], []⟩ [] OO [] EX (defBody st) fs) :
    FnX Pg w K mg base (k + 1) fA fd ps (spX K ca T (runF N.length ps.length fs)) := by
  refine fn_bodyX F Sc (fun vs H Q E h => ?_) (fun cdv A outer s H vs Q E hr hgu h => ?_)
  · obtain ⟨ds, B, _, _, _, hv, hs⟩ := h
    rw [hv.length]
    unfold runF at hs
    split at hs
    · assumption
    · exact hs.elim
  · obtain ⟨ds, B, hB, hb, ti, hv, hs⟩ := h
    have ef : ∀ H', Frz H' (tbs T ++ beside T B) = Frz H' B := fun H' => frz_congr fun a => beside_iff ti.sub a
    obtain ⟨t, p, q⟩ := (body cdv A outer s H E (beside T B) (fun c ns ws => ∀ cls d H', GrT T H H' → LamX.Tabs T H' → Xp K ca (Frz H' B) cls d c ns ws → E cls d H') ⟨hr, hgu⟩ (takes_cx.imp fun cls d σ H' h => by
      obtain ⟨c, ns, ws, he, hx, h1, h2, _⟩ := h
      exact he cls d H' (fun a o n e => h1 a o e n) h2 (ef H' ▸ hx))).ex
    refine ⟨t, p, ?_⟩
    unfold runF at hs
    split at hs
    · have r0 := (rel_start (N := N) hB hb ti hv).way (bs := beside T B) (s0 := []) (kp := []) (fun a ha => ⟨hb a (beside_mem.mp ha).1, ha⟩) (fun _ h => nomatch h)
      refine q (beside T B) [] (L2.start N vs) H (startE N.length ds) [] _ rfl r0 ((sat_bind.mp hs).imp fun r hr => ?_)
      obtain ⟨c, ρ1, S1⟩ := r
      cases c with
      | nx =>
        intro P' σ' H' h1 h2 h3
        have hr : ∀ v H', GrT T H H' → LamX.Tabs T H' → Rp K ca (Frz H' B) v .non → Q v H' := hr
        exact hr .non H' (fun a o n e => h3.ex a o e n) h3.tabs .non
      | rt d =>
        intro v H' hf
        have hr : ∀ v H', GrT T H H' → LamX.Tabs T H' → Rp K ca (Frz H' B) v d → Q v H' := hr
        exact hr v H' (fun a o n e => hf.ex a o e n) hf.tabs (ef H' ▸ hf.val)
      | bk => exact hr.elim
      | ct => exact hr.elim
    · exact hs.elim
/-- an __init__ that may raise -/
theorem fn_ix {x qual : Str} {st : Stmt} {C : Addr} {N nm : List Str} {fs : FS} {OO : List Nat} (F : Fun K x qual st fA fd) (Sc : FnScope N ps (defScope st)) (hN : 0 < N.length)
    (body : ∀ (cdv : Value) (A : Around) (outer : List PySem.Env) (s : Shared) (H : Hp) (E : XK) (p dx : Addr) (bs : List Addr) (EX : EXT), Rm k (A.deeper (envOfC qual (defScope st) s.heap.objs.size fA cdv)) →
      L2.Takes (cxOf (L2.CX Pg w) Pg w K mg base N qual (defScope st) fA cdv A outer s H E) (WD ⟨K, ca, H, some (0, p), fun xs => .ins C dx (nm.zip xs), T, bs, [], []⟩ EX) →
      PSS (cxOf (L2.CX Pg w) Pg w K mg base N qual (defScope st) fA cdv A outer s H E) ⟨K, ca, H, some (0, p), fun xs => .ins C dx (nm.zip xs), T, bs, [], []⟩ [] OO [] EX (defBody st) fs) :
    FnX Pg w K mg base (k + 1) fA fd ps (spIX K ca T C nm (runI nm N.length ps.length fs)) := by
  refine fn_bodyX F Sc (fun vs H Q E h => ?_) (fun cdv A outer s H vs Q E hr hgu h => ?_)
  · obtain ⟨p, dx, ws, ds, B, rfl, _, _, _, _, hv, hs⟩ := h
    unfold runI at hs
    split at hs
    · rw [List.length_cons, hv.length]; assumption
    · exact hs.elim
  · obtain ⟨p, dx, ws, ds, B, rfl, hp, hB, hb, ti, hv, hs⟩ := h
    have ef : ∀ H', Frz H' (([p] ++ tbs T) ++ beside T B) = Frz H' (p :: B) := fun H' => frz_congr fun a => besideP_iff (K := K) (ca := ca) (H := H') (sh := .lst) ti.sub a
    obtain ⟨t, pt, q⟩ := (body cdv A outer s H E p dx (beside T B) (fun c ns ws => ∀ cls d H', (∀ a o, a ≠ p → a ∉ tbs T → H a = some o → H' a = some o) → LamX.Tabs T H' → Xp K ca (Frz H' (p :: B)) cls d c ns ws → E cls d H') ⟨hr, hgu⟩ (takes_cx.imp fun cls d σ H' h => by
      obtain ⟨c, ns, ws, he, hx, h1, h2, _⟩ := h
      exact he cls d H' (fun a o n1 n2 e => h1 a o e (by simpa [Z.pls] using ⟨n1, n2⟩)) h2 (ef H' ▸ hx))).ex
    refine ⟨t, pt, ?_⟩
    unfold runI at hs
    split at hs
    · have r0 := (rel_startP (K := K) (ca := ca) (T := T) (sh := fun xs => .ins C dx (nm.zip xs)) (N := N) (xs := []) hN (by rw [hp, List.zip_nil_right]) hB hb ti .nil hv).way (bs := beside T B) (s0 := []) (kp := []) (fun a ha => ⟨hb a (beside_mem.mp ha).1, ha⟩) (fun _ h => nomatch h)
      refine q (beside T B) [] (L2.start N (.ref p :: ws)) H (startP N.length ds) [] _ rfl r0 ((sat_bind.mp hs).imp fun r hr => ?_)
      obtain ⟨c, ρ1, S1⟩ := r
      cases c with
      | nx =>
        intro P' σ' H' h1 h2 h3
        dsimp only at hr
        split at hr
        · rename_i l
          have hf := h3.fin (v := .non) (d := .non) .non
          obtain ⟨xs', e1, q1⟩ := hf.pool 0 p rfl
          exact hr H' xs' (fun a o n n2 e => hf.ex a o e (by simpa [Z.pls] using ⟨n, n2⟩)) hf.tabs e1 (by rw [q1.length]; exact l) (ef H' ▸ q1)
        · exact hr.elim
      | rt d => exact hr.elim
      | bk => exact hr.elim
      | ct => exact hr.elim
    · exact hs.elim
end
/-! ### raise X(..) -/
section
variable {X : Cx} {z : Z} {O OI OM OO OL : List Nat} {EX : EXT} {a b c e o : Expr} {es : List Expr} {f g h : FE} {fa ga fk : FA} {fs gs : FS} {pos p apos : Pos} {st : Stmt} {sts : List Stmt}
variable {B : List Addr} {P : List (Nat × Addr)} {σ σ' : L2.St} {H H' : Hp} {ρ ρ' : Env} {S S' : List D} {x m : Str}
variable {k : Nat} {fA C fI : Addr} {fd : FuncData} {ps ks nms : List Str} {ds : List Value} {dvs : List V} {dds : List D} {kws : List Keyword}
def raiseS (c : Str) (nms : List Str) (fa : FA) : FS := fun ρ S => fa ρ S >>= fun x => if x.1.length = nms.length ∧ x.1.length ≤ 1000 then R.exc c nms.reverse x.1.reverse else R.bad
/-- what has been made -/
theorem xp_made {cn : Str} {K : PySem.W.Frag} {ca : Str → Option Addr} {L : List Addr} {d : Addr} {vs : List V} {ds : List D} (hca : ca cn = some C) (n : d ∉ L) (hd : H' d = some (.xd (nms.zip vs).reverse)) (hk : Ex (Frz H L) (Frz H' L)) (hl : vs.length = nms.length) (hv : RpA K ca (Frz H L) vs ds) :
    Xp K ca (Frz H' L) (.ref C) (some d) cn nms.reverse ds.reverse := by
  have e1 : (nms.zip vs).reverse.map (·.1) = nms.reverse := by rw [List.map_reverse, List.map_fst_zip (by omega)]
  have e2 : (nms.zip vs).reverse.map (·.2) = vs.reverse := by rw [List.map_reverse, List.map_snd_zip (by omega)]
  have q := Xp.dD (K := K) (F := Frz H' L) (c := cn) (ds := ds.reverse) hca (frz_of hd n) (by rw [e2]; exact (hv.mono hk).reverse)
  rw [e1] at q
  exact q
theorem psd_raise {cn : Str} (hc : X.calm = true) (tk : L2.Takes X (WD z EX)) (hca : z.ca cn = some C) (T : OxB X.K C) (iC : PySem.W.findIn X.K (.ref C) "__init__" = some (some (.ref fI))) (hf : PySem.W.isFn X.K (.ref fI) = true) (G : FnG X.prog X.w X.K X.mg X.base k fI fd ps (spXI C nms)) (hr : Rm (k + 1) X.A) (hb : Binds X.K fd ps [])
    (hm : X.mg x = some (.ref C)) (ha : PAd X z O EX (e :: es) fa) (hg : Gl X x := by rfl) (hdb : (x == ("__debug__" : Str)) = false := by decide) (he : starEach (e :: es) X.env = (false, eval e X.env) :: starEach es X.env := by rfl) (hpl : (backTo pos (starEach es X.env)).any (·.1) = false := by rfl) :
    PSd X z O OO OL EX (.Raise (some (.Call (.Name x p) (e :: es) [] pos)) none apos) (raiseS cn nms fa) := by
  obtain ⟨t, pt, q⟩ := ha.ex
  refine ⟨_, ps_raise hc tk (pmk_x T iC hf G hr hb hg hm pt hdb he hpl), fun B P σ H ρ S D' hP rr hs => ?_⟩
  refine q B P σ H ρ S _ hP rr ((sat_bind.mp hs).imp fun w hw vs H1 g1 r1 hv => ?_)
  split at hw
  · rename_i l
    refine ⟨by rw [hv.length]; exact l.1, by rw [hv.length]; exact l.2, fun d H' n hd hk => ?_⟩
    have e1 : Ex H1 H' := fun b u h => by
      rw [hk b (ne_of_none h n)]
      exact h
    have r2 := r1.grow e1
    exact wd_of r2 (xp_made hca (r1.fresh n) hd (Grow.of (z := z) e1).frz (by rw [hv.length]; exact l.1) hv) hw
  · exact hw.elim
/-! ### calls -/
theorem run_x {pins : List (Addr × Obj)} {s : Shared} {Q : VK} {W : WX} {sp : Sp} {args : Args} {us : List Value} {vs : List V} (F : FnX X.prog X.w X.K X.mg X.base k fA fd ps sp) (hr : Rm k X.A) (tk : L2.Takes X W) (hb : BindsTo s fd args (ps.zip us)) (I : Inv X pins σ H s) (r : Vals vs us) (h : sp vs H Q fun cls d H' => W cls d σ H') :
    wpAny (model X.prog X.w) X.A (call (.ref fA) args.pos args.kw) (EP X pins σ Q) X.xe s := by
  refine wpAny_call (codeAny_mono (F.go X.A X.stack s H args us vs Q _ hr.r hr.g I.env0 hb r h) fun res s' hq => ?_)
  match res, hq with
  | .ok (.ret u), hq => exact I.after hq
  | .ok .next, hq => exact False.elim hq
  | .ok .brk, hq => exact False.elim hq
  | .ok .cont, hq => exact False.elim hq
  | .error er, hq => exact tk _ _ (XE.of_call I (fun _ _ _ z => z) hq)
def callX (F : List D → R D) (dds : List D) (fa : FA) : FE := fun ρ S => fa ρ S >>= fun x => F (x.1 ++ dds) >>= fun d => R.ok (d, x.2)
theorem spX_of {F : List D → R D} {vs : List V} {xs : List D} {Q : VK} (r1 : Rel z B P σ H ρ S) (hv : RpA z.K z.ca (Frz H (z.L B P)) vs xs)
    (hs : Sat (F xs >>= fun d => R.ok (d, S)) (fun r => ∀ v H', Grow z H H' → Rel z B P σ H' ρ r.2 → Rp z.K z.ca (Frz H' (z.L B P)) v r.1 → Q v H') EX) : spX z.K z.ca z.tb F vs H Q fun cls d H' => WD z EX cls d σ H' := by
  refine ⟨xs, z.L B P, r1.nd, fun b hb => r1.lt hb, r1.tin, hv, ?_⟩
  exact sat_ex (sat_bind.mp hs) (fun d hd v H' e' tt hv' => hd v H' e'.grow (r1.growT e' tt) hv') fun c ns ws he cls d H' e' tt hx => wd_of (r1.growT e' tt) hx he
def tCallX (sp : Sp) (dvs : List V) (W : WX) (t : TA) : TE := fun σ H Q => t σ H fun vs H1 => sp (vs ++ dvs) H1 Q fun cls d H' => W cls d σ H'
theorem pd_callX {F : List D → R D} (tk : L2.Takes X (WD z EX)) (G : FnX X.prog X.w X.K X.mg X.base k fA fd ps (spX z.K z.ca z.tb F)) (hr : Rm k X.A) (hm : X.mg x = some (.ref fA)) (hk : PySem.W.keepIn X.K (.ref fA) = true) (hb : Binds X.K fd ps ds) (hd : Vals dvs ds) (hdd : ∀ F', RpA z.K z.ca F' dvs dds)
    (ha : PAd X z O EX (e :: es) fa) (hg : Gl X x := by rfl) (hdb : (x == ("__debug__" : Str)) = false := by decide) (he : starEach (e :: es) X.env = (false, eval e X.env) :: starEach es X.env := by rfl) (hpl : (backTo pos (starEach es X.env)).any (·.1) = false := by rfl) :
    PD X z O EX (.Call (.Name x p) (e :: es) [] pos) (callX F dds fa) := by
  obtain ⟨t, pt, q⟩ := ha.ex
  have pe : PE X (.Call (.Name x p) (e :: es) [] pos) (tCallX (spX z.K z.ca z.tb F) dvs (WD z EX) t) := ⟨fun pins s σ H Q I h => by
    refine wpAny_Call_Name_kw (ld_glob I hg hm (PySem.W.callWith_K (h₀ := X.base) I.ok.mod.kin hk (thn (pt.run pos pins s σ H _ I h) fun us s1 hv => ?_) he hpl) hdb)
    obtain ⟨vs, H1, I1, r, q⟩ := hv
    have r2 := r.append hd
    exact ⟨I1.kIn, run_x (args := ⟨us, []⟩) G hr tk (hb s1 us I1.kIn (by rw [← r2.length]; exact G.num _ _ _ _ q)) I1 r2 q⟩⟩
  refine ⟨_, pe, fun B P σ H ρ S Q hP rr hs => ?_⟩
  refine q B P σ H ρ S _ hP rr ((sat_bind.mp hs).imp fun w hw vs H1 g1 r1 hv => ?_)
  exact spX_of r1 (hv.append (hdd _)) (hw.imp fun r hr v H' g' r' hv' => hr v H' (g1.trans g') r' hv')
end
end PL
set_option Elab.async false
set_option linter.all false
set_option maxRecDepth 100000
set_option maxHeartbeats 4000000
/-! New instances whose __init__ may raise; keywords. -/
namespace PL
open PySem PySem.Spec PyProof.Rows L2
section
variable {X : Cx} {z : Z} {O OI OM OO OL : List Nat} {EX : EXT} {a b c e o : Expr} {es : List Expr} {f g h : FE} {fa ga fk : FA} {fs gs : FS} {pos p apos : Pos} {st : Stmt} {sts : List Stmt}
variable {B : List Addr} {P : List (Nat × Addr)} {σ σ' : L2.St} {H H' : Hp} {ρ ρ' : Env} {S S' : List D} {x m : Str} {pins : List (Addr × Obj)} {s : Shared} {Q : VK} {W : WX} {sp : Sp} {t tk : TA}
variable {k : Nat} {fA C fI : Addr} {fd : FuncData} {ps ks nms : List Str} {ds : List Value} {dvs : List V} {dds : List D} {kws : List Keyword}
theorem run_xmk {us ws : List Value} {vs : List V} {ix : List Nat} {n : Nat} (M : Mk X.K C fA) (F : FnX X.prog X.w X.K X.mg X.base k fA fd ps sp) (hr : Rm (k + 1) X.A) (tk : L2.Takes X W) (hb : KBd X.K fd ps ks n ix) (l1 : us.length + 1 = n) (l2 : ws.length = ks.length)
    (I : Inv X pins σ H s) (r : Vals vs (us ++ ws)) (h : ∀ xa dx, H xa = none → H dx = none → dx ≠ xa → sp (pick ix (.ref xa :: vs)) (upd (upd H dx (.own xa)) xa (.ins C dx [])) (fun v H2 => v = .non ∧ Q (.ref xa) H2) fun cls d H' => W cls d σ H') :
    wpAny (model X.prog X.w) X.A (call (.ref C) us (ks.zip ws)) (EP X pins σ Q) X.xe s := by
  have hnew := h (s.heap.objs.size + 1) s.heap.objs.size (I.hok.fresh (Nat.le_succ _)) (I.hok.fresh (Nat.le_refl _)) (Nat.ne_of_lt (Nat.lt_succ_self _))
  have I2 := Inv.made (C := C) I
  have rn : Vals (V.ref (s.heap.objs.size + 1) :: vs) ((Value.ref (s.heap.objs.size + 1) :: us) ++ ws) := .cons rfl r
  have hgu : (X.A.under (.builtin "type.__call__" ⟨.ref C :: us, ks.zip ws⟩)).guards = some [] := by
    show pushGuards (Code.guards (.builtin "type.__call__" ⟨.ref C :: us, ks.zip ws⟩)) X.A.guards = some []
    rw [hr.g]
    first
      | rfl
      | simp [Code.guards, Code.isGuard, pushGuards]
  refine wpAny_call (make_map (f := fA) I.kIn M.makes M.init (beq_iff_eq.mp M.fn) (codeAny_mono (F.go _ X.stack _ _ ⟨Value.ref (s.heap.objs.size + 1) :: us, ks.zip ws⟩ _ _ _ _ (hr.r.make C us (ks.zip ws)) hgu
    (I2.env0.make C us (ks.zip ws)) (hb.to _ (Value.ref (s.heap.objs.size + 1) :: us) ws I2.kIn l1 l2) (vals_pick rn ix) hnew) fun res s' hq => ?_))
  match res, hq with
  | .ok (.ret u), hq =>
    obtain ⟨v, H', I3, rv, ev, q3⟩ := I2.after hq
    subst ev
    exact ⟨rv, V.ref (s.heap.objs.size + 1), H', I3, rfl, q3⟩
  | .ok .next, hq => exact False.elim hq
  | .ok .brk, hq => exact False.elim hq
  | .ok .cont, hq => exact False.elim hq
  | .error er, hq => exact tk _ _ (XE.of_call I2 (fun _ _ _ z => z) hq)
def tMkIX (C : Addr) (sp : Sp) (n m : Nat) (ix : List Nat) (W : WX) (t tk : TA) : TE := fun σ H Q => t σ H fun vs H1 => tk σ H1 fun zs H2 => vs.length + 1 = n ∧ zs.length = m ∧ ∀ xa dx, H2 xa = none → H2 dx = none → dx ≠ xa →
  sp (pick ix (.ref xa :: (vs ++ zs))) (upd (upd H2 dx (.own xa)) xa (.ins C dx [])) (fun v H3 => v = .non ∧ Q (.ref xa) H3) fun cls d H' => W cls d σ H'
theorem pe_xmk {n : Nat} {ix : List Nat} (M : Mk X.K C fA) (F : FnX X.prog X.w X.K X.mg X.base k fA fd ps sp) (hr : Rm (k + 1) X.A) (tk : L2.Takes X W) (hg : Gl X x) (hm : X.mg x = some (.ref C)) (hb : KBd X.K fd ps [] n ix)
    (ha : PA X (e :: es) t) (hdb : (x == ("__debug__" : Str)) = false) (he : starEach (e :: es) X.env = (false, eval e X.env) :: starEach es X.env) (hpl : (backTo pos (starEach es X.env)).any (·.1) = false) :
    PE X (.Call (.Name x p) (e :: es) [] pos) (tMkIX C sp n 0 ix W t tNil) := ⟨fun pins s σ H Q I h => by
  refine wpAny_Call_Name_kw (ld_glob I hg hm (PySem.W.callWith_K (h₀ := X.base) I.ok.mod.kin M.kp (thn (ha.run pos pins s σ H _ I h) fun us s1 hv => ?_) he hpl) hdb)
  obtain ⟨vs, H1, I1, r, l1, l2, q⟩ := hv
  exact ⟨I1.kIn, run_xmk (us := us) (ks := []) (ws := []) M F hr tk hb (by rw [← r.length]; exact l1) rfl I1 (by rw [List.append_nil]; exact r) (by rw [List.append_nil] at q; exact q)⟩⟩
def mkIX (c : Str) (nm : List Str) (F : List D → R (List D)) (n m : Nat) (ix : List Nat) (fa fk : FA) : FE := fun ρ S => fa ρ S >>= fun x => fk ρ x.2 >>= fun y => if x.1.length = n ∧ y.1.length = m then F (pick ix (x.1 ++ y.1)) >>= fun es => R.ok (.ins c nm es, y.2) else R.bad
theorem spIX_of {cn : Str} {nm : List Str} {F : List D → R (List D)} {vs : List V} {xs : List D} {Q : VK} {xa dx : Addr} (hca : z.ca cn = some C) (r1 : Rel z B P σ H ρ S) (hv : RpA z.K z.ca (Frz H (z.L B P)) vs xs)
    (nx : H xa = none) (ndx : H dx = none) (nex : dx ≠ xa)
    (hs : Sat (F xs >>= fun es => R.ok (D.ins cn nm es, S)) (fun r => ∀ v H', Grow z H H' → Rel z B P σ H' ρ r.2 → Rp z.K z.ca (Frz H' (z.L B P)) v r.1 → Q v H') EX) :
    spIX z.K z.ca z.tb C nm F (.ref xa :: vs) (upd (upd H dx (.own xa)) xa (.ins C dx [])) (fun v H2 => v = .non ∧ Q (.ref xa) H2) fun cls d H' => WD z EX cls d σ H' := by
  have e1 : Ex H (upd (upd H dx (.own xa)) xa (.ins C dx [])) := fun a u h => by
    rw [upd_ne (ne_of_none h nx), upd_ne (ne_of_none h ndx)]
    exact h
  have hn := r1.fresh nx
  have m : Ex (Frz H (z.L B P)) (Frz (upd (upd H dx (.own xa)) xa (.ins C dx [])) (xa :: z.L B P)) := fun a u h => by
    have ha := frz_ex _ _ _ _ h
    refine frz_of (e1 a u ha) fun q => ?_
    rcases List.mem_cons.mp q with q | q
    · rw [q, nx] at ha; cases ha
    · unfold Frz at h
      rw [if_pos q] at h
      cases h
  have r9 := r1.grow e1
  have e2 : ∀ {H' : Hp}, (∀ a o, a ≠ xa → a ∉ tbs z.tb → (upd (upd H dx (.own xa)) xa (.ins C dx [])) a = some o → H' a = some o) → GrT z.tb H H' := fun {H'} e' a u n h => e' a u (ne_of_none h nx) n (e1 a u h)
  refine ⟨xa, dx, vs, xs, z.L B P, rfl, upd_same, List.nodup_cons.mpr ⟨hn, r1.nd⟩, fun b hb => r9.lt hb, r9.tin, hv.mono m, ?_⟩
  refine sat_ex (sat_bind.mp hs) (fun es hes H' ys e' tt hx hl hys => ⟨rfl, ?_⟩) fun c ns ws he cls d H' e' tt hx => ?_
  · have hnm : (nm.zip ys).map (·.1) = nm := List.map_fst_zip (by omega)
    have hys2 : (nm.zip ys).map (·.2) = ys := List.map_snd_zip (by omega)
    have := hes (.ref xa) H' (e2 e').grow (r1.growT (e2 e') tt)
    refine this ?_
    have q := Rp.ins (K := z.K) (F := Frz H' (z.L B P)) (c := cn) (frz_of hx hn) hca (by rw [hys2]; exact hys.mono (frz_sub fun a ha => List.mem_cons_of_mem _ ha))
    rw [hnm] at q
    exact q
  · exact wd_of (r1.growT (e2 e') tt) (hx.mono (frz_sub fun a ha => List.mem_cons_of_mem _ ha)) he
theorem pd_makeX {cn : Str} {nm : List Str} {F : List D → R (List D)} {n : Nat} {ix : List Nat} (tk : L2.Takes X (WD z EX)) (hca : z.ca cn = some C) (M : Mk X.K C fA) (G : FnX X.prog X.w X.K X.mg X.base k fA fd ps (spIX z.K z.ca z.tb C nm F)) (hr : Rm (k + 1) X.A) (hm : X.mg x = some (.ref C)) (hb : KBd X.K fd ps [] (n + 1) (0 :: ix.map (· + 1)))
    (ha : PAd X z O EX (e :: es) fa) (hg : Gl X x := by rfl) (hdb : (x == ("__debug__" : Str)) = false := by decide) (he : starEach (e :: es) X.env = (false, eval e X.env) :: starEach es X.env := by rfl) (hpl : (backTo pos (starEach es X.env)).any (·.1) = false := by rfl) :
    PD X z O EX (.Call (.Name x p) (e :: es) [] pos) (mkIX cn nm F n 0 ix fa nilA) := by
  obtain ⟨t, pt, q⟩ := ha.ex
  refine ⟨_, pe_xmk M G hr tk hg hm hb pt hdb he hpl, fun B P σ H ρ S Q hP rr hs => ?_⟩
  refine q B P σ H ρ S _ hP rr ((sat_bind.mp hs).imp fun w hw vs H1 g1 r1 hv => ?_)
  have hw : Sat (if w.1.length = n ∧ ([] : List D).length = 0 then F (pick ix (w.1 ++ [])) >>= fun es => R.ok (D.ins cn nm es, w.2) else R.bad) (fun r => ∀ v H', Grow z H H' → Rel z B P σ H' ρ r.2 → Rp z.K z.ca (Frz H' (z.L B P)) v r.1 → Q v H') EX := hw
  split at hw
  · rename_i l
    refine ⟨by rw [hv.length, l.1], rfl, fun xa dx nx ndx nex => ?_⟩
    rw [pick_self]
    exact spIX_of hca r1 (rpa_pick (hv.append .nil) ix) nx ndx nex (hw.imp fun r hr v H' g' r' hv' => hr v H' (g1.trans g') r' hv')
  · exact hw.elim
end
end PL
set_option Elab.async false
set_option linter.all false
set_option maxRecDepth 100000
set_option maxHeartbeats 4000000
/-! try: .. except .. as e: .. -/
namespace PL
open PySem PySem.Spec PyProof.Rows L2
theorem flying_on {B h h' : Heap} {l : List PySem.Env} {a : Addr} {Zp : Obj → Prop} (f : HandSPX.FlyingZ B l a Zp h) (k : ∀ b o, h.get? b = some o → h'.get? b = some o) : HandSPX.FlyingZ B l a Zp h' := by
  obtain ⟨st, nb, ff, oe, vs, T, oT, ts, q1, q2, q3, q4, q5, q6, q7, q8, q9⟩ := f
  exact ⟨fun b o w => k b o (st b o w), nb, ff.of_keeps fun b o w _ => ⟨o, k b o w, rfl⟩, oe, vs, T, oT, ts, k _ _ q1, q2, q3, q4, q5, q6, k _ _ q7, q8, q9⟩
section
variable {X : Cx} {pins : List (Addr × Obj)} {σ : L2.St} {H : Hp} {sI s s' : Shared} {B : Heap} {a C : Addr} {d : Option Addr}
/-- the exception has landed, and is tracked from here on -/
theorem landX {oe : Obj} {fv : Array Value} (I : Inv X pins σ H sI) (nb : ∀ b o, sI.heap.get? b = some o → b ∉ frs X.stack → B.get? b = some o) (st : B.StaysIn s'.heap) (up : sI.heap.UpToSlots s'.heap) (os : s'.os = sI.os) (ag : AllBare s'.gens)
    (na : H a = none) (nI : sI.heap.get? a = none) (hx : s'.heap.get? a = some oe) (hc : oe.cls = .ref C) (hd : oe.dict = d) (hf : oe.data = .fields fv) : Inv X pins σ (upd H a (exT a C d)) s' := by
  have J := I.landed nb st up os ag
  have fr : ∀ b ∈ frs X.stack, ∀ o, sI.heap.get? b = some o → ∃ sl, s'.heap.get? b = some { o with slots := sl } := by
    intro b hb o w
    obtain ⟨_, o', w', nf⟩ := I.stack.mem hb
    rw [w] at w'
    cases w'
    exact up b o w nf
  have U : Un (frs X.stack) [] H (upd H a (exT a C d)) sI.heap s'.heap := by
    constructor
    · intro b o w _ hb _
      exact st b o (nb b o w hb)
    · intro b o w _ hb _
      exact fr b hb o w
    · intro b o w n _
      rw [upd_ne fun z => by rw [z, nI] at w; cases w]
      exact n
    · intro b o w _
      by_cases hb : b ∈ frs X.stack
      · obtain ⟨sl, q⟩ := fr b hb o w
        exact ⟨_, q⟩
      · exact ⟨o, st b o (nb b o w hb)⟩
    · intro b xs w
      rw [upd_ne (ne_of_none w na)]
      exact w
    · intro b o v w
      rw [upd_ne (ne_of_none w na)]
      exact w
    · intro b ps w
      refine ⟨#[], ?_⟩
      rw [upd_ne (ne_of_none w na), w]
      simp
  refine I.call' (ch := []) os U (fun b o w => ?_) ag fun _ z => nomatch z
  by_cases hb : b = a
  · subst hb
    rw [upd_same] at w
    cases w
    refine ⟨⟨oe, fv, hx, hc, hd, hf⟩, ⟨oe, hx⟩, fun h1 h2 z k => ?_⟩
    obtain ⟨o, f, e1, e2, e3, e4⟩ := z
    exact ⟨o, f, k _ e1, e2, e3, e4⟩
  · rw [upd_ne hb] at w
    refine (J.hok b o w).stay (fun _ _ _ q => q) (fun c q => ?_) fun c xs q => ?_
    · rw [upd_ne (ne_of_none q na)]
      exact q
    · rw [upd_ne (ne_of_none q na)]
      exact q
theorem Inv.hot (I : Inv X pins σ H s) (a : Addr) : Inv (X.suite a (X.pn ++ pins)) [] σ H s :=
  ⟨I.ok.suite a _, I.os, I.bare, I.base, I.loc, I.cell, I.free, I.freeC, fun p hp => I.pin p (by rw [List.append_nil] at hp; exact hp), I.hok, I.len⟩
theorem Inv.cool {pn' : List (Addr × Obj)} (I : Inv (X.suite a (X.pn ++ pins)) pn' σ H s) (ok : X.Ok) : Inv X pins σ H s :=
  ⟨ok, I.os, I.bare, I.base, I.loc, I.cell, I.free, I.freeC, fun p hp => I.pin p (List.mem_append_left _ hp), I.hok, I.len⟩
/-- what an except clause asks: f tells the answer by the exception's class -/
def CTest (X : Cx) (te : Expr) (f : Value → Option Bool) : Prop := ∀ (a : Addr) (pn : List (Addr × Obj)) (σ : L2.St) (H : Hp) (s : Shared) (cls : Value) (b : Bool) (Q : Value → Shared → Prop) (E : Value → Shared → Prop), Inv (X.suite a pn) [] σ H s → f cls = some b →
  PySem.W.Looks (model X.prog X.w) s.heap (typeOf (.ref a)) cls → (∀ (c : Value) (h' : Heap), (∀ q o, s.heap.get? q = some o → h'.get? q = some o) → PySem.W.Looks (model X.prog X.w) h' (excMatches (.ref a) c) b → Q c { s with heap := h' }) →
  wpAny (model X.prog X.w) (X.A.mark (some (.ref a))) (eval te X.env) Q E s
theorem ctest_three {x1 x2 x3 : Str} {c1 c2 c3 : Addr} {p1 p2 p3 p : Pos} {kk : Nat} (g1 : Gl X x1) (g2 : Gl X x2) (g3 : Gl X x3) (m1 : X.mg x1 = some (.ref c1)) (m2 : X.mg x2 = some (.ref c2)) (m3 : X.mg x3 = some (.ref c3))
    (d1 : (x1 == ("__debug__" : Str)) = false) (d2 : (x2 == ("__debug__" : Str)) = false) (d3 : (x3 == ("__debug__" : Str)) = false) :
    CTest X (.Tuple [.Name x1 p1, .Name x2 p2, .Name x3 p3] kk p) fun cls => PySem.W.exmAny X.K cls [.ref c1, .ref c2, .ref c3] := by
  intro a pn σ H s cls b Q E I hf LT h
  refine wpAny_Tuple ?_
  refine wpAny_items_cons (ld_glob I g1 m1 ?_ d1)
  refine wpAny_items_cons (ld_glob I g2 m2 ?_ d2)
  refine wpAny_items_cons (ld_glob I g3 m3 ?_ d3)
  refine wpAny_items_nil ⟨by size_fits, ?_⟩
  have kp : ∀ q o, s.heap.get? q = some o → (s.heap.push { cls := .type "tuple", data := .seq [Value.ref c1, .ref c2, .ref c3].toArray }).get? q = some o := fun q o w => Heap.get?_push_of_some _ w
  exact h (.ref s.heap.objs.size) _ kp (PySem.W.exm_tup3 (I.kIn.keeps kp) (LT.keeps kp) (Heap.get?_push_size s.heap rfl) hf)
end
end PL
set_option Elab.async false
set_option linter.all false
set_option maxRecDepth 100000
set_option maxHeartbeats 4000000
namespace PL
open PySem PySem.Spec PyProof.Rows L2
section
variable {X : Cx} {z : Z} {O OI OO OL : List Nat} {EX : EXT} {B : List Addr} {P : List (Nat × Addr)} {σ σ' : L2.St} {H H' : Hp} {ρ ρ' ρ1 : Env} {S S1 : List D}
/-- a place holds nothing -/
theorem Rel.unset {i : Nat} (r : Rel z B P σ H ρ S) (hi : ∀ p ∈ P, p.1 ≠ i) (hz : NotPl z i) : Rel z B P (σ.set i none) H (ρ.set i none) S where
  val := fun j e n h => by
    by_cases hj : j = i
    · subst hj
      by_cases hl : j < ρ.length
      · rw [List.getElem?_set_self hl] at h
        cases h
      · rw [List.getElem?_eq_none (by simpa using hl)] at h
        cases h
    · rw [List.getElem?_set_ne (Ne.symm hj)] at h
      rw [List.getElem?_set_ne (Ne.symm hj)]
      exact r.val j e n h
  own := fun p hp => by
    obtain ⟨e1, xs, ds, e2, e3, q⟩ := r.own p hp
    have n := Ne.symm (hi p hp)
    exact ⟨by rw [List.getElem?_set_ne n]; exact e1, xs, ds, e2, by rw [List.getElem?_set_ne n]; exact e3, q⟩
  pool := fun j a h => by
    obtain ⟨e1, e0, xs, e2, q⟩ := r.pool j a h
    have n := Ne.symm (hz.1 j a h)
    exact ⟨by rw [List.getElem?_set_ne n]; exact e1, by rw [List.getElem?_set_ne n]; exact e0, xs, e2, q⟩
  nd := r.nd
  there := r.there
  ex := r.ex
  new := r.new
  len := by rw [List.length_set, List.length_set]; exact r.len
  tabs := r.tabs
  xt := ⟨r.xt.1, fun j hj => by rw [List.getElem?_set_ne fun e => hz.2 (by rw [e]; exact hj)]; exact r.xt.2 j hj⟩
/-- the body's view -/
abbrev Z.inner (z : Z) (H : Hp) (bs : List Addr) (s0 : L2.St) (kl : List Nat) : Z := ⟨z.K, z.ca, H, none, .lst, z.tb, bs, s0, kl⟩
theorem inner_ef (r : Rel z B P σ H ρ S) {H0 : Hp} {bs : List Addr} {s0 : L2.St} {kl : List Nat} (H' : Hp) : Frz H' ((z.inner H0 bs s0 kl).L (beside z.tb (z.L B P)) []) = Frz H' (z.L B P) := frz_congr fun a => beside_iff r.tin.sub a
theorem inner_start (r : Rel z B P σ H ρ S) {KO kl : List Nat} (hP : ∀ p ∈ P, p.1 ∈ KO) : Rel (z.inner H (beside z.tb (z.L B P)) σ kl) (beside z.tb (z.L B P)) [] σ H (wipeE ρ KO) [] where
  val := fun i d _ h => by
    by_cases hi : i ∈ KO
    · exact absurd h (wipeE_in ρ KO i hi d)
    · rw [wipeE_get ρ KO i hi] at h
      obtain ⟨v, e1, q⟩ := r.val i d (fun p hp e => hi (e ▸ hP p hp)) h
      exact ⟨v, e1, (inner_ef r (H0 := H) (bs := beside z.tb (z.L B P)) (s0 := σ) (kl := kl) H) ▸ q⟩
  own := fun p hp => nomatch hp
  pool := fun i a h => nomatch h
  nd := beside_nd r.nd r.tin.nd
  there := fun b hb => r.lt (beside_mem.mp hb).1
  ex := fun a o h _ => h
  new := fun p hp => nomatch hp
  len := by rw [wipeE_len]; exact r.len
  tabs := r.tabs
  xt := ⟨fun a ha => ⟨r.lt (beside_mem.mp ha).1, ha⟩, fun _ _ => rfl⟩
theorem grT_of {kl : List Nat} {bs : List Addr} {s0 : L2.St} (ex : ∀ a o, (z.inner H bs s0 kl).H0 a = some o → a ∉ (z.inner H bs s0 kl).pls → H' a = some o) : GrT z.tb H H' := fun a o n h => ex a o h (by simpa [Z.pls] using n)
/-- what is wished of an exception in the body of a try -/
abbrev Looking (X : Cx) (pins : List (Addr × Obj)) (D' : Ends) (hds : List ExceptHandler) : Value → Shared → Prop := fun er s1 => wpAny (model X.prog X.w) X.A (noteFrame er X.env) (fun _ s2 => wpAny (model X.prog X.w) X.A (setFlight er none) (fun _ s3 => wpAny (model X.prog X.w) X.A (handleBy er X.env hds) (SP X pins D') X.xe s3) X.xe s2) X.xe s1
end
end PL
set_option Elab.async false
set_option linter.all false
set_option maxRecDepth 100000
set_option maxHeartbeats 4000000
/-! An exception as a value: its class, its attributes; flat values: in, count, index. -/
namespace PL
open PySem PySem.Spec PyProof.Rows L2
/-- what isinstance and the attributes ask of an exception's class -/
structure ExnC (K : PySem.W.Frag) (C : Addr) : Prop where
  hd : PySem.W.hasDictIn K C = true
  ga : PySem.W.findIn K (.ref C) "__getattribute__" = some (some (.builtin "BaseException.__getattribute__"))
  gg : PySem.W.findIn K (.ref C) "__getattr__" = some none
  ex : PySem.W.subIn K (.ref C) (.type "BaseException") = some true
  ha : PySem.W.findIn K (.ref C) "__class__" = some (some (.builtin "object.__class__"))
  hn : PySem.W.specialIn K (.builtin "object.__class__") "__get__" = some (some (.builtin "getset_descriptor.__get__"))
  tk : PySem.W.takesIn K (.builtin "object.__class__") = some true
  mr : PySem.W.mroIn K C (.type "object") = some true
section
variable {X : Cx} {z : Z} {O OI OM OO OL : List Nat} {EX : EXT} {a b c e o : Expr} {es : List Expr} {f g h : FE} {fa ga fk : FA} {fs gs : FS} {pos p p2 apos cpos : Pos} {st : Stmt} {sts : List Stmt}
variable {B : List Addr} {P : List (Nat × Addr)} {σ σ' : L2.St} {H H' : Hp} {ρ ρ' : Env} {S S' : List D} {x m : Str} {pins : List (Addr × Obj)} {s : Shared}
theorem exT_at {P : Program} {w : World} {h : Heap} {ad C : Addr} {d : Option Addr} (hok : HOk P w H h) (e : H ad = some (exT ad C d)) : ∃ (o : Obj) (fv : Array Value), h.get? ad = some o ∧ o.cls = .ref C ∧ o.dict = d ∧ o.data = .fields fv := by
  have q : ObjOk P w H h ad (.ext fun h => ∃ (o : Obj) (fv : Array Value), h.get? ad = some o ∧ o.cls = .ref C ∧ o.dict = d ∧ o.data = .fields fv) := hok ad _ e
  exact q.1
/-- how it stands -/
def StdX (H : Hp) (ad C : Addr) : Prop := H ad = some (exT ad C none) ∨ ∃ dx fs, H ad = some (exT ad C (some dx)) ∧ H dx = some (.xd fs)
theorem std_at (I : Inv X pins σ H s) {ad C : Addr} (h : StdX H ad C) : ∃ ox od, PySem.W.InstAt s.heap ad ox C od := by
  rcases h with h | ⟨dx, fs, h, hd⟩
  · obtain ⟨o, fv, e1, e2, e3, e4⟩ := exT_at I.hok h
    exact ⟨o, none, e1, e2, by unfold PySem.W.notCls; rw [e4] <;> rfl, by rw [e3]; trivial⟩
  · obtain ⟨o, fv, e1, e2, e3, e4⟩ := exT_at I.hok h
    have hx : ObjOk X.prog X.w H s.heap dx (.xd fs) := I.hok dx _ hd
    obtain ⟨mA, hns, hr⟩ := hx
    obtain ⟨od, ho, hl⟩ := lookIn_ns hns
    exact ⟨o, some od, e1, e2, by unfold PySem.W.notCls; rw [e4] <;> rfl, by rw [e3]; exact ho⟩
def rIsX (K : PySem.W.Frag) : List V → Hp → VK → Prop := fun xs H Q => ∃ (ad C : Addr) (c : V) (cv : Value) (b : Bool), xs = [.ref ad, c] ∧ (∀ u, RelV c u → u = cv) ∧ StdX H ad C ∧ ExnC K C ∧ PySem.W.kitOne K (.ref C) cv = some b ∧ Q (.bl b) H
theorem call_isX : CallR X (.builtin "isinstance") (rIsX X.K) := by
  intro pins s σ H xs us Q I r h
  obtain ⟨ad, C, c, cv, b, rfl, hcv, st, T, e, q⟩ := h
  cases r with
  | cons rx rr =>
    cases rr with
    | cons rt rr =>
      cases rr
      cases rx
      have ec := hcv _ rt
      subst ec
      obtain ⟨ox, od, J⟩ := std_at I st
      have hcl : (PySem.W.clsIn X.K C).isSome = true := by
        obtain ⟨cd, hc, _⟩ := PySem.W.any_some T.hd
        rw [hc] <;> rfl
      exact PySem.W.kia_one (PySem.W.kitx_exc hcl T.ga T.gg T.ex T.ha T.hn T.tk T.mr) I.kIn J e (fun z => nomatch z) fun tk => ⟨.bl b, H, I.kept (t' := tk) fun _ _ z => z, rfl, q⟩
/-- isinstance(e, C), e an exception: sub answers by its class -/
def isXD (sub : Str → Option Bool) : D → Option D
  | .exn c _ _ => (sub c).map .bl
  | _ => none
theorem rp_exn {K : PySem.W.Frag} {ca : Str → Option Addr} {F : Hp} {v : V} {c : Str} {ns : List Str} {vs : List D} (h : Rp K ca F v (.exn c ns vs)) : ∃ ad C, v = .ref ad ∧ ca c = some C ∧ StdX F ad C := by
  cases h with
  | exn0 h c => exact ⟨_, _, rfl, c, .inl h⟩
  | exnD h g c r => exact ⟨_, _, rfl, c, .inr ⟨_, _, h, g⟩⟩
theorem StdX.mono {F F' : Hp} {ad C : Addr} (h : StdX F ad C) (e : Ex F F') : StdX F' ad C := by
  rcases h with h | ⟨dx, fs, h, g⟩
  · exact .inl (e _ _ h)
  · exact .inr ⟨dx, fs, e _ _ h, e _ _ g⟩
theorem pd_isX {sub : Str → Option Bool} {cv : V} {u : Value} {ce : Expr} (hK : X.K = z.K) (hm : X.mg "isinstance" = none) (hcv : PE X ce (tC cv)) (hu : ∀ w, RelV cv w → w = u)
    (hsub : ∀ c k, sub c = some k → ∃ C, z.ca c = some C ∧ ExnC z.K C ∧ PySem.W.kitOne z.K (.ref C) u = some k) (ha : PB X z O EX e f) (hg : Gl X "isinstance" := by rfl)
    (he : starEach [e, ce] X.env = (false, eval e X.env) :: starEach [ce] X.env := by rfl) (he2 : starEach [ce] X.env = (false, eval ce X.env) :: starEach [] X.env := by rfl) (hpl : (backTo pos (starEach [ce] X.env)).any (·.1) = false := by rfl) :
    PD X z O EX (.Call (.Name "isinstance" p) [e, ce] [] pos) (un1 (isXD sub) f) := by
  obtain ⟨t, pt, q⟩ := ha.ex
  refine ⟨_, pe_callB (r := rIsX X.K) call_isX hg hm (by decide +kernel) (pa_cons pt (pa_cons hcv pa_nil he2) he) (by decide) (by decide) he hpl, fun B P σ H ρ S Q hP rr hs => ?_⟩
  refine q B P σ H ρ S _ hP rr ((sat_bind.mp hs).imp fun x hx v H1 g1 r1 hv => ?_)
  obtain ⟨d, hd, hq⟩ := sat_of (sat_bind.mp hx)
  show rIsX X.K [v, cv] H1 Q
  rw [hK]
  obtain ⟨x1, S1⟩ := x
  cases x1 with
  | exn c ns vs =>
    simp only [isXD, Option.map_eq_some_iff] at hd
    obtain ⟨k, e2, rfl⟩ := hd
    obtain ⟨C, hca, ec, hk⟩ := hsub c k e2
    obtain ⟨ad, C', rfl, hc', st⟩ := rp_exn hv.rp
    rw [hca] at hc'
    cases hc'
    exact ⟨ad, C, cv, u, k, rfl, hu, st, ec, hk, hq _ H1 g1 r1 (.bl k)⟩
  | _ => cases hd
/-- .. an own class -/
theorem pd_isXC (me : Str) {C : Addr} {sub : Str → Option Bool} (hK : X.K = z.K) (hm : X.mg "isinstance" = none) (hmC : X.mg me = some (.ref C)) (hsub : ∀ c k, sub c = some k → ∃ D, z.ca c = some D ∧ ExnC z.K D ∧ PySem.W.kitOne z.K (.ref D) (.ref C) = some k) (ha : PB X z O EX e f)
    (hd : (me == ("__debug__" : Str)) = false := by decide) (hg : Gl X "isinstance" := by rfl) (hgT : Gl X me := by rfl)
    (he : starEach [e, .Name me p2] X.env = (false, eval e X.env) :: starEach [.Name me p2] X.env := by rfl) (he2 : starEach [.Name me p2] X.env = (false, eval (.Name me p2) X.env) :: starEach [] X.env := by rfl) (hpl : (backTo pos (starEach [.Name me p2] X.env)).any (·.1) = false := by rfl) :
    PD X z O EX (.Call (.Name "isinstance" p) [e, .Name me p2] [] pos) (un1 (isXD sub) f) :=
  pd_isX hK hm (pe_glob hgT hmC (v := .ref C) rfl hd) (fun w h => h) hsub ha hg he he2 hpl
/-- .. a built-in one -/
theorem pd_isXB {T : String} {sub : Str → Option Bool} {x : Str} (hK : X.K = z.K) (hm : X.mg "isinstance" = none) (hmT : X.mg x = none) (hbt : bootBuiltins x = some (.type T)) (hsub : ∀ c k, sub c = some k → ∃ D, z.ca c = some D ∧ ExnC z.K D ∧ PySem.W.kitOne z.K (.ref D) (.type T) = some k) (ha : PB X z O EX e f)
    (hn : x ≠ "__name__" := by decide) (hd : (x == ("__debug__" : Str)) = false := by decide) (hg : Gl X "isinstance" := by rfl) (hgT : Gl X x := by rfl)
    (he : starEach [e, .Name x p2] X.env = (false, eval e X.env) :: starEach [.Name x p2] X.env := by rfl) (he2 : starEach [.Name x p2] X.env = (false, eval (.Name x p2) X.env) :: starEach [] X.env := by rfl) (hpl : (backTo pos (starEach [.Name x p2] X.env)).any (·.1) = false := by rfl) :
    PD X z O EX (.Call (.Name "isinstance" p) [e, .Name x p2] [] pos) (un1 (isXD sub) f) :=
  pd_isX hK hm (pe_bltn hgT hmT hbt (v := .ty T) rfl hn hd) (fun w h => h) hsub ha hg he he2 hpl
/-- e.n of an exception -/
def xfD (cs : List Str) (n : Str) : D → Option D
  | .exn c ns vs => if c ∈ cs then lookF ns vs n else none
  | _ => none
theorem pd_xf {cs : List Str} {n : Str} (hK : X.K = z.K) (hcs : ∀ c ∈ cs, ∃ C, z.ca c = some C ∧ ExnC z.K C ∧ PySem.W.findIn z.K (.ref C) n = some none) (ha : PD X z O EX e f) (hb : attributeBase e n X.env (eval e X.env) = eval e X.env := by rfl) : PD X z O EX (.Attribute e n pos) (un1 (xfD cs n) f) := by
  obtain ⟨t, pt, q⟩ := ha.ex
  have pe : PE X (.Attribute e n pos) (fun σ H Q => t σ H fun x H1 => ∃ (ad C dx : Addr) (fs : List (Str × V)) (v : V), x = .ref ad ∧ H1 ad = some (exT ad C (some dx)) ∧ H1 dx = some (.xd fs) ∧ ExnC X.K C ∧ PySem.W.findIn X.K (.ref C) n = some none ∧ fs.lookup n = some v ∧ Q v H1) := by
    refine ⟨fun pins s σ H Q I h => ?_⟩
    refine attr_of hb (thn (pt.run pins s σ H _ I h) fun u s1 hh => ?_)
    obtain ⟨x, H1, I1, rx, ad, C, dx, fs, v, rfl, e1, e2, T, hno, l, qq⟩ := hh
    obtain rfl : u = Value.ref ad := rx
    obtain ⟨o, fv, w1, w2, w3, w4⟩ := exT_at I1.hok e1
    have hx : ObjOk X.prog X.w H1 s1.heap dx (.xd fs) := I1.hok dx _ e2
    obtain ⟨mA, hns, hr⟩ := hx
    obtain ⟨od, ho, hl⟩ := lookIn_ns hns
    obtain ⟨u, hu, ru⟩ := RelO.some_of (v := v) (o := mA n) (by rw [← l]; exact hr n)
    have J : PySem.W.InstAt s1.heap ad o C (some od) := ⟨w1, w2, by unfold PySem.W.notCls; rw [w4] <;> rfl, by rw [w3]; exact ho⟩
    have hin := I1.tok (s1.toks + 1)
    exact HandSPX.exc_get I1.kIn J T.ga T.gg T.ex (PySem.W.findObj_own T.hd hno rfl (by rw [hl, hu])) (handed_of ru) ⟨v, H1, hin, ru, qq⟩
  refine ⟨_, pe, fun B P σ H ρ S Q hP rr hs => ?_⟩
  refine q B P σ H ρ S _ hP rr ((sat_bind.mp hs).imp fun w hw v H1 g1 r1 hv => ?_)
  obtain ⟨d, hd, hq⟩ := sat_of (sat_bind.mp hw)
  obtain ⟨w1, w2⟩ := w
  cases w1 with
  | exn c ns vs =>
    simp only [xfD] at hd
    split at hd
    · rename_i hc
      obtain ⟨C, hca, T, hno⟩ := hcs c hc
      cases hv with
      | exn0 h h2 => simp [lookF] at hd
      | exnD h g h2 r =>
        rw [hca] at h2
        cases h2
        obtain ⟨v, e1, qv⟩ := look_rp r hd
        exact ⟨_, C, _, _, v, rfl, frz_ex _ _ _ _ h, frz_ex _ _ _ _ g, hK ▸ T, hK ▸ hno, e1, hq v H1 g1 r1 qv⟩
    · cases hd
  | _ => cases hd
/-! ### flat values -/
def flV : D → Option V
  | .non => some .non
  | .bl b => some (.bl b)
  | .int i => some (.int i)
  | .str x => some (.str x)
  | _ => none
def flVs : List D → Option (List V)
  | [] => some []
  | d :: r => (flV d).bind fun v => (flVs r).map (v :: ·)
theorem fl_rp {K : PySem.W.Frag} {ca : Str → Option Addr} {F : Hp} {v y : V} {d : D} (h : Rp K ca F v d) (e : flV d = some y) : v = y ∧ flatV y = true := by
  cases h <;> simp only [flV, reduceCtorEq, Option.some.injEq] at e <;> subst e <;> exact ⟨rfl, rfl⟩
theorem fl_rpa {K : PySem.W.Frag} {ca : Str → Option Addr} {F : Hp} : ∀ {vs ys : List V} {ds : List D}, RpA K ca F vs ds → flVs ds = some ys → vs = ys ∧ ys.all flatV = true
  | _, _, _, .nil, e => by cases e; exact ⟨rfl, rfl⟩
  | _, _, _, .cons h r, e => by
    simp only [flVs, Option.bind_eq_some_iff, Option.map_eq_some_iff] at e
    obtain ⟨v, e1, q, e2, rfl⟩ := e
    obtain ⟨rfl, f1⟩ := fl_rp h e1
    obtain ⟨rfl, f2⟩ := fl_rpa r e2
    exact ⟨rfl, by rw [List.all_cons, f1, f2]; rfl⟩
def inF (neg : Bool) (x y : D) : Option D := (flV x).bind fun v => match y with
  | .lst ds => (flVs ds).map fun ys => .bl (if neg then !inV v ys else inV v ys)
  | .tup ds => (flVs ds).map fun ys => .bl (if neg then !inV v ys else inV v ys)
  | _ => none
theorem op2_inF {K : PySem.W.Frag} {ca : Str → Option Addr} {neg : Bool} : Op2 K ca (rIn K neg) (inF neg) := by
  intro H L N x y dx dy d Q fr hx hy e hq
  unfold inF at e
  simp only [Option.bind_eq_some_iff] at e
  obtain ⟨v, e1, e⟩ := e
  obtain ⟨rfl, f1⟩ := fl_rp hx.rp e1
  split at e
  · simp only [Option.map_eq_some_iff] at e
    obtain ⟨ys, e2, rfl⟩ := e
    obtain ⟨ad, xs, rfl, h1, r1⟩ := hy.lst
    obtain ⟨rfl, f2⟩ := fl_rpa r1 e2
    exact ⟨ad, xs, rfl, .inl (SqL.of h1), f1, f2, hq _ H (Ex.refl H) (.bl _)⟩
  · simp only [Option.map_eq_some_iff] at e
    obtain ⟨ys, e2, rfl⟩ := e
    obtain ⟨ad, xs, rfl, h1, r1⟩ := hy.tup
    obtain ⟨rfl, f2⟩ := fl_rpa r1 e2
    exact ⟨ad, xs, rfl, .inr (ex_t (frz_ex H L) h1), f1, f2, hq _ H (Ex.refl H) (.bl _)⟩
  · cases e
def rCntF (K : PySem.W.Frag) : V → List V → Hp → VK → Prop := fun x xs H Q => ∃ (q : Addr) (ys : List V) (y : V), x = .ref q ∧ xs = [y] ∧ SqL K H q ys ∧ flatV y = true ∧ ys.all flatV = true ∧ Q (.int (ys.countP (fun w => eqV w y) : Nat)) H
theorem count_eqU {x : V} : ∀ {xs : List V} {us : List Value}, Vals xs us → xs.all flatV = true → us.countP (eqU x) = xs.countP fun y => eqV y x
  | _, _, .nil, _ => rfl
  | y :: xs, u :: us, .cons r t, f => by
    rw [List.all_cons, Bool.and_eq_true] at f
    rw [List.countP_cons, List.countP_cons, eqU_of r f.1, count_eqU t f.2]
theorem mt_lcountF : MtR X "list.count" (rCntF X.K) := by
  intro pins s σ H x xs v us Q I rx rxs h
  obtain ⟨q, ys, y, rfl, rfl, hs, fy, fys, hq⟩ := h
  cases rx
  obtain ⟨u, rfl, ru⟩ := rxs.one
  obtain ⟨its, rv, ⟨⟨cls, dd, data, sl⟩, n, ho, hc, hdn, hd⟩, hlen⟩ := I.list hs
  simp only at hc hd
  subst hc hd
  refine call_meets PySem.F.slot_list_count ⟨_, ho, rfl⟩ PySem.F.entry_list_count (PySem.F.args_list_count_2 _ _)
    (SeqAt.list_countAt q its.toArray n dd sl u (eqU y)) ⟨ho, fun u' hu' => mem_eqAt ru fy rv fys u' (by simpa using hu'), ?_⟩
  have ec : its.toArray.toList.countP (eqU y) = ys.countP fun w => eqV w y := by
    rw [← count_eqU rv fys]
  refine ⟨.int (ys.countP (fun w => eqV w y) : Nat), H, I.tok _, ⟨s.toks, ?_⟩, hq⟩
  show Value.int ((its.toArray.toList.countP (eqU y) : Nat) : Int) s.toks = Value.int ((ys.countP (fun w => eqV w y) : Nat) : Int) s.toks
  rw [ec]
def cntFD : D → List D → Option D
  | .lst ds, [x] => (flVs ds).bind fun ys => (flV x).map fun y => .int (ys.countP (fun w => eqV w y) : Nat)
  | _, _ => none
theorem mthD_cntF {K : PySem.W.Frag} {ca : Str → Option Addr} : MthD K ca "list" (rCntF K) cntFD := by
  intro H L N x dx vs ds d Q fr hx hv e hq
  unfold cntFD at e
  split at e
  · simp only [Option.bind_eq_some_iff, Option.map_eq_some_iff] at e
    obtain ⟨ys, e1, y, e2, rfl⟩ := e
    cases hv with
    | cons h r =>
      cases r
      obtain ⟨rfl, fy⟩ := fl_rp h.rp e2
      obtain ⟨ad, xs, rfl, h1, r1⟩ := hx.lst
      obtain ⟨rfl, fys⟩ := fl_rpa r1 e1
      exact ⟨ad, xs, _, rfl, rfl, SqL.of h1, fy, fys, hq _ H (Ex.refl H) (.int _)⟩
  · cases e
theorem pd_count (hK : X.K = z.K) (ho : PB X z O EX o f) (ha : PBA X z O EX [e] fa) (hbase : attributeBase o "count" X.env (eval o X.env) = eval o X.env := by rfl)
    (hfew : ((backTo pos (starEach (e :: []) X.env)).all (fun x => !x.1) && (backToKw pos (keywordEach [] X.env)).all (fun x => x.1.isSome)
      && decide ((e :: []).length + ([] : List Keyword).length + (if ([] : List Keyword).isEmpty then 0 else 1) < 30)) = true := by rfl)
    (hline : (apos.endLine == pos.line) = true := by rfl) (hs : starEach (e :: []) X.env = (false, eval e X.env) :: starEach [] X.env := by rfl) (hplain : (backTo pos (starEach [] X.env)).any (·.1) = false := by rfl) :
    PD X z O EX (.Call (.Attribute o "count" apos) [e] [] pos) (mthE "list" cntFD f fa) :=
  pd_mth hK PySem.F.plainAttrs_list PySem.F.slot_list_count PySem.F.type_list_count (r := rCntF z.K) (hK ▸ mt_lcountF) mthD_cntF ho ha hbase hfew hline hs hplain
def idxFD : D → List D → Option D
  | .lst ds, [x] => (flVs ds).bind fun ys => (flV x).bind fun y => (ys.findIdx? fun w => eqV w y).map fun j => .int (j : Nat)
  | _, _ => none
theorem mthD_idxF {K : PySem.W.Frag} {ca : Str → Option Addr} : MthD K ca "list" (rIndex K) idxFD := by
  intro H L N x dx vs ds d Q fr hx hv e hq
  unfold idxFD at e
  split at e
  · simp only [Option.bind_eq_some_iff, Option.map_eq_some_iff] at e
    obtain ⟨ys, e1, y, e2, j, e3, rfl⟩ := e
    cases hv with
    | cons h r =>
      cases r
      obtain ⟨rfl, fy⟩ := fl_rp h.rp e2
      obtain ⟨ad, xs, rfl, h1, r1⟩ := hx.lst
      obtain ⟨rfl, fys⟩ := fl_rpa r1 e1
      rw [List.findIdx?_eq_some_iff_getElem] at e3
      obtain ⟨hj, hj2, hj3⟩ := e3
      refine ⟨ad, xs, _, j, xs[j], rfl, rfl, SqL.of h1, fy, fys, List.getElem?_eq_getElem hj, hj2, fun m z' hm hz => ?_, hq _ H (Ex.refl H) (.int _)⟩
      obtain ⟨hm2, rfl⟩ := List.getElem?_eq_some_iff.mp hz
      have := hj3 m hm
      simpa using this
  · cases e
theorem pd_indexF (hK : X.K = z.K) (ho : PB X z O EX o f) (ha : PBA X z O EX [e] fa) (hbase : attributeBase o "index" X.env (eval o X.env) = eval o X.env := by rfl)
    (hfew : ((backTo pos (starEach (e :: []) X.env)).all (fun x => !x.1) && (backToKw pos (keywordEach [] X.env)).all (fun x => x.1.isSome)
      && decide ((e :: []).length + ([] : List Keyword).length + (if ([] : List Keyword).isEmpty then 0 else 1) < 30)) = true := by rfl)
    (hline : (apos.endLine == pos.line) = true := by rfl) (hs : starEach (e :: []) X.env = (false, eval e X.env) :: starEach [] X.env := by rfl) (hplain : (backTo pos (starEach [] X.env)).any (·.1) = false := by rfl) :
    PD X z O EX (.Call (.Attribute o "index" apos) [e] [] pos) (mthE "list" idxFD f fa) :=
  pd_mth hK PySem.F.plainAttrs_list PySem.F.slot_list_index PySem.F.type_list_index (r := rIndex z.K) (hK ▸ mt_index) mthD_idxF ho ha hbase hfew hline hs hplain
end
end PL
set_option Elab.async false
set_option linter.all false
set_option maxRecDepth 100000
set_option maxHeartbeats 4000000
/-! Defs that may be called while an exception is handled. -/
namespace PL
open PySem PySem.Spec PyProof.Rows L2
/-- room for k calls, no guard around; an exception may be handled -/
structure RmH (k : Nat) (A : Around) : Prop where
  r : L2H.RoomH k A
  g : A.guards = some []
theorem RmH.mono {j k : Nat} {A : Around} (h : RmH k A) (l : j ≤ k) : RmH j A := ⟨h.r.mono l, h.g⟩
theorem Rm.hot {k : Nat} {A : Around} (h : Rm k A) (v : Option Value) : RmH k (A.mark v) := ⟨⟨h.r.dp, h.r.un⟩, h.g⟩
theorem Rm.h {k : Nat} {A : Around} (h : Rm k A) : RmH k A := ⟨⟨h.r.dp, h.r.un⟩, h.g⟩
theorem RmH.units {k : Nat} {A : Around} (h : RmH k A) : A.units + 64 < cLine := by have := h.r.un; omega
structure FnA (Pg : Program) (w : World) (K : PySem.W.Frag) (mg : Str → Option Value) (base : Heap) (k : Nat) (fA : Addr) (fd : FuncData) (ps : List Str) (sp : Sp) : Prop where
  num : ∀ vs H Q E, sp vs H Q E → vs.length = ps.length
  go : ∀ (A : Around) (up : List PySem.Env) (s : Shared) (H : Hp) (args : Args) (us : List Value) (vs : List V) (Q : VK) (E : XK), L2H.RoomH k A → A.guards = some [] → Env0 Pg w K mg base A up s H →
    BindsTo s fd args (ps.zip us) → Vals vs us → sp vs H Q E → codeAny (model Pg w) A (.call (.ref fA) args) (CR CX0 up Pg w H s Q E) s
/-- the context of such a def's body -/
abbrev cxA (P : Program) (w : World) (K : PySem.W.Frag) (mg : Str → Option Value) (base : Heap) (N : List Str) (qual : Str) (scope : Scope) (f : Addr) (cd : Value) (A : Around) (outer : List PySem.Env) (s : Shared) (H : Hp) (E : XK) : Cx :=
  { (cxOf CX0 P w K mg base N qual scope f cd A outer s H E).nox with calm := false }
section
variable {Pg : Program} {w : World} {K : PySem.W.Frag} {mg : Str → Option Value} {base : Heap} {j k : Nat} {fA : Addr} {fd : FuncData} {ps : List Str} {sp sp' : Sp} {ca : Str → Option Addr} {T : Tb}
theorem FnA.up (F : FnA Pg w K mg base j fA fd ps sp) (h : j ≤ k) : FnA Pg w K mg base k fA fd ps sp :=
  ⟨F.num, fun A up s H args us vs Q E hr hgu => F.go A up s H args us vs Q E (hr.mono h) hgu⟩
theorem FnA.toG (F : FnA Pg w K mg base k fA fd ps sp) : FnG Pg w K mg base k fA fd ps sp :=
  ⟨F.num, fun A up s H args us vs Q E hr hgu => F.go A up s H args us vs Q E ⟨hr.dp, hr.un⟩ hgu⟩
theorem fn_bodyA {x qual : Str} {st : Stmt} {N : List Str} (F : Fun K x qual st fA fd) (Sc : FnScope N ps (defScope st)) (num : ∀ vs H Q E, sp vs H Q E → vs.length = ps.length)
    (body : ∀ (cdv : Value) (A : Around) (up : List PySem.Env) (s : Shared) (H : Hp) (vs : List V) (Q : VK) (E : XK), L2H.RoomH k (A.deeper (envOfC qual (defScope st) s.heap.objs.size fA cdv)) → A.guards = some [] → sp vs H Q E →
      ∃ t, PSs (cxA Pg w K mg base N qual (defScope st) fA cdv A up s H E) (defBody st) t ∧ t { nx := fun _ H' => Q .non H', rt := Q } (L2.start N vs) H) : FnA Pg w K mg base (k + 1) fA fd ps sp := by
  obtain ⟨oc, od, kV, doc, pm, an, cdv, ct, osl, rfl, lk, hcd⟩ := F.ex
  refine ⟨num, fun A up s H args us vs Q E hr hgu e0 hb rv hsp => ?_⟩
  have hlen := num _ _ _ _ hsp
  have kin : K.In s.heap := e0.mod.kin.keeps fun b o e => (e0.bs b o e).1
  have nolim : s.heap.NoLimit := e0.mod.nolimit.keeps fun b o e => (e0.bs b o e).1
  have hvis : ∀ y ∈ ps.zip us, (defScope st).names.lookup y.1 = some .local ∨ ((defScope st).names.lookup y.1 = some .cell ∧ ((cellsFrom (s.heap.objs.size + 1) (defScope st).names []).lookup y.1).isSome = true) := by
    intro y hy
    obtain ⟨n, v⟩ := y
    exact (Sc.par n (List.of_mem_zip hy).1).imp id fun q => ⟨q, PySem.W.cellsFrom_some _ _ _ (.inl q)⟩
  refine codeAny_call_function hr.depth (kin _ _ lk) rfl Sc.co Sc.gen rfl (PySem.W.codeRec_of kin hcd) (hb _ _ _ _ (wpAny_newFunctionEnv_cells Sc.kind hvis fun env he s1 x => ?_))
  subst he
  obtain ⟨t, ht, hq⟩ := body cdv A up s H vs Q E (hr.deeper _) hgu hsp
  have e1 : Env0 Pg w K mg base { A with handled := none } up s H := ⟨e0.frames, e0.mod, e0.bs, e0.bsz, e0.funs, e0.frf, e0.hok, e0.bare⟩
  have J0 : Inv (cxOf CX0 Pg w K mg base N qual (defScope st) fA cdv { A with handled := none } up s H E) [] (L2.start N vs) H s1 := inv_start Sc rfl e1 hlen rv x
  have J : Inv (cxA Pg w K mg base N qual (defScope st) fA cdv A up s H E) [] (L2.start N vs) H s1 :=
    ⟨⟨J0.ok.mod, J0.ok.kind, J0.ok.glob, J0.ok.blt, J0.ok.above, J0.ok.inj, J0.ok.has, J0.ok.cab, fun q => absurd (show false = true from q) Bool.false_ne_true, Around.frames_deeper e0.frames, J0.ok.stk, J0.ok.exf, J0.ok.bs, J0.ok.bsz, J0.ok.noex, J0.ok.exfs, J0.ok.funs, J0.ok.frf⟩,
      J0.os, J0.bare, J0.base, J0.loc, J0.cell, J0.free, J0.freeC, J0.pin, J0.hok, J0.len⟩
  refine ⟨nolim.keeps x.toInCall.keep, codeAny_func (wpAny_mono (ht.run [] s1 _ H _ J hq) (fun fl s' hs => ?_) fun e s' hs => hs.elim)⟩
  cases fl with
  | ret u =>
    obtain ⟨v, σ', H', J2, r2, q2⟩ := hs
    exact ⟨v, H', J2.os, J2.bare, J2.base, J2.hok, r2, q2⟩
  | next =>
    obtain ⟨σ', H', J2, q2⟩ := hs
    exact ⟨V.non, H', J2.os, J2.bare, J2.base, J2.hok, rfl, q2⟩
  | brk =>
    obtain ⟨_, _, _, q2⟩ := hs
    exact q2.elim
  | cont =>
    obtain ⟨_, _, _, q2⟩ := hs
    exact q2.elim
/-- a def whose body asks nothing of what is handled -/
theorem fn_a {x qual : Str} {st : Stmt} {N : List Str} {fs : FS} {OO : List Nat} (F : Fun K x qual st fA fd) (Sc : FnScope N ps (defScope st))
    (body : ∀ (cdv : Value) (A : Around) (outer : List PySem.Env) (s : Shared) (H : Hp) (E : XK), RmH k (A.deeper (envOfC qual (defScope st) s.heap.objs.size fA cdv)) →
      PSS (cxA Pg w K mg base N qual (defScope st) fA cdv A outer s H E) ⟨K, ca, H, none, .lst, T, [], [], []⟩ [] OO [] EX0 (defBody st) fs) :
    FnA Pg w K mg base (k + 1) fA fd ps (spF K ca T (runF N.length ps.length fs)) := by
  refine fn_bodyA F Sc (fun vs H Q E h => ?_) (fun cdv A outer s H vs Q E hr hgu h => ?_)
  · obtain ⟨ds, B, _, _, _, hv, hs⟩ := h
    rw [hv.length]
    unfold runF at hs
    split at hs
    · assumption
    · exact hs.elim
  · obtain ⟨ds, B, hB, hb, ti, hv, hs⟩ := h
    obtain ⟨t, p, q⟩ := (body cdv A outer s H E ⟨hr, hgu⟩).ex
    refine ⟨t, p, ?_⟩
    unfold runF at hs
    split at hs
    · have ef : ∀ H', Frz H' (Z.L ⟨K, ca, H, none, .lst, T, [], [], []⟩ (beside T B) []) = Frz H' B := fun H' => frz_congr fun a => beside_iff ti.sub a
      refine q (beside T B) [] (L2.start N vs) H (startE N.length ds) [] _ rfl (rel_start hB hb ti hv) ((sat_bind.mp hs).imp fun r hr => ?_)
      obtain ⟨c, ρ1, S1⟩ := r
      cases c with
      | nx =>
        intro P' σ' H' h1 h2 h3
        have hr : ∀ v H', GrT T H H' → LamX.Tabs T H' → Rp K ca (Frz H' B) v .non → Q v H' := hr
        exact hr .non H' (fun a o n e => h3.ex a o e n) h3.tabs .non
      | rt d =>
        intro v H' hf
        have hr : ∀ v H', GrT T H H' → LamX.Tabs T H' → Rp K ca (Frz H' B) v d → Q v H' := hr
        exact hr v H' (fun a o n e => hf.ex a o e n) hf.tabs (ef H' ▸ hf.val)
      | bk => exact hr.elim
      | ct => exact hr.elim
    · exact hs.elim
end
section
variable {X : Cx} {z : Z} {O OI OM OO OL : List Nat} {EX : EXT} {a b c e o : Expr} {es : List Expr} {f g h : FE} {fa ga fk : FA} {fs gs : FS} {pos p apos : Pos} {st : Stmt} {sts : List Stmt}
variable {B : List Addr} {P : List (Nat × Addr)} {σ σ' : L2.St} {H H' : Hp} {ρ ρ' : Env} {S S' : List D} {x m : Str} {pins : List (Addr × Obj)} {s : Shared} {Q : VK} {E : XK} {sp : Sp} {t : TA}
variable {k : Nat} {fA C : Addr} {fd : FuncData} {ps : List Str} {ds : List Value} {dvs : List V} {dds : List D} {kws : List Keyword}
theorem run_a {args : Args} {us : List Value} {vs : List V} (F : FnA X.prog X.w X.K X.mg X.base k fA fd ps sp) (hr : RmH k X.A) (hb : BindsTo s fd args (ps.zip us)) (I : Inv X pins σ H s) (r : Vals vs us) (h : sp vs H Q E) :
    wpAny (model X.prog X.w) X.A (call (.ref fA) args.pos args.kw) (EP X pins σ Q) X.xe s := by
  refine wpAny_call (codeAny_mono (F.go X.A X.stack s H args us vs Q E hr.r hr.g I.env0 hb r h) fun res s' hq => ?_)
  match res, hq with
  | .ok (.ret u), hq => exact I.after hq
  | .ok .next, hq => exact False.elim hq
  | .ok .brk, hq => exact False.elim hq
  | .ok .cont, hq => exact False.elim hq
  | .error er, hq => exact False.elim hq
theorem pd_callA {F : List D → R D} (G : FnA X.prog X.w X.K X.mg X.base k fA fd ps (spF z.K z.ca z.tb F)) (hr : RmH k X.A) (hm : X.mg x = some (.ref fA)) (hk : PySem.W.keepIn X.K (.ref fA) = true) (hb : Binds X.K fd ps ds) (hd : Vals dvs ds) (hdd : ∀ F', RpA z.K z.ca F' dvs dds)
    (ha : PAd X z O EX (e :: es) fa) (hg : Gl X x := by rfl) (hdb : (x == ("__debug__" : Str)) = false := by decide) (he : starEach (e :: es) X.env = (false, eval e X.env) :: starEach es X.env := by rfl) (hpl : (backTo pos (starEach es X.env)).any (·.1) = false := by rfl) :
    PD X z O EX (.Call (.Name x p) (e :: es) [] pos) (callD F dds fa) := by
  obtain ⟨t, pt, q⟩ := ha.ex
  have pe : PE X (.Call (.Name x p) (e :: es) [] pos) (tCall (spF z.K z.ca z.tb F) dvs E0 t) := ⟨fun pins s σ H Q I h => by
    refine wpAny_Call_Name_kw (ld_glob I hg hm (PySem.W.callWith_K (h₀ := X.base) I.ok.mod.kin hk (thn (pt.run pos pins s σ H _ I h) fun us s1 hv => ?_) he hpl) hdb)
    obtain ⟨vs, H1, I1, r, q⟩ := hv
    have r2 := r.append hd
    exact ⟨I1.kIn, run_a (args := ⟨us, []⟩) G hr (hb s1 us I1.kIn (by rw [← r2.length]; exact G.num _ _ _ _ q)) I1 r2 q⟩⟩
  refine ⟨_, pe, fun B P σ H ρ S Q hP rr hs => ?_⟩
  refine q B P σ H ρ S _ hP rr ((sat_bind.mp hs).imp fun w hw vs H1 g1 r1 hv => ?_)
  refine spF_of r1 (hv.append (hdd _)) (hw.imp fun r hr v H' g' r' hv' => hr v H' (g1.trans g') r' hv')
theorem pt_in (hK : X.K = z.K) (ha : PB X z O EX a f) (hb : PB X z O EX b g) (hm : behindInMarks .In b = false := by rfl) : PTd X z O EX (.Compare a [.In] [b] pos) (tstB (bin2 (inF false) f g)) := pt_cmp1 (hK ▸ op_in_seq) op2_inF ha hb hm
end
end PL
set_option Elab.async false
set_option linter.all false
set_option maxRecDepth 100000
set_option maxHeartbeats 4000000
/-! x[i] = e of an owned list; repr of data with {} in it; what an except clause and isinstance ask of own classes. -/
namespace PL
open PySem PySem.Spec PyProof.Rows L2
section
variable {X : Cx} {z : Z} {O OI OM OO OL : List Nat} {EX : EXT} {a b c e o : Expr} {es : List Expr} {f g h : FE} {fa ga fk : FA} {fs gs : FS} {pos p p2 apos cpos : Pos} {st : Stmt} {sts : List Stmt}
variable {B : List Addr} {P : List (Nat × Addr)} {σ σ' : L2.St} {H H' : Hp} {ρ ρ' : Env} {S S' : List D} {x m : Str} {pins : List (Addr × Obj)} {s : Shared}
/-! ### repr -/
/-- an item: data, or {} -/
def toPyQ : D → Option PyData
  | .dic [] [] => some (.dict [])
  | d => toPy d
def toPyQA : List D → Option (List PyData)
  | [] => some []
  | d :: r => (toPyQ d).bind fun p => (toPyQA r).map fun q => p :: q
theorem flat_ints : ∀ ns : List Int, PyData.hasDictAll (ns.map PyData.int) = false
  | [] => rfl
  | n :: r => by simp only [List.map_cons, PyData.hasDictAll, PyData.hasDict, flat_ints r, Bool.or_self]
mutual
theorem Rp.flat {K : PySem.W.Frag} {ca : Str → Option Addr} {F : Hp} : ∀ {v : V} {d : D} {p : PyData}, Rp K ca F v d → toPy d = some p → p.hasDict = false
  | _, _, _, .non, e => by cases e; rfl
  | _, _, _, .bl b, e => by cases e; rfl
  | _, _, _, .int i, e => by cases e; rfl
  | _, _, _, .str x, e => by cases e; rfl
  | _, _, _, .tup h r, e => by
    simp only [toPy, Option.map_eq_some_iff] at e
    obtain ⟨q, e1, rfl⟩ := e
    simp only [PyData.hasDict]
    exact RpA.flat r e1
  | _, _, _, .lst h r, e => by
    simp only [toPy, Option.map_eq_some_iff] at e
    obtain ⟨q, e1, rfl⟩ := e
    simp only [PyData.hasDict]
    exact RpA.flat r e1
  | _, _, _, .scr h, e => by
    cases e
    simp only [PyData.hasDict]
    exact flat_ints _
  | _, _, _, .dic h r, e => by cases e
  | _, _, _, .ins h c r, e => by cases e
  | _, _, _, .cls c, e => by cases e
  | _, _, _, .exn0 _ _, e => by cases e
  | _, _, _, .exnD _ _ _ _, e => by cases e
theorem RpA.flat {K : PySem.W.Frag} {ca : Str → Option Addr} {F : Hp} : ∀ {vs : List V} {ds : List D} {ps : List PyData}, RpA K ca F vs ds → toPyA ds = some ps → PyData.hasDictAll ps = false
  | _, _, _, .nil, e => by cases e; rfl
  | _, _, _, .cons h r, e => by
    simp only [toPyA, Option.bind_eq_some_iff, Option.map_eq_some_iff] at e
    obtain ⟨p, e1, q, e2, rfl⟩ := e
    simp only [PyData.hasDictAll, Rp.flat h e1, RpA.flat r e2, Bool.or_self]
end
/-- an item, as it is read -/
theorem Rp.readsQ (I : Inv X pins σ H s) {ca : Str → Option Addr} {v : V} {d : D} {p : PyData} {u : Value} (rp : Rp X.K ca H v d) (e : toPyQ d = some p) (r : RelV v u) : ∃ as, Reads s.heap u p as ∧ (p.hasDict = true → sysModules ∉ as) := by
  cases rp with
  | dic h q =>
    rename_i ad kvs ds
    cases kvs with
    | cons k ks =>
      cases q
      cases e
    | nil =>
      cases q
      cases e
      cases r
      obtain ⟨_, ne, vs, kv, hd⟩ := (show ObjOk X.prog X.w H s.heap ad (.dK []) from I.hok ad _ h)
      cases kv
      obtain ⟨o, es, ep, e1, e2, e3, _, pr, _⟩ := hd
      have e4 : es.toList = [] := by
        cases pq : es.toList with
        | nil => rfl
        | cons u r =>
          rw [pq] at pr
          cases pr
      refine ⟨_, .dict e1 e2.1 e3 (as := []) (bs := []) (by rw [e4]; exact .nil) (by rw [e4]; exact .nil), fun _ hm => ?_⟩
      have := List.mem_singleton.mp hm
      rw [← this] at ne
      simp at ne
  | ins h c q => cases e
  | cls c => cases e
  | exn0 h c => cases e
  | exnD h g c q => cases e
  | non => exact (Dp.reads I p _ u (Rp.dp (ca := ca) .non e) r).imp fun as h => ⟨h, fun z => by rw [Rp.flat (F := H) (K := X.K) (ca := ca) .non e] at z; cases z⟩
  | bl b => exact (Dp.reads I p _ u (Rp.dp (ca := ca) (.bl b) e) r).imp fun as h => ⟨h, fun z => by rw [Rp.flat (F := H) (K := X.K) (ca := ca) (.bl b) e] at z; cases z⟩
  | int i => exact (Dp.reads I p _ u (Rp.dp (ca := ca) (.int i) e) r).imp fun as h => ⟨h, fun z => by rw [Rp.flat (F := H) (K := X.K) (ca := ca) (.int i) e] at z; cases z⟩
  | str x => exact (Dp.reads I p _ u (Rp.dp (ca := ca) (.str x) e) r).imp fun as h => ⟨h, fun z => by rw [Rp.flat (F := H) (K := X.K) (ca := ca) (.str x) e] at z; cases z⟩
  | tup h q => exact (Dp.reads I p _ u (Rp.dp (.tup h q) e) r).imp fun as w => ⟨w, fun z => by rw [Rp.flat (.tup h q) e] at z; cases z⟩
  | lst h q => exact (Dp.reads I p _ u (Rp.dp (.lst h q) e) r).imp fun as w => ⟨w, fun z => by rw [Rp.flat (.lst h q) e] at z; cases z⟩
  | scr h => exact (Dp.reads I p _ u (Rp.dp (ca := ca) (.scr h) e) r).imp fun as w => ⟨w, fun z => by rw [Rp.flat (ca := ca) (.scr h) e] at z; cases z⟩
/-- items, as they are read and shown -/
theorem RpA.showsQ (I : Inv X pins σ H s) {ca : Str → Option Addr} : ∀ {vs : List V} {ds : List D} {ps : List PyData} {us : List Value}, RpA X.K ca H vs ds → toPyQA ds = some ps → Vals vs us → PyData.showableAll ps = true → (∀ t ∈ PyData.shownAll ps, t.length ≤ sizeLine) →
    ∃ as bs, ReadsAll s.heap us ps as ∧ ReadAtMost s.heap (PyData.depthAll ps) bs ∧ ReprAllK X.prog X.w bs s.heap (PyData.depthAll ps) us (PyData.shownAll ps)
  | _, _, _, _, .nil, e, r, _, _ => by
    cases e
    cases r
    exact ⟨[], [], .nil, (fun _ h => nomatch h), by simp only [PyData.shownAll]; exact .nil⟩
  | _, _, _, _, .cons h q, e, r, hs, hz => by
    simp only [toPyQA, Option.bind_eq_some_iff, Option.map_eq_some_iff] at e
    obtain ⟨p, e1, ps, e2, rfl⟩ := e
    cases r with
    | cons r1 r2 =>
      have hs' : p.showable = true ∧ PyData.showableAll ps = true := by simpa [PyData.showableAll] using hs
      obtain ⟨as, h1, n1⟩ := Rp.readsQ I h e1 r1
      obtain ⟨b1, hb1, k1⟩ := ReprK.of_reads (prog := X.prog) (w := X.w) h1 hs'.1 n1 (hz _ (by simp only [PyData.shownAll]; exact List.mem_cons_self ..))
      obtain ⟨as2, b2, h2, hb2, k2⟩ := RpA.showsQ I q e2 r2 hs'.2 fun t ht => hz t (by simp only [PyData.shownAll]; exact List.mem_cons_of_mem _ ht)
      refine ⟨_, b1 ++ b2, .cons h1 h2, ?_, ?_⟩
      · simp only [PyData.depthAll]
        exact (hb1.mono (Nat.le_max_left _ _)).append (hb2.mono (Nat.le_max_right _ _))
      · simp only [PyData.depthAll, PyData.shownAll]
        exact .cons ((k1.more fun b hb => List.mem_append_left _ hb).level_le (Nat.le_max_left _ _)) (k2.more_le (fun b hb => List.mem_append_right _ hb) (Nat.le_max_right _ _))
/-- the text of data -/
def shownR (p : PyData) : Option Str := if p.showable && decide (p.depth ≤ 60) && decide (p.shown.length ≤ LINE) then some p.shown else none
def reprX (d : D) : Option D := match d with
  | .non => some (.str "None")
  | .bl b => some (.str (if b then "True" else "False"))
  | .int i => if i.natAbs.log2 < 1920 then some (.str (toString i)) else none
  | .str y => if (reprText y).length ≤ LINE then some (.str (reprText y)) else none
  | .tup xs => (toPy (.tup xs)).bind fun p => (shownR p).map .str
  | .lst xs => (toPyQA xs).bind fun ps => (shownR (.list ps)).map .str
  | .dic [] [] => some (.str "{}")
  | _ => none
def reprXL : List D → Option D | [x] => reprX x | _ => none
def rReprX (K : PySem.W.Frag) : List V → Hp → VK → Prop := fun xs H Q => ∃ (v : V) (d : D) (y : D) (u : V) (ca : Str → Option Addr), xs = [v] ∧ Rp K ca H v d ∧ reprX d = some y ∧ (∀ F, Rp K ca F u y) ∧ Q u H
theorem repr_list (I : Inv X pins σ H s) (hu : X.A.units + 64 < cLine) (hg : X.A.guards = some []) {ca : Str → Option Addr} {ad : Addr} {xs : List V} {ds : List D} {ps : List PyData} (h : H ad = some (.lst xs)) (q : RpA X.K ca H xs ds) (e : toPyQA ds = some ps) (hs : PyData.showableAll ps = true) (hd : PyData.depthAll ps + 1 ≤ 60) (hz : (listText (PyData.shownAll ps)).length ≤ sizeLine)
    {Q : VK} (hq : Q (.str (listText (PyData.shownAll ps))) H) : wpAny (model X.prog X.w) X.A (call (.builtin "repr") [.ref ad]) (EP X pins σ Q) X.xe s := by
  obtain ⟨its, rv, ⟨o, n, ho, hc, _, hdt⟩, _⟩ := I.list (SqL.of h)
  obtain ⟨as, bs, h2, hb, k⟩ := RpA.showsQ I q e rv hs fun t ht => Nat.le_trans (listText_mem_le ht) hz
  have hna : ad ∉ bs := not_mem_of_deeper (.list ho hc hdt h2) (by simp only [PyData.depth]; omega) hb
  have hT : s.TypeIs (.ref ad) "list" := ⟨o, ho, hc⟩
  have hu1 : X.A.in1.units = X.A.units + 1 := rfl
  refine call_repr_slot (by omega) hT PySem.F.slot_list_repr.toG ?_
  have fin : ∀ (h' : Heap) (u : Tok) (tk : Nat) (t : Str), t = listText (PyData.shownAll ps) → (∀ b o, s.heap.get? b = some o → h'.get? b = some o) → ∃ x t', Value.str t u = .str x t' ∧ EP X pins σ Q (.str t u) { s with heap := h', toks := tk } := by
    intro h' u tk t et hk
    subst et
    exact ⟨_, _, rfl, .str _, H, I.kept hk, ⟨_, rfl⟩, hq⟩
  cases its with
  | nil =>
    cases h2
    have et : ("[]" : Str) = listText (PyData.shownAll []) := listText_nil.symm
    exact call_list_repr_empty ⟨o, ho, hc⟩ ho hdt (fin s.heap _ _ _ et fun _ _ e => e)
  | cons x l =>
    exact call_list_reprK (as := bs) ho hc hdt hna (by simpa using k.length_eq) (fun i y e => k.item i y (by simpa using e)) hg (fun b _ => Clear.nil b) (by omega) (fun _ _ e => e) (fun h' u tk hk => fin h' u tk _ rfl hk) hz
theorem call_repr_x (hu : X.A.units + 64 < cLine) (hg : X.A.guards = some []) : CallR X (.builtin "repr") (rReprX X.K) := by
  intro pins s σ H xs us Q I r h
  obtain ⟨v, d, y, u, ca, rfl, rp, hy, ru, q⟩ := h
  obtain ⟨w, rfl, rw_⟩ := vals1 r
  cases rp with
  | non =>
    cases hy
    cases ru (fun _ => none)
    cases rw_
    exact PySem.P.repr_of_none ⟨.str _, H, I.tok _, ⟨_, rfl⟩, q⟩
  | bl b =>
    cases hy
    cases ru (fun _ => none)
    cases rw_
    exact PySem.P.repr_of_bool ⟨.str _, H, I.tok _, ⟨s.toks, by cases b <;> rfl⟩, q⟩
  | int i =>
    simp only [reprX] at hy
    split at hy
    · rename_i l
      cases hy
      cases ru (fun _ => none)
      obtain ⟨t, rfl⟩ := rw_
      exact PySem.P.repr_of_int l ⟨.str _, H, I.tok _, ⟨_, rfl⟩, q⟩
    · cases hy
  | str x =>
    simp only [reprX] at hy
    split at hy
    · rename_i l
      cases hy
      cases ru (fun _ => none)
      obtain ⟨t, rfl⟩ := rw_
      exact PySem.P.repr_of_str ⟨.str _, H, I.tok _, ⟨_, rfl⟩, q⟩ (line_le l)
    · cases hy
  | tup h r' =>
    simp only [reprX, Option.bind_eq_some_iff, Option.map_eq_some_iff] at hy
    obtain ⟨p, e1, t, e2, rfl⟩ := hy
    cases ru (fun _ => none)
    have rp' := Rp.tup (ca := ca) h r'
    obtain ⟨as, rd⟩ := Dp.reads I p _ w (rp'.dp e1) rw_
    have fl := rp'.flat e1
    unfold shownR at e2
    split at e2
    · rename_i l
      cases e2
      simp only [Bool.and_eq_true, decide_eq_true_eq] at l
      obtain ⟨⟨w2, w4⟩, w5⟩ := l
      cases rw_
      exact repr_of_reads' rd w2 (PyData.noDict_hsm fl) hg (by omega) (fun _ _ e => e) (fun h' u tk hk => ⟨.str _, H, I.kept hk, ⟨_, rfl⟩, q⟩) (line_le w5)
    · cases e2
  | lst h r' =>
    simp only [reprX, Option.bind_eq_some_iff, Option.map_eq_some_iff] at hy
    obtain ⟨ps, e1, t, e2, rfl⟩ := hy
    cases ru (fun _ => none)
    unfold shownR at e2
    split at e2
    · rename_i l
      simp only [PyData.shown, Option.some.injEq] at e2
      subst e2
      simp only [Bool.and_eq_true, decide_eq_true_eq] at l
      obtain ⟨⟨w2, w4⟩, w5⟩ := l
      simp only [PyData.showable] at w2
      simp only [PyData.depth] at w4
      simp only [PyData.shown] at w5
      cases rw_
      exact repr_list I hu hg h r' e1 w2 (by omega) (line_le w5) q
    · cases e2
  | dic h r' =>
    rename_i ad kvs ds
    cases kvs with
    | cons k ks => cases hy
    | nil =>
      cases r'
      cases hy
      cases ru (fun _ => none)
      obtain ⟨as, rd, hsm⟩ := Rp.readsQ I (p := .dict []) (Rp.dic (ca := ca) h .nil) rfl rw_
      cases rw_
      exact repr_of_reads' rd rfl hsm hg (by have : (PyData.dict []).depth ≤ 2 := (by decide); omega) (fun _ _ e => e) (fun h' u tk hk => ⟨.str _, H, I.kept hk, ⟨_, rfl⟩, q⟩) (by decide)
  | scr h => cases hy
  | ins h c r' => cases hy
  | cls c => cases hy
  | exn0 h c => cases hy
  | exnD h g c r' => cases hy
theorem reprX_str {d y : D} (h : reprX d = some y) : ∃ t, y = .str t := by
  cases d <;> simp only [reprX, Option.bind_eq_some_iff, Option.map_eq_some_iff, reduceCtorEq, Option.some.injEq] at h
  · exact ⟨_, h.symm⟩
  · exact ⟨_, h.symm⟩
  · split at h
    · cases h; exact ⟨_, rfl⟩
    · cases h
  · split at h
    · cases h; exact ⟨_, rfl⟩
    · cases h
  · obtain ⟨p, _, t, _, rfl⟩ := h; exact ⟨_, rfl⟩
  · obtain ⟨p, _, t, _, rfl⟩ := h; exact ⟨_, rfl⟩
  · rename_i ks vs
    cases ks with
    | cons k ks => cases h
    | nil =>
      cases vs with
      | nil => cases h; exact ⟨_, rfl⟩
      | cons v vs => cases h
theorem callD_reprX {K : PySem.W.Frag} {ca : Str → Option Addr} : CallD K ca (rReprX K) reprXL := by
  intro H L N vs ds d Q fr hv e hq
  unfold reprXL at e
  split at e
  · cases hv with
    | cons h r =>
      cases r
      obtain ⟨t, rfl⟩ := reprX_str e
      exact ⟨_, _, _, .str t, ca, rfl, h.rp, e, fun _ => .str t, hq _ H (Ex.refl H) (.str _)⟩
  · cases e
theorem pd_reprX (hK : X.K = z.K) (hu : X.A.units + 64 < cLine) (hgu : X.A.guards = some []) (hm : X.mg "repr" = none) (ha : PBA X z O EX [e] fa) (hg : Gl X "repr" := by rfl) (he : starEach [e] X.env = (false, eval e X.env) :: starEach [] X.env := by rfl) (hpl : (backTo pos (starEach [] X.env)).any (·.1) = false := by rfl) :
    PD X z O EX (.Call (.Name "repr" p) [e] [] pos) (callE reprXL fa) := pd_callB (r := rReprX z.K) (hK ▸ call_repr_x hu hgu) callD_reprX hm ha hg (by decide +kernel) (by decide) (by decide) he hpl
end
/-! ### what an except clause and isinstance ask -/
theorem kit_cls {K : PySem.W.Frag} {D C : Addr} {k : Bool} (hd : PySem.W.hasDictIn K C = true) (ty : PySem.W.typeIn K (.ref C) = some (.type "type")) (m : PySem.W.mroIn K D (.ref C) = some k) : PySem.W.kitCls K (.ref D) (.ref C) = some k := by
  obtain ⟨cd, w, _⟩ := PySem.W.any_some hd
  show (if ((PySem.W.clsIn K C).isSome && PySem.W.typeIn K (.ref C) == some (.type "type")) = true then PySem.W.subIn K (.ref D) (.ref C) else none) = some k
  rw [if_pos (by rw [w, ty]; exact beq_self_eq_true _)]
  exact m
theorem kit_ref {K : PySem.W.Frag} {D C : Addr} {k : Bool} (hd : PySem.W.hasDictIn K C = true) (ty : PySem.W.typeIn K (.ref C) = some (.type "type")) (self : PySem.W.mroIn K D (.ref D) = some true) (m : PySem.W.mroIn K D (.ref C) = some k) : PySem.W.kitOne K (.ref D) (.ref C) = some k := by
  show (if (Value.ref D == Value.ref C) = true then some true else PySem.W.kitCls K (.ref D) (.ref C)) = some k
  split
  · rename_i e
    have e := beq_iff_eq.mp e
    cases e
    rw [self] at m
    exact m
  · exact kit_cls hd ty m
theorem kit_bty {K : PySem.W.Frag} {D : Addr} {T : String} {k : Bool} (mt : PySem.W.kitMeta T = true) (m : PySem.W.mroIn K D (.type T) = some k) : PySem.W.kitOne K (.ref D) (.type T) = some k := by
  show (if (Value.ref D == Value.type T) = true then some true else PySem.W.kitCls K (.ref D) (.type T)) = some k
  rw [if_neg (by intro q; cases q)]
  show (if PySem.W.kitMeta T = true then PySem.W.subIn K (.ref D) (.type T) else none) = some k
  rw [if_pos mt]
  exact m
theorem exm_ref {K : PySem.W.Frag} {D C : Addr} {k : Bool} (ex : PySem.W.mroIn K C (.type "BaseException") = some true) (hd : PySem.W.hasDictIn K C = true) (ty : PySem.W.typeIn K (.ref C) = some (.type "type")) (m : PySem.W.mroIn K D (.ref C) = some k) : PySem.W.exmOne K (.ref D) (.ref C) = some k := by
  unfold PySem.W.exmOne
  rw [if_pos (by rw [show PySem.W.subIn K (.ref C) (.type "BaseException") = some true from ex]; exact beq_self_eq_true _)]
  exact kit_cls hd ty m
theorem exm_three {K : PySem.W.Frag} {v c1 c2 c3 : Value} {b1 b2 b3 : Bool} (h1 : PySem.W.exmOne K v c1 = some b1) (h2 : PySem.W.exmOne K v c2 = some b2) (h3 : PySem.W.exmOne K v c3 = some b3) : PySem.W.exmAny K v [c1, c2, c3] = some (b1 || (b2 || (b3 || false))) := by
  simp only [PySem.W.exmAny, h1, h2, h3]
end PL
set_option Elab.async false
set_option linter.all false
set_option maxRecDepth 100000
set_option maxHeartbeats 4000000
/-! A lambda without parameters, handed to a def that calls it within a try. -/
namespace PL
open PySem PySem.Spec PyProof.Rows L2
section
variable {X : Cx} {pins : List (Addr × Obj)} {σ : L2.St} {H HZ : Hp} {s s1 : Shared} {scope : Scope} {f c' : Addr}
/-- it is called, its maker's frame as it stood -/
theorem lam_go {A' : Around} {up' : List PySem.Env} {E : XK} {k : Nat} {params : Arguments} {body : Expr} {pm ctv : Value} {tb : TE} {Q : VK} (I : Inv X pins σ H s) (L : LamX.LamS X.env.scope scope)
    (of1 : s1.heap.get? f = some (PySem.W.kla_obj "<lambda>" (X.env.qual ++ "<lambda>") params body scope (cloFrom X.env.cells scope.names []) pm c' ctv))
    (hbind : bindArgs (PySem.W.kla_fn "<lambda>" (X.env.qual ++ "<lambda>") params body scope (cloFrom X.env.cells scope.names []) pm (.ref c') ctv) ⟨[], []⟩ = pure [])
    (e0 : Env0 X.prog X.w X.K X.mg X.base A' up' s1 HZ) (un : Un (frs X.stack) [] H HZ s.heap s1.heap) (hc : HZ c' = some (LamX.CodeO c' (X.env.qual ++ "<lambda>"))) (hr : Room (k + 1) A')
    (hbody : Room k (A'.deeper (LamX.lamEnv X scope s1.heap.objs.size f c')) → PE (LamX.lamCx X A' up' s1 HZ E scope f c') body tb) (ht : tb σ HZ Q) :
    codeAny (model X.prog X.w) A' (.call (.ref f) ⟨[], []⟩) (CR (L2.CX X.prog X.w) up' X.prog X.w HZ s1 Q E) s1 := by
  have nol : s1.heap.NoLimit := e0.mod.nolimit.keeps fun b o e => (e0.bs b o e).1
  obtain ⟨⟨oc, ws, tt, g1, g2, g3⟩, _, _⟩ := e0.hok c' _ hc
  refine PySem.W.kla_callFunE hr.depth of1 rfl L.co L.gen rfl ⟨c', oc, ws, tt, rfl, g1, g2, g3⟩ ?_
  rw [hbind]
  refine wpAny_pure (wpAny_newFunctionEnv (fun y hy => (L.own y hy).2) (fun y hy => nomatch hy) (fun h₁ hns hsb => ?_) L.kind)
  refine ⟨nol.fresh _ hsb, ?_⟩
  have grows : ∀ b o, s1.heap.get? b = some o → h₁.get? b = some o := fun b o w => hsb.extBut b o (Nat.ne_of_lt (Heap.lt_size w)) (Heap.get?_push_of_some _ w)
  have J0 := LamX.lam_start2 (A := A') (outer := up') (E := E) (f := f) (c' := c') (tk := s1.toks + ([] : List (Str × Value)).length) I L e0 hr.hd un hns grows
  have go := (hbody (hr.deeper _)).run [] _ _ HZ Q J0 ht
  exact PySem.W.kla_codeExpr (wpAny_mono go (fun v s' ⟨w', H', J', rv, q⟩ => ⟨w', H', J'.os, J'.bare, J'.base, J'.hok, rv, q⟩) fun _ _ q => q)
theorem takes_lam {A' : Around} {up' : List PySem.Env} {E : XK} : L2.Takes (LamX.lamCx X A' up' s1 HZ E scope f c') (fun cls d _ H => E cls d H) := takes_of rfl rfl rfl rfl
end
/-- what is known of the function at f, from the state s, H on: r tells what a call of it gives; B is hidden -/
structure ActK (Pg : Program) (w : World) (K : PySem.W.Frag) (ca : Str → Option Addr) (mg : Str → Option Value) (base : Heap) (T : Tb) (j : Nat) (f : Addr) (s : Shared) (H : Hp) (up : List PySem.Env) (B : List Addr) (r : R D) : Prop where
  fn : ∀ (s1 : Shared) (HZ : Hp), Un (frs up) [] H HZ s.heap s1.heap → PySem.W.FnAt f s1.heap
  go : ∀ (env2 : PySem.Env) (A' : Around) (s1 : Shared) (HZ : Hp) (Q : VK) (E : XK), Room j A' → A'.guards = some [] → Env0 Pg w K mg base A' (env2 :: up) s1 HZ → Un (frs up) [] H HZ s.heap s1.heap → GrT T H HZ → LamX.Tabs T HZ →
    Sat r (fun d => ∀ v H', GrT T HZ H' → LamX.Tabs T H' → Rp K ca (Frz H' B) v d → Q v H') (fun c ns ws => ∀ cls d H', GrT T HZ H' → LamX.Tabs T H' → Xp K ca (Frz H' B) cls d c ns ws → E cls d H') →
    codeAny (model Pg w) A' (.call (.ref f) ⟨[], []⟩) (CR (L2.CX Pg w) (env2 :: up) Pg w HZ s1 Q E) s1
section
variable {X : Cx} {z : Z} {O OO OL : List Nat} {EX : EXT} {fs gs : FS}
/-- a statement, the hidden addresses told -/
def EvSB (z : Z) (Bc : List Addr → Prop) (OI OO OL : List Nat) (EX : EXT) (t : TS) (f : FS) : Prop :=
  ∀ B P σ H ρ S D', Bc B → P.map (·.1) = OI → Rel z B P σ H ρ S → Sat (f ρ S) (PostS z B (Frz H (z.L B P)) OO OL D') EX → t D' σ H
structure PSdB (X : Cx) (z : Z) (Bc : List Addr → Prop) (OI OO OL : List Nat) (EX : EXT) (s : Stmt) (f : FS) : Prop where
  ex : ∃ t, PS X s t ∧ EvSB z Bc OI OO OL EX t f
structure PSSB (X : Cx) (z : Z) (Bc : List Addr → Prop) (OI OO OL : List Nat) (EX : EXT) (s : List Stmt) (f : FS) : Prop where
  ex : ∃ t, PSs X s t ∧ EvSB z Bc OI OO OL EX t f
theorem pssb_cons {OI OM : List Nat} {Bc : List Addr → Prop} {st : Stmt} {sts : List Stmt} (h1 : PSdB X z Bc OI OM OL EX st fs) (h2 : PSS X z OM OO OL EX sts gs) : PSSB X z Bc OI OO OL EX (st :: sts) (seqS fs gs) := by
  obtain ⟨t, p, q⟩ := h1.ex
  obtain ⟨u, p2, q2⟩ := h2.ex
  refine ⟨_, pss_cons p p2, fun B P σ H ρ S D' hB hP rr hs => ?_⟩
  refine q B P σ H ρ S _ hB hP rr ((sat_bind.mp hs).imp fun r hr => ?_)
  obtain ⟨c, ρ1, S1⟩ := r
  cases c with
  | nx =>
    intro P' σ' H' h1 h2 h3
    exact q2 B P' σ' H' ρ1 S1 D' h1 h3 (Sat.imp hr fun _ w => w.mono h2)
  | bk => exact hr
  | ct => exact hr
  | rt d => exact hr
end
end PL
set_option Elab.async false
set_option linter.all false
set_option maxRecDepth 100000
set_option maxHeartbeats 4000000
namespace PL
open PySem PySem.Spec PyProof.Rows L2
/-- try: x = a() / except .. as e: ..; r is what a() gives -/
def tryT (i j : Nat) (ct : Str → Option Bool) (r : R D) (fs : FS) : FS := fun ρ S => match r with
  | .ok d => setE ρ j d >>= fun ρ1 => R.ok (.nx, ρ1, S)
  | .exc c ns ws => if ct c = some true then setE ρ i (.exn c ns ws) >>= fun ρ1 => noX (fs ρ1 S) >>= fun r => R.ok (r.1, r.2.1.set i none, r.2.2) else R.bad
  | .bad => R.bad
section
variable {X : Cx} {ca : Str → Option Addr} {T : Tb} {OL : List Nat} {EX : EXT} {s0 : L2.St} {f : Addr} {B0 : List Addr}
/-- what is wished of an exception out of a() -/
def WAct (z : Z) (B : List Addr) (σ : L2.St) (H : Hp) (ρ : Env) (S : List D) (r : R D) : WX := fun cls d σ' H' => σ' = σ ∧ Ex (Frz H (z.L B [])) (Frz H' (z.L B [])) ∧ Rel z B [] σ H' ρ S ∧ ∃ c ns ws, r = .exc c ns ws ∧ Xp z.K z.ca (Frz H' (z.L B [])) cls d c ns ws
/-- a(), a the def's parameter -/
theorem pe_actx {j : Nat} {r : R D} {W : WX} {a : Str} {p1 p2 : Pos} {σ : L2.St} {H : Hp} {pn : List (Addr × Obj)} {xe : Value → Shared → Prop} (A : ActK X.prog X.w X.K ca X.mg X.base T j f X.s_0 X.H_0 X.outer B0 r) (hs : X.stack = X.env :: X.outer) (hex : X.ex = []) (hr : Rm j X.A) (tk : L2.Takes (X.tr pn xe) W)
    (h0 : σ[0]? = some (some (.ref f))) (g : GrT T X.H_0 H) (tt : LamX.Tabs T H) (hN : X.N[0]? = some a) (hv : Vis X.env.scope a) (hd : (a == ("__debug__" : Str)) = false) (hcd : (a == ("__classdict__" : Str)) = false) :
    PE (X.tr pn xe) (.Call (.Name a p1) [] [] p2) (fun σ' H' Q => σ' = σ ∧ H' = H ∧ Sat r (fun d => ∀ v H2, GrT T H H2 → LamX.Tabs T H2 → Rp X.K ca (Frz H2 B0) v d → Q v H2) (fun c ns ws => ∀ cls d H2, GrT T H H2 → LamX.Tabs T H2 → Xp X.K ca (Frz H2 B0) cls d c ns ws → W cls d σ H2)) := by
  refine ⟨fun pins s σ' H' Q I h => ?_⟩
  obtain ⟨rfl, rfl, h⟩ := h
  have named := (pe_var (X := X.tr pn xe) (pos := p1) (i := 0) hN hv hd hcd).run pins s σ' H' (fun v H1 => v = .ref f ∧ H1 = H') I ⟨.ref f, h0, rfl, rfl⟩
  refine wpAny_Call_Name_kw (thn named fun u s1 hu => ?_)
  obtain ⟨v, H1, I1, r1, rfl, rfl⟩ := hu
  obtain rfl : u = Value.ref f := r1
  have un : Un (frs X.outer) [] X.H_0 H1 X.s_0.heap s1.heap := hex ▸ I1.base
  have e0 : Env0 X.prog X.w X.K X.mg X.base X.A (X.env :: X.outer) s1 H1 := hs ▸ I1.env0
  refine PySem.W.callWith_F0 (A.fn s1 H1 un) (wpAny_call (codeAny_mono (A.go X.env X.A s1 H1 Q (fun cls d H2 => W cls d σ' H2) hr.r hr.g e0 un g tt h) fun res s2 hq => ?_))
  rw [← hs] at hq
  match res, hq with
  | .ok (.ret u), hq => exact I1.after hq
  | .ok .next, hq => exact hq.elim
  | .ok .brk, hq => exact hq.elim
  | .ok .cont, hq => exact hq.elim
  | .error er, hq => exact tk _ _ (XE.of_call I1 (fun _ _ _ z => z) hq)
theorem psdb_tryAct {jj : Nat} {r : R D} {te : Expr} {n x a : Str} {suite : List Stmt} {b0 : Stmt} {p1 p2 p3 p4 pos pos' : Pos} {fv : Value → Option Bool} {ct : Str → Option Bool} {fs : FS} (i j : Nat) (A : ActK X.prog X.w X.K ca X.mg X.base T jj f X.s_0 X.H_0 X.outer B0 r) (hr : Rm jj X.A) (hs : X.stack = X.env :: X.outer) (hex : X.ex = []) (hf : X.env.frame = some X.env.locals)
    (hN : X.N.Nodup) (hi : X.N[i]? = some n) (hln : X.env.kindOf n = some .local) (hj : X.N[j]? = some x) (hlx : X.env.scope.names.lookup x = some .local) (h0 : X.N[0]? = some a) (hva : Vis X.env.scope a) (hd : (a == ("__debug__" : Str)) = false) (hcd : (a == ("__classdict__" : Str)) = false)
    (hs0 : s0[0]? = some (some (.ref f))) (hct : CTest X te fv) (hfc : ∀ c C, ca c = some C → ct c = some true → fv (.ref C) = some true) (hi0 : i ∉ [0]) (hj0 : j ∉ [0]) (hOL : OL = [])
    (hsu : ∀ (a : Addr) (pn : List (Addr × Obj)), PSS (X.suite a pn) ⟨X.K, ca, X.H_0, none, .lst, T, [], s0, [0]⟩ [] [] OL EX0 (b0 :: suite) fs)
    (hsw : swapsWith (.Call (.Name a p1) [] [] p2) (some (.Name x p3)) p4.line X.env = pure false := by rfl) :
    PSdB X ⟨X.K, ca, X.H_0, none, .lst, T, [], s0, [0]⟩ (fun B => ∀ H', Frz H' ((⟨X.K, ca, X.H_0, none, .lst, T, [], s0, [0]⟩ : Z).L B []) = Frz H' B0) [] [] OL EX
      (.Try [.Assign [.Name x p3] (.Call (.Name a p1) [] [] p2) p4] [.ExceptHandler (some te) (some n) (b0 :: suite) pos'] [] [] pos) (tryT i j ct r fs) := by
  subst hOL
  generalize hz : (⟨X.K, ca, X.H_0, none, .lst, T, [], s0, [0]⟩ : Z) = z at *
  have zi : NotPl z i := by rw [← hz]; exact ⟨fun _ _ e => (nomatch e), hi0⟩
  have zj : NotPl z j := by rw [← hz]; exact ⟨fun _ _ e => (nomatch e), hj0⟩
  have zT : z.tb = T := by rw [← hz]
  have zK : z.K = X.K := by rw [← hz]
  have zc : z.ca = ca := by rw [← hz]
  refine ⟨fun D' σ H => ∃ B ρ S, (∀ H', Frz H' (z.L B []) = Frz H' B0) ∧ Rel z B [] σ H ρ S ∧ Sat (tryT i j ct r fs ρ S) (PostS z B (Frz H (z.L B [])) [] [] D') EX, ⟨fun pins s σ H D' I hyp => ?_⟩, fun B P σ H ρ S D' hB hP rr hq => ?_⟩
  · obtain ⟨B, ρ, S, hB, rr, hq⟩ := hyp
    have ok := I.ok
    have hfr : X.A.frames = some (X.env :: X.outer) := by rw [ok.frames, hs]
    have g : GrT T X.H_0 H := fun a o n e => by
      have ex := rr.ex
      rw [← hz] at ex
      exact ex a o e (by simpa [Z.pls] using n)
    have tt : LamX.Tabs T H := zT ▸ rr.tabs
    have σ0 : σ[0]? = some (some (.ref f)) := by
      have q := rr.xt.2
      rw [← hz] at q
      exact (q 0 List.mem_cons_self).trans hs0
    have grow : ∀ {H2 : Hp}, GrT T H H2 → LamX.Tabs T H2 → Rel z B [] σ H2 ρ S ∧ Ex (Frz H (z.L B [])) (Frz H2 (z.L B [])) := fun {H2} g2 t2 => by
      have g3 : GrT z.tb H H2 := by rw [zT]; exact g2
      have t3 : LamX.Tabs z.tb H2 := by rw [zT]; exact t2
      exact ⟨rr.growT g3 t3, g3.grow.frz⟩
    refine wpAny_Try_except ?_
    have tkb : L2.Takes (X.tr (X.pn ++ pins) (Looking X pins D' [.ExceptHandler (some te) (some n) (b0 :: suite) pos'])) (WAct z B σ H ρ S r) := by
      intro u s' xx
      obtain ⟨ad, Bh, sI, pins', σ', H', cls, d, rfl, J', nb, up, sky, na, os, ag, w⟩ := xx
      obtain ⟨rfl, ec, rc, c, ns, ws, hrr, hx⟩ := w
      have J : Inv X pins σ' H' sI := J'.ofTry ok
      have sky' : Sky Bh (X.env :: X.outer) ad (Zc cls d) X.env.locals s'.heap := by
        rw [← hs]
        exact sky
      refine Sky.land Zc.steady hfr hf sky' fun h3 fl3 up3 => ?_
      have J3 : Inv X pins σ' H' { s' with heap := h3 } := J.landed nb fl3.1 (up.trans up3) os ag
      obtain ⟨oe3, vs3, he3, hz3, hd3⟩ := fl3.there
      unfold tryT at hq
      rw [hrr] at hq
      dsimp only at hq
      split at hq
      · rename_i hcc
        have nfr : ad ∉ frs (X.env :: X.outer) := fun hm => by
          obtain ⟨_, o', e', hnf⟩ := fl3.2.2.1.mem hm
          rw [he3] at e'
          cases e'
          exact hnf _ hd3
        have nI : sI.heap.get? ad = none := by
          cases q : sI.heap.get? ad with
          | none => rfl
          | some o =>
            have w1 := nb ad o q (by rw [hs]; exact nfr)
            rw [fl3.2.1] at w1
            cases w1
        have hC : ∃ C, cls = .ref C ∧ ca c = some C := by
          rw [zc] at hx
          cases hx with
          | d0 h => exact ⟨_, rfl, h⟩
          | dD h _ _ => exact ⟨_, rfl, h⟩
        obtain ⟨C, rfl, hca⟩ := hC
        have LT : PySem.W.Looks (model X.prog X.w) h3 (typeOf (.ref ad)) (.ref C) := fun A Q E s k q => wpAny_typeOf_ref (k _ _ he3) (by rw [hz3.1]; exact q)
        refine wpAny_handleBy_cons (codeAny_handlers_test ?_) (by intro q; cases q)
        refine hct ad (X.pn ++ pins) σ' H' { s' with heap := h3 } (.ref C) true _ _ (Inv.hot J3 ad) (hfc c C hca hcc) LT fun cv h5 k5 LM => ?_
        refine LM.here ?_
        refine codeAny_handlers_suite_as ?_
        refine HandSPX.lands_againZ (flying_on fl3 k5) fun h4 fl4 up4 => ?_
        obtain ⟨oe4, vs4, he4, hz4, hd4⟩ := fl4.there
        have J4 : Inv X pins σ' (upd H' ad (exT ad C d)) { s' with heap := h4 } := landX (s' := { s' with heap := h4 }) J nb fl4.1 (((up.trans up3).trans (Heap.UpToSlots.of_keeps k5)).trans up4) os ag na nI he4 hz4.1 hz4.2 hd4
        refine store_ok (X := X.suite ad (X.pn ++ pins)) (v := .ref ad) (Inv.hot J4 ad) hN hi (.inl hln) rfl (fun s5 S5 => ?_) (.inr hln)
        obtain ⟨wl, hsat⟩ := sat_set (sat_bind.mp hq)
        have nL : ad ∉ z.L B [] := rc.fresh na
        have eg : Ex H' (upd H' ad (exT ad C d)) := Ex.new na
        have eF : Ex (Frz H' (z.L B [])) (Frz (upd H' ad (exT ad C d)) (z.L B [])) := (Grow.of (z := z) eg).frz
        have ra := (rc.grow eg).set (i := i) (v := .ref ad) (d := .exn c ns ws) (by
          cases hx with
          | d0 h => exact .exn0 (frz_of upd_same nL) h
          | dD h g q => exact .exnD (frz_of upd_same nL) (eF _ _ g) h (q.mono eF)) (fun p hp => nomatch hp) zi wl
        obtain ⟨t, pt, qt⟩ := (hsu ad (X.pn ++ pins)).ex
        have end_ : ∀ {σ6 : L2.St} {H6 : Hp} {s6 : Shared} {Q : Shared → Prop}, Inv (X.suite ad (X.pn ++ pins)) [] σ6 H6 s6 → (∀ s7, Inv X pins (σ6.set i none) H6 s7 → Q s7) →
            wpAny (model X.prog X.w) X.A (do bindName X.env n .none; unbindBehindTheSuite X.env n pos') (fun _ s7 => Q s7) X.xe s6 := fun {σ6 H6 s6 Q} S6 hq => gone_ok (Inv.cool S6 ok) hN hi hln hq
        refine wpAny_mono (pt.run [] s5 _ _ { nx := fun σ6 H6 => D'.nx (σ6.set i none) H6, rt := D'.rt, bk := fun σ6 H6 => D'.bk (σ6.set i none) H6, ct := fun σ6 H6 => D'.ct (σ6.set i none) H6 } S5 (qt B [] _ _ _ S _ rfl ra ((sat_noX (sat_bind.mp hsat)).imp fun r6 hr6 => ?_))) (fun fl s6 hsp => ?_) (fun _ _ q => False.elim q)
        · obtain ⟨c6, ρ6, S6⟩ := r6
          have mono : ∀ {F : Hp}, Ex (Frz (upd H' ad (exT ad C d)) (z.L B [])) F → Ex (Frz H (z.L B [])) F := fun {F} h => (ec.trans eF).trans h
          cases c6 with
          | nx =>
            intro P' σ6 H6 h1 h2 h3
            exact hr6 P' _ H6 h1 (mono h2) (h3.unset (own_ne h1 rfl) zi)
          | bk =>
            intro P' σ6 H6 h1 h2 h3
            exact hr6 P' _ H6 h1 (mono h2) (h3.unset (own_ne h1 rfl) zi)
          | ct =>
            intro P' σ6 H6 h1 h2 h3
            exact hr6 P' _ H6 h1 (mono h2) (h3.unset (own_ne h1 rfl) zi)
          | rt d =>
            intro v H6 hfin
            exact hr6 v H6 hfin
        · cases fl with
          | next =>
            obtain ⟨σ6, H6, S6, q6⟩ := hsp
            exact end_ S6 fun s7 J7 => ⟨_, _, J7, q6⟩
          | brk =>
            obtain ⟨σ6, H6, S6, q6⟩ := hsp
            exact end_ S6 fun s7 J7 => ⟨_, _, J7, q6⟩
          | cont =>
            obtain ⟨σ6, H6, S6, q6⟩ := hsp
            exact end_ S6 fun s7 J7 => ⟨_, _, J7, q6⟩
          | ret u =>
            obtain ⟨v6, σ6, H6, S6, r6, q6⟩ := hsp
            exact end_ S6 fun s7 J7 => ⟨_, _, _, J7, r6, q6⟩
      · exact hq.elim
    have act := pe_actx (σ := σ) (H := H) (p1 := p1) (p2 := p2) A hs hex hr tkb σ0 g tt h0 hva hd hcd
    have body := pss_one (ps_set (X := X.tr (X.pn ++ pins) (Looking X pins D' [.ExceptHandler (some te) (some n) (b0 :: suite) pos'])) (pos := p4) (pos' := p3) hN hj (.inl hlx) act hsw (.inr hlx))
    refine wpAny_mono (body.run [] s σ H { nx := D'.nx, rt := fun _ _ => False, bk := fun _ _ => False, ct := fun _ _ => False } (I.toTry _) ⟨rfl, rfl, ?_⟩) (fun fl s1 hsp => ?_) (fun er s1 q => q)
    · unfold tryT at hq
      cases r with
      | bad => exact hq.elim
      | exc c ns ws =>
        intro cls d H2 g2 t2 hx
        obtain ⟨r2, e2⟩ := grow g2 t2
        exact ⟨rfl, e2, r2, c, ns, ws, rfl, by rw [hB, zK, zc]; exact hx⟩
      | ok d =>
        intro v H2 g2 t2 hv
        obtain ⟨r2, e2⟩ := grow g2 t2
        obtain ⟨wl, hsat⟩ := sat_set (sat_bind.mp hq)
        exact hsat [] _ H2 rfl e2 (r2.set (by rw [hB, zK, zc]; exact hv) (fun p hp => nomatch hp) zj wl)
    · cases fl with
      | next =>
        obtain ⟨σ1, H1, J1, q⟩ := hsp
        exact wpAny_execs_nil ⟨σ1, H1, J1.ofTry ok, q⟩
      | brk =>
        obtain ⟨σ1, H1, J1, q⟩ := hsp
        exact q.elim
      | cont =>
        obtain ⟨σ1, H1, J1, q⟩ := hsp
        exact q.elim
      | ret u =>
        obtain ⟨v, σ1, H1, J1, rv, q⟩ := hsp
        exact q.elim
  · have eP : P = [] := List.map_eq_nil_iff.mp hP
    subst eP
    exact ⟨B, ρ, S, hB, rr, hq⟩
end
end PL
set_option Elab.async false
set_option linter.all false
set_option maxRecDepth 100000
set_option maxHeartbeats 4000000
/-! Defs that get such a lambda: what they promise; calls of them. -/
namespace PL
open PySem PySem.Spec PyProof.Rows L2
structure FnT (Pg : Program) (w : World) (K : PySem.W.Frag) (mg : Str → Option Value) (base : Heap) (k : Nat) (fA : Addr) (fd : FuncData) (p : Str) (ca : Str → Option Addr) (T : Tb) (F : R D → R D) : Prop where
  go : ∀ (m : Nat) (A : Around) (up : List PySem.Env) (s : Shared) (H : Hp) (f : Addr) (B : List Addr) (r : R D) (Q : VK), k ≤ m → Room (m + 1) A → A.guards = some [] → Env0 Pg w K mg base A up s H → BindsTo s fd ⟨[.ref f], []⟩ [(p, .ref f)] →
    B.Nodup → (∀ b ∈ B, H b ≠ none) → TIn T B H → ActK Pg w K ca mg base T m f s H up B r → Sat (F r) (fun d => ∀ v H', GrT T H H' → LamX.Tabs T H' → Rp K ca (Frz H' B) v d → Q v H') EX0 →
    codeAny (model Pg w) A (.call (.ref fA) ⟨[.ref f], []⟩) (CR CX0 up Pg w H s Q E0) s
def runT (n : Nat) (fs : R D → FS) : R D → R D := fun r => fs r (List.replicate n none) [] >>= endD
section
variable {Pg : Program} {w : World} {K : PySem.W.Frag} {mg : Str → Option Value} {base : Heap} {j k : Nat} {fA : Addr} {fd : FuncData} {ca : Str → Option Addr} {T : Tb}
theorem rel_act {N : List Str} {f : Addr} {H : Hp} {B : List Addr} (hB : B.Nodup) (hb : ∀ b ∈ B, H b ≠ none) (ti : TIn T B H) (hl : (L2.start N [V.ref f]).length = N.length) :
    Rel ⟨K, ca, H, none, .lst, T, [], L2.start N [V.ref f], [0]⟩ (beside T B) [] (L2.start N [V.ref f]) H (List.replicate N.length none) [] where
  val := fun i d _ h => by
    rw [List.getElem?_replicate] at h
    split at h <;> cases h
  own := fun p hp => nomatch hp
  pool := fun i a h => nomatch h
  nd := beside_nd hB ti.nd
  there := fun b hb' => hb b (beside_mem.mp hb').1
  ex := fun a o h _ => h
  new := fun p hp => nomatch hp
  len := by rw [hl, List.length_replicate]
  tabs := ti.tabs
  xt := ⟨fun a ha => (nomatch ha), fun _ _ => rfl⟩
/-- from the body -/
theorem fn_t {x qual p : Str} {st : Stmt} {N : List Str} {fs : R D → FS} {OO : List Nat} (F : Fun K x qual st fA fd) (Sc : FnScope N [p] (defScope st)) (h0 : ∀ f : Addr, (L2.start N [V.ref f])[0]? = some (some (V.ref f))) (hl : ∀ f : Addr, (L2.start N [V.ref f]).length = N.length)
    (body : ∀ (m : Nat) (cdv : Value) (A : Around) (outer : List PySem.Env) (s : Shared) (H : Hp) (f : Addr) (B0 : List Addr) (r : R D) (s0 : L2.St), Rm m (A.deeper (envOfC qual (defScope st) s.heap.objs.size fA cdv)) → Rm k (A.deeper (envOfC qual (defScope st) s.heap.objs.size fA cdv)) →
      s0[0]? = some (some (V.ref f)) → ActK Pg w K ca mg base T m f s H outer B0 r →
      PSSB (cxOf CX0 Pg w K mg base N qual (defScope st) fA cdv A outer s H E0).nox ⟨K, ca, H, none, .lst, T, [], s0, [0]⟩ (fun B => ∀ H', Frz H' ((⟨K, ca, H, none, .lst, T, [], s0, [0]⟩ : Z).L B []) = Frz H' B0) [] OO [] EX0 (defBody st) (fs r)) :
    FnT Pg w K mg base k fA fd p ca T (runT N.length fs) := by
  obtain ⟨oc, od, kV, doc, pm, an, cdv, ct, osl, rfl, lk, hcd⟩ := F.ex
  refine ⟨fun m A up s H f B r Q hkm hr hgu e0 hb hB hbn ti act hsat => ?_⟩
  have kin : K.In s.heap := e0.mod.kin.keeps fun b o e => (e0.bs b o e).1
  have nolim : s.heap.NoLimit := e0.mod.nolimit.keeps fun b o e => (e0.bs b o e).1
  refine codeAny_call_function hr.depth (kin _ _ lk) rfl Sc.co Sc.gen rfl (PySem.W.codeRec_of kin hcd) (hb _ _ _ _ (wpAny_newFunctionEnv_cells Sc.kind (fun y hy => ?_) fun env he s1 xc => ?_))
  · rw [List.mem_singleton.mp hy]
    exact (Sc.par p List.mem_cons_self).imp id fun q => ⟨q, PySem.W.cellsFrom_some _ _ _ (.inl q)⟩
  · subst he
    have hd : Rm m (A.deeper (envOfC qual (defScope st) s.heap.objs.size fA cdv)) := ⟨hr.deeper _, hgu⟩
    obtain ⟨t, pt, q⟩ := (body m cdv A up s H f B r (L2.start N [V.ref f]) hd (hd.mono hkm) (h0 f) act).ex
    have J : Inv (cxOf CX0 Pg w K mg base N qual (defScope st) fA cdv A up s H E0) [] (L2.start N [V.ref f]) H s1 := inv_start (vs := [V.ref f]) (us := [Value.ref f]) Sc hr.hd e0 rfl (.cons rfl .nil) xc
    have ef : ∀ H', Frz H' ((⟨K, ca, H, none, .lst, T, [], L2.start N [V.ref f], [0]⟩ : Z).L (beside T B) []) = Frz H' B := fun H' => frz_congr fun a => beside_iff ti.sub a
    have hq : t { nx := fun _ H' => Q .non H', rt := Q } (L2.start N [V.ref f]) H := by
      refine q (beside T B) [] _ H (List.replicate N.length none) [] _ ef rfl (rel_act hB hbn ti (hl f)) ((sat_bind.mp hsat).imp fun rr hr' => ?_)
      obtain ⟨c, ρ1, S1⟩ := rr
      cases c with
      | nx =>
        intro P' σ' H' h1 h2 h3
        have hr' : ∀ v H', GrT T H H' → LamX.Tabs T H' → Rp K ca (Frz H' B) v .non → Q v H' := hr'
        exact hr' .non H' (fun a o n e => h3.ex a o e n) h3.tabs .non
      | rt d =>
        intro v H' hf
        have hr' : ∀ v H', GrT T H H' → LamX.Tabs T H' → Rp K ca (Frz H' B) v d → Q v H' := hr'
        exact hr' v H' (fun a o n e => hf.ex a o e n) hf.tabs (ef H' ▸ hf.val)
      | bk => exact hr'.elim
      | ct => exact hr'.elim
    refine ⟨nolim.keeps xc.toInCall.keep, codeAny_func (wpAny_mono (pt.nox.run [] s1 _ H _ J hq) (fun fl s' hs => ?_) fun e s' hs => hs)⟩
    cases fl with
    | ret u => obtain ⟨v, σ', H', J2, r2, q2⟩ := hs; exact ⟨v, H', J2.os, J2.bare, J2.base, J2.hok, r2, q2⟩
    | next => obtain ⟨σ', H', J2, q2⟩ := hs; exact ⟨V.non, H', J2.os, J2.bare, J2.base, J2.hok, rfl, q2⟩
    | brk => obtain ⟨_, _, _, q2⟩ := hs; exact q2.elim
    | cont => obtain ⟨_, _, _, q2⟩ := hs; exact q2.elim
end
/-- what such a def makes of the lambda's answer -/
def lamE (KO : List Nat) (F : R D → R D) (fE : FE) : FE := fun ρ S => noX (F (fE (wipeE ρ KO) [] >>= fun x => R.ok x.1)) >>= fun d => R.ok (d, S)
section
variable {X : Cx} {z : Z} {O : List Nat} {EX : EXT} {k m : Nat} {fA c P : Addr} {fd : FuncData} {x a : Str} {params : Arguments} {body : Expr} {scope : Scope} {F : R D → R D} {fE : FE} {p lpos pos : Pos}
theorem pd_lamcall (KO : List Nat) (hK : X.K = z.K) (G : FnT X.prog X.w X.K X.mg X.base k fA fd a z.ca z.tb F) (hkm : k ≤ m + 1) (hr : Rm (m + 2) X.A) (hm : X.mg x = some (.ref fA)) (hk : PySem.W.keepIn X.K (.ref fA) = true) (hb : Binds X.K fd [a] [])
    (TB : LamX.TabB X.base X.mg c P) (hcode : X.env.code = .ref c) (hmT : (P, X.env.qual ++ "<lambda>") ∈ z.tb) (hu : ∀ q ∈ z.tb, q.1 = P → q.2 = X.env.qual ++ "<lambda>") (L : LamX.LamS X.env.scope scope) (hdef : defaultsOf params X.env = ([], []))
    (hbind : ∀ (q : Str) (cl : List (Str × Addr)) (pm cv ctv : Value), bindArgs (PySem.W.kla_fn "<lambda>" q params body scope cl pm cv ctv) ⟨[], []⟩ = pure []) (hO : ∀ j ∈ O, j ∈ KO)
    (hbody : ∀ (A : Around) (up : List PySem.Env) (s : Shared) (H : Hp) (E : XK) (f c' : Addr) (bs : List Addr) (s0 : L2.St) (EXb : EXT), Rm m (A.deeper (LamX.lamEnv X scope s.heap.objs.size f c')) → L2.Takes (LamX.lamCx X A up s H E scope f c') (WD ⟨z.K, z.ca, H, none, .lst, z.tb, bs, s0, []⟩ EXb) →
      PD (LamX.lamCx X A up s H E scope f c') ⟨z.K, z.ca, H, none, .lst, z.tb, bs, s0, []⟩ [] EXb body fE)
    (hg : Gl X x := by rfl) (hdb : (x == ("__debug__" : Str)) = false := by decide) : PD X z O EX (.Call (.Name x p) [.Lambda params body scope lpos] [] pos) (lamE KO F fE) := by
  refine ⟨fun σ H Q => ∃ B Pp ρ S, Pp.map (·.1) = O ∧ Rel z B Pp σ H ρ S ∧ Sat (lamE KO F fE ρ S) (fun r => ∀ v H', Grow z H H' → Rel z B Pp σ H' ρ r.2 → Rp z.K z.ca (Frz H' (z.L B Pp)) v r.1 → Q v H') EX, ⟨fun pins s σ H Q I h => ?_⟩, fun B Pp σ H ρ S Q hP rr hs => ⟨B, Pp, ρ, S, hP, rr, hs⟩⟩
  obtain ⟨B, Pp, ρ, S, hP, rr, hs⟩ := h
  have hPK : ∀ q ∈ Pp, q.1 ∈ KO := fun q hq => hO _ (by rw [← hP]; exact List.mem_map_of_mem hq)
  refine wpAny_Call_Name_kw (ld_glob I hg hm (PySem.W.callWith_K (h₀ := X.base) I.ok.mod.kin hk ?_ (by rfl) (by rfl)) hdb)
  show wpAny _ _ (spliced ((false, eval (.Lambda params body scope lpos) X.env) :: backTo pos (starEach [] X.env))) _ _ s
  refine Calls.spliced_cons (lam_made I TB hcode hmT hu rr.tabs hdef (L.has I.ok) fun f c2 pm ctv H1 s1 I1 stay T1 hf hfn hfr hco => ?_)
  refine Calls.spliced_nil ⟨I1.kIn, ?_⟩
  have inT : P ∈ tbs z.tb := List.mem_map.mpr ⟨_, hmT, rfl⟩
  have g1 : GrT z.tb H H1 := fun b o n e => stay b o (fun q => n (q ▸ inT)) e
  have r1 := rr.growT g1 T1
  have nc : c2 ∉ tbs z.tb := fun q => by
    obtain ⟨tp, hp, e⟩ := List.mem_map.mp q
    obtain ⟨tab, w1, _⟩ := T1 tp hp
    rw [e, hco] at w1
    exact LamX.codeO_ne _ (Option.some.inj w1)
  have act : ActK X.prog X.w X.K z.ca X.mg X.base z.tb (m + 1) f s1 H1 X.stack (z.L B Pp) (fE (wipeE ρ KO) [] >>= fun x => R.ok x.1) := by
    have at2 : ∀ (s2 : Shared) (HZ : Hp), Un (frs X.stack) [] H1 HZ s1.heap s2.heap → s2.heap.get? f = some (PySem.W.kla_obj "<lambda>" (X.env.qual ++ "<lambda>") params body scope (cloFrom X.env.cells scope.names []) pm c2 ctv) := fun s2 HZ un => un.keep f _ hf hfn hfr (fun q => nomatch q)
    refine ⟨fun s2 HZ un => ⟨_, _, _, _, at2 s2 HZ un⟩, fun env2 A' s2 HZ Q' E' hr' hg' e0' un g tt hsat => ?_⟩
    have r2 := r1.growT g tt
    let EXb : EXT := fun cn ns ws => ∀ cls d H', GrT z.tb HZ H' → LamX.Tabs z.tb H' → Xp X.K z.ca (Frz H' (z.L B Pp)) cls d cn ns ws → E' cls d H'
    have ri := inner_start (kl := []) r2 hPK
    have efz := fun H' => inner_ef r2 (H0 := HZ) (bs := beside z.tb (z.L B Pp)) (s0 := σ) (kl := []) H'
    have ecf := fun H' : Hp => show Frz H' ((z.inner HZ (beside z.tb (z.L B Pp)) σ []).pls ++ (z.inner HZ (beside z.tb (z.L B Pp)) σ []).bs) = Frz H' (z.L B Pp) from frz_congr fun a => beside_iff r2.tin.sub a
    obtain ⟨t, pt, qt⟩ := (hbody A' (env2 :: X.stack) s2 HZ E' f c2 (beside z.tb (z.L B Pp)) σ EXb ⟨hr'.deeper _, hg'⟩ (takes_lam.imp fun cls d σ' H' h => by
      obtain ⟨cn, ns, ws, he, hx, ex, tt', _⟩ := h
      rw [ecf H'] at hx
      exact he cls d H' (grT_of (z := z) (kl := []) (bs := beside z.tb (z.L B Pp)) (s0 := σ) ex) tt' (hK ▸ hx))).ex
    refine lam_go (k := m) (E := E') I1 L (at2 s2 HZ un) (hbind _ _ _ _ _) e0' un (g c2 _ nc hco) hr' (fun _ => pt) (qt _ [] σ HZ _ [] Q' rfl ri ((sat_bind.mp hsat).imp fun x hx v H' g' r' hv' => ?_))
    rw [efz H'] at hv'
    exact hx v H' (grT_of r'.ex) r'.tabs (hK ▸ hv')
  have rc : codeAny (model X.prog X.w) X.A (.call (.ref fA) ⟨[.ref f], []⟩) (CR CX0 X.stack X.prog X.w H1 s1 Q E0) s1 := by
    refine G.go (m + 1) X.A X.stack s1 H1 f (z.L B Pp) _ Q hkm hr.r hr.g I1.env0 (hb s1 [.ref f] I1.kIn rfl) r1.nd (fun b hb => r1.lt hb) r1.tin act ((sat_noX (sat_bind.mp hs)).imp fun d hd v H' g' t' hv' => ?_)
    exact hd v H' (g1.trans g').grow (rr.growT (g1.trans g') t') (hK ▸ hv')
  refine wpAny_call (codeAny_mono rc fun res s2 hq => ?_)
  match res, hq with
  | .ok (.ret u), hq => exact I1.after hq
  | .ok .next, hq => exact hq.elim
  | .ok .brk, hq => exact hq.elim
  | .ok .cont, hq => exact hq.elim
  | .error er, hq => exact hq.elim
end
end PL
set_option Elab.async false
set_option linter.all false
set_option maxRecDepth 100000
set_option maxHeartbeats 4000000
/-! Methods that may raise; a class's methods by keyword, through an instance; t * 1; the text of whatever. -/
namespace PL
open PySem PySem.Spec PyProof.Rows L2 ClX
section
variable {X : Cx} {z : Z} {O : List Nat} {EX : EXT} {a b e o : Expr} {es : List Expr} {f g fx : FE} {fa fk : FA} {C fA : Addr} {fd : FuncData} {k : Nat} {ps ks : List Str} {x m : Str} {p pos apos : Pos} {sp : Sp} {E : XK} {tx ta : TE} {t tk : TA} {kws : List Keyword}
variable {B : List Addr} {P : List (Nat × Addr)} {σ : L2.St} {H : Hp} {ρ : Env} {S : List D} {pins : List (Addr × Obj)} {s : Shared}
/-- a callee that may raise runs, wherever under the def -/
theorem code_atX {A' : Around} {W : WX} {us : List Value} {vs : List V} {Q : VK} {args : Args} (G : FnX X.prog X.w X.K X.mg X.base k fA fd ps sp) (tk : L2.Takes X W) (hr : Room k A') (hg : A'.guards = some []) (e0 : Env0 X.prog X.w X.K X.mg X.base A' X.stack s H) (I : Inv X pins σ H s)
    (hb : BindsTo s fd args (ps.zip us)) (r : Vals vs us) (h : sp vs H Q fun cls d H' => W cls d σ H') {Rr : Result → Shared → Prop} (hR : ∀ v s', EP X pins σ Q v s' → Rr (.ok (.ret v)) s') (hE : ∀ er s', X.xe er s' → Rr (.error er) s') :
    codeAny (model X.prog X.w) A' (.call (.ref fA) args) Rr s := by
  refine codeAny_mono (G.go A' X.stack s H args us vs Q _ hr hg e0 hb r h) fun res s' hq => ?_
  match res, hq with
  | .ok (.ret u), hq => exact hR u s' (I.after hq)
  | .ok .next, hq => exact hq.elim
  | .ok .brk, hq => exact hq.elim
  | .ok .cont, hq => exact hq.elim
  | .error er, hq => exact hE er s' (tk _ _ (XE.of_call I (fun _ _ _ z => z) hq))
/-! ### e[i], an instance, its __getitem__ may raise -/
def itmX (cn : Str) (F : List D → R D) (f g : FE) : FE := fun ρ S => f ρ S >>= fun x => g ρ x.2 >>= fun y => match x.1 with
  | .ins c _ _ => if c = cn then F [x.1, y.1] >>= fun d => R.ok (d, y.2) else R.bad
  | _ => R.bad
@[simp ↓] theorem wp_itmX {cn : Str} {F : List D → R D} {f g : FE} {ρ : Env} {S : List D} {Q : D × List D → Prop} {EX : EXT} : Sat (itmX cn F f g ρ S) Q EX ↔ Sat (f ρ S >>= fun x => g ρ x.2 >>= fun y => match x.1 with
  | .ins c _ _ => if c = cn then F [x.1, y.1] >>= fun d => R.ok (d, y.2) else R.bad
  | _ => R.bad) Q EX := Iff.rfl
end
end PL
set_option Elab.async false
set_option linter.all false
set_option maxRecDepth 100000
set_option maxHeartbeats 4000000
namespace PL
open PySem PySem.Spec PyProof.Rows L2 ClX
section
variable {X : Cx} {z : Z} {O : List Nat} {EX : EXT} {a b e o : Expr} {es : List Expr} {f g fx : FE} {fa fk : FA} {C fA : Addr} {fd : FuncData} {k : Nat} {ps ks : List Str} {x m : Str} {p pos apos : Pos} {sp : Sp} {E : XK} {tx ta : TE} {t tk : TA} {kws : List Keyword}
variable {B : List Addr} {P : List (Nat × Addr)} {σ : L2.St} {H : Hp} {ρ : Env} {S : List D} {pins : List (Addr × Obj)} {s : Shared}
/-! ### C.m(..), m a classmethod that may raise -/
theorem pe_cmX {mc : Value} {pA : Addr} {pl : Sem Bool} {W : WX} (tk' : L2.Takes X W) (hm : X.mg x = some (.ref C)) (r : CRead X.K C mc) (c : CMet X.K C mc m pA fA) (F : FnX X.prog X.w X.K X.mg X.base k fA fd ps sp) (hr : Rm k X.A) (hb : Binds X.K fd ps []) (ha : PA X (e :: es) t) (hg : Gl X x) (hdb : (x == ("__debug__" : Str)) = false)
    (hst : starEach (e :: es) X.env = (false, eval e X.env) :: starEach es X.env) (hpl : (backTo pos (starEach es X.env)).any (·.1) = false)
    (ht : eval (.Call (.Attribute (.Name x p) m apos) (e :: es) [] pos) X.env = (do
      let ov ← eval (.Name x p) X.env
      standAt apos.atName
      let (f, first) ← holding [ov] (getMethod ov m pl)
      callWith pos f first (backTo pos (starEach (e :: es) X.env)) (backToKw pos (keywordEach [] X.env)))) :
    PE X (.Call (.Attribute (.Name x p) m apos) (e :: es) [] pos) (fun σ H Q => t σ H fun vs H2 => sp (.ref C :: vs) H2 Q fun cls d H' => W cls d σ H') := ⟨fun pins s σ H Q I h => by
  refine PySem.W.methodCall_KW (pl := pl) (thn ((pe_glob (pos := p) hg hm (v := .ref C) rfl hdb).run pins s σ H (fun v H1 => v = .ref C ∧ H1 = H) I ⟨rfl, rfl⟩) fun u s1 hv => ?_) ht
  obtain ⟨v, H1, I1, rx, rfl, rfl⟩ := hv
  obtain rfl : u = Value.ref C := rx
  refine getmethcm_ok I1 r c fun s2 I2 => ?_
  refine callwith_cm I2 (base_none I1 (Nat.le_refl _)) c.fi (thn (ha.run pos _ s2 σ H1 _ I2 h) fun us s3 hw => ?_) hst hpl
  obtain ⟨vs, H2, I3, rv, q2⟩ := hw
  refine ⟨⟨pin_at I3, I3.kIn⟩, ?_⟩
  have rv2 : Vals (V.ref C :: vs) (Value.ref C :: us) := .cons rfl rv
  have hb' := hb s3 (Value.ref C :: us) I3.kIn (by rw [List.append_nil, ← rv2.length]; exact F.num _ _ _ _ q2)
  rw [List.append_nil] at hb'
  refine thn (Q := EP X ((s1.heap.objs.size, PySem.W.methodObj (.ref fA) (.ref C)) :: pins) σ Q) (wpAny_call (PySem.W.method_call (pin_at I3) (code_atX F tk' hr.r hr.g I3.env0 I3 hb' rv2 q2 (fun v s' q => q) fun er s' q => q))) fun _ _ y => unpinE y⟩
def cmX (cn : Str) (F : List D → R D) (fa : FA) : FE := fun ρ S => fa ρ S >>= fun x => F (.cls cn :: x.1) >>= fun d => R.ok (d, x.2)
theorem pd_cmethX {cn : Str} {mc : Value} {pA : Addr} {pl : Sem Bool} {F : List D → R D} (tk : L2.Takes X (WD z EX)) (hca : z.ca cn = some C) (hm : X.mg x = some (.ref C)) (r : CRead X.K C mc) (c : CMet X.K C mc m pA fA) (G : FnX X.prog X.w X.K X.mg X.base k fA fd ps (spX z.K z.ca z.tb F)) (hr : Rm k X.A) (hb : Binds X.K fd ps [])
    (ha : PAd X z O EX (e :: es) fa) (hg : Gl X x := by rfl) (hdb : (x == ("__debug__" : Str)) = false := by decide)
    (hst : starEach (e :: es) X.env = (false, eval e X.env) :: starEach es X.env := by rfl) (hpl : (backTo pos (starEach es X.env)).any (·.1) = false := by rfl)
    (ht : eval (.Call (.Attribute (.Name x p) m apos) (e :: es) [] pos) X.env = (do
      let ov ← eval (.Name x p) X.env
      standAt apos.atName
      let (f, first) ← holding [ov] (getMethod ov m pl)
      callWith pos f first (backTo pos (starEach (e :: es) X.env)) (backToKw pos (keywordEach [] X.env))) := by rfl) :
    PD X z O EX (.Call (.Attribute (.Name x p) m apos) (e :: es) [] pos) (cmX cn F fa) := by
  obtain ⟨t, pt, q⟩ := ha.ex
  refine ⟨_, pe_cmX tk hm r c G hr hb pt hg hdb hst hpl ht, fun B P σ H ρ S Q hP rr hs => ?_⟩
  refine q B P σ H ρ S _ hP rr ((sat_bind.mp hs).imp fun w hw vs H1 g1 r1 hv => ?_)
  exact spX_of r1 (.cons (.cls hca) hv) (hw.imp fun r hr v H' g' r' hv' => hr v H' (g1.trans g') r' hv')
/-! ### .. by keyword -/
def cmKX (cn : Str) (F : List D → R D) (n : Nat) (ix : List Nat) (fk : FA) : FE := fun ρ S => fk ρ S >>= fun x => if x.1.length = n then F (pick ix (.cls cn :: x.1)) >>= fun d => R.ok (d, x.2) else R.bad
/-! ### o.m(..), o an instance -/
def imD (cn m : Str) (F : List D → R D) (f : FE) (fa : FA) : FE := fun ρ S => f ρ S >>= fun x => match x.1 with
  | .ins c ns _ => if c = cn ∧ ns.contains m = false then fa ρ x.2 >>= fun y => noX (F (.cls cn :: y.1)) >>= fun d => R.ok (d, y.2) else R.bad
  | _ => R.bad
theorem lookup_none_of {m : Str} : ∀ {fs : List (Str × V)}, (fs.map (·.1)).contains m = false → fs.lookup m = none
  | [], _ => rfl
  | (n, v) :: r, h => by
    simp only [List.map_cons, List.contains_cons, Bool.or_eq_false_iff] at h
    rw [List.lookup_cons, h.1]
    exact lookup_none_of h.2
end
end PL
set_option Elab.async false
set_option linter.all false
set_option maxRecDepth 100000
set_option maxHeartbeats 4000000
/-! t * 1; the text of an instance or of data; what is wanted of the new forms. -/
namespace PL
open PySem PySem.Spec PyProof.Rows L2 ClX
/-- t * 1: t itself -/
theorem tuple_mul1 (l : Addr) (items : Array Value) (n : Nat) (dd : Option Addr) (sl : Array (Option Value)) (u : Tok) :
    Meets (Builtin.«tuple.__mul__» ⟨[.ref l, .int 1 u], []⟩) (fun _ R s => s.heap.get? l = some { cls := .type "tuple", dict := dd, data := .seq items n, slots := sl } ∧ R (.ok (.ret (Value.ref l))) s) :=
  .of_wp fun prog w A R s h => by
    obtain ⟨hp, g, d, tk, os⟩ := s
    obtain ⟨hl, h⟩ := h
    have f1 := AutoSeq1.idx_int
    wp_walk using wpAny_loadPart' hl
    exact ⟨_, rfl, h⟩
section
variable {X : Cx} {z : Z} {O : List Nat} {EX : EXT} {a b e : Expr} {f g : FE} {fa : FA} {C fA : Addr} {fd : FuncData} {k : Nat} {ps : List Str} {p pos : Pos}
def rRepT1 (K : PySem.W.Frag) : R2 := fun x y H Q => ∃ l xs, x = .ref l ∧ y = .int 1 ∧ SqT K H l xs ∧ Q (.ref l) H
theorem op_repT1 : OpR X (binaryOp .Mult) (rRepT1 X.K) := by
  intro pins s σ H x y v u Q I rx ry h
  obtain ⟨l, xs, rfl, rfl, hT, q⟩ := h
  cases rx
  obtain ⟨t, rfl⟩ := ry
  obtain ⟨its, r, ⟨⟨cls, dd, data, sl⟩, ho, hc, n, hd⟩, hs⟩ := I.tuple hT
  simp only at hc hd
  subst hc hd
  exact wpAny_binaryOp_repeat_ref (T := "tuple") (U := "int") (by decide) ⟨_, ho, rfl⟩ (fun s' => typeIs_int s' 1 t) noFill_tuple_mul PySem.F.fills_int_mul PySem.F.slot_int_rmul repeat_tuple PySem.F.slot_int_index.lookup
    (call_meets PySem.F.slot_int_rmul (typeIs_int s 1 t) PySem.F.entry_int_rmul (PySem.F.args_int_rmul_2 _ _) (int_rmul_tuple 1 t l its.toArray n dd sl)
      ⟨ho, rfl, ⟨_, ho, rfl⟩, call_meets PySem.F.slot_tuple_mul ⟨_, ho, rfl⟩ PySem.F.entry_tuple_mul (PySem.F.args_tuple_mul_2 _ _) (tuple_mul1 l its.toArray n dd sl t) ⟨ho, ⟨.ref l, H, I, rfl, q⟩⟩⟩)
def mulT1 : D → D → Option D | .tup a, .int k => if k = 1 then some (.tup a) else none | _, _ => none
theorem op2_mulT1 {K : PySem.W.Frag} {ca : Str → Option Addr} : Op2 K ca (rRepT1 K) mulT1 := by
  intro H L N x y dx dy d Q fr hx hy e hq
  cases dx <;> cases dy <;> simp only [mulT1, reduceCtorEq] at e
  split at e
  · rename_i ek
    cases e
    subst ek
    obtain ⟨a, xs, rfl, h1, r1⟩ := hx.tup
    exact ⟨a, xs, rfl, hy.int, ex_t (frz_ex H L) h1, hq _ H (Ex.refl H) (.tup h1 r1)⟩
  · cases e
def mulDx (a b : D) : Option D := (mulD a b).or (mulT1 a b)
theorem pd_mulx (hK : X.K = z.K) (ha : PB X z O EX a f) (hb : PB X z O EX b g) : PD X z O EX (.BinOp a .Mult b pos) (bin2 mulDx f g) :=
  pd_op (r := fun x y H Q => rMulD z.K x y H Q ∨ rRepT1 z.K x y H Q) (hK ▸ op_mulD.or op_repT1) (op2_mul.or op2_mulT1) ha hb
/-! ### repr(e), an instance or data -/
def reprAC (cn : Str) (F : List D → R D) (f : FE) : FE := fun ρ S => f ρ S >>= fun x => match x.1 with
  | .ins c _ _ => if c = cn then noX (F [x.1]) >>= fun d => match d with
    | .str y => R.ok (.str y, x.2)
    | _ => R.bad else R.bad
  | d => R.of (reprX d) >>= fun y => R.ok (y, x.2)
/-! ### what is wanted -/
@[simp ↓] theorem wp_reprAC_ins {cn : Str} {F : List D → R D} {f : FE} {ρ : Env} {S : List D} {Q : D × List D → Prop} {EX : EXT} : Sat (reprAC cn F f ρ S) Q EX ↔ Sat (f ρ S >>= fun x => match x.1 with
  | .ins c _ _ => if c = cn then noX (F [x.1]) >>= fun d => match d with
    | .str y => R.ok (.str y, x.2)
    | _ => R.bad else R.bad
  | d => R.of (reprX d) >>= fun y => R.ok (y, x.2)) Q EX := Iff.rfl
@[simp ↓] theorem wp_cmX {cn : Str} {F : List D → R D} {fa : FA} {ρ : Env} {S : List D} {Q : D × List D → Prop} {EX : EXT} : Sat (cmX cn F fa ρ S) Q EX ↔ Sat (fa ρ S >>= fun x => F (.cls cn :: x.1) >>= fun d => R.ok (d, x.2)) Q EX := Iff.rfl
@[simp ↓] theorem wp_cmKX {cn : Str} {F : List D → R D} {n : Nat} {ix : List Nat} {fk : FA} {ρ : Env} {S : List D} {Q : D × List D → Prop} {EX : EXT} : Sat (cmKX cn F n ix fk ρ S) Q EX ↔ Sat (fk ρ S >>= fun x => if x.1.length = n then F (pick ix (.cls cn :: x.1)) >>= fun d => R.ok (d, x.2) else R.bad) Q EX := Iff.rfl
@[simp ↓] theorem wp_imD {cn m : Str} {F : List D → R D} {f : FE} {fa : FA} {ρ : Env} {S : List D} {Q : D × List D → Prop} {EX : EXT} : Sat (imD cn m F f fa ρ S) Q EX ↔ Sat (f ρ S >>= fun x => match x.1 with
  | .ins c ns _ => if c = cn ∧ ns.contains m = false then fa ρ x.2 >>= fun y => noX (F (.cls cn :: y.1)) >>= fun d => R.ok (d, y.2) else R.bad
  | _ => R.bad) Q EX := Iff.rfl
@[simp ↓] theorem wp_lamE {KO : List Nat} {F : R D → R D} {fE : FE} {ρ : Env} {S : List D} {Q : D × List D → Prop} {EX : EXT} : Sat (lamE KO F fE ρ S) Q EX ↔ Sat (noX (F (fE (wipeE ρ KO) [] >>= fun x => R.ok x.1)) >>= fun d => R.ok (d, S)) Q EX := Iff.rfl
end
end PL
set_option Elab.async false
set_option linter.all false
set_option maxRecDepth 100000
set_option maxHeartbeats 4000000
namespace PL
open PySem PySem.Spec PyProof.Rows L2
/-! the goal that k_head leaves, where two defs make lambdas -/
theorem walk_gT2 {l : PySem.W.OpenLaw} {k : Nat} {q : Program} {loose : List Str} {XP : (Str → Option Value) → Heap → Prop} {YP : World → Heap → Prop} {d : DefRec} {K : Params → PySem.W.Frag} {x nm1 nm2 : Str} {G : List D → R D}
    (hn : l.most = some 63) (hdf : d.params.defaults = []) (hr : Room k callerA) (hY : ∀ (w : World) (h : Heap), YP w h → (K w.params).In h) (hrec1 : ((recsOf q).any fun e => e.name == nm1) = true) (hrec2 : ((recsOf q).any fun e => e.name == nm2) = true)
    (F : ∀ (w : World) (mg : Str → Option Value) (fA : Addr) (h : Heap), (K w.params).In h → h.Ns mainGlobals mg → mg d.name = some (.ref fA) → ∀ (f1 c1 P1 : Addr) (o1 : Obj) (fd1 : FuncData) (f2 c2 P2 : Addr) (o2 : Obj) (fd2 : FuncData),
      mg nm1 = some (.ref f1) → h.get? f1 = some o1 → o1.data = .func fd1 → fd1.code = .ref c1 → PySem.W.CodeHd h c1 P1 → mg nm2 = some (.ref f2) → h.get? f2 = some o2 → o2.data = .func fd2 → fd2.code = .ref c2 → PySem.W.CodeHd h c2 P2 →
      ((K w.params).lookup P1 = none ∧ (K w.params).lookup P2 = none ∧ P1 ≠ P2) ∧ ∃ fd : FuncData, (∀ (s : Shared) (u : Value), BindsTo s fd ⟨[u], []⟩ [(x, u)]) ∧ ∀ base : Heap, (K w.params).In base → base.Ns mainGlobals mg → LamX.TabB base mg c1 P1 → LamX.TabB base mg c2 P2 →
        ∃ ca, FnG l.prog w (K w.params) mg base k fA fd [x] (spF (K w.params) ca [(P1, nm1 ++ ".<locals>." ++ "<lambda>"), (P2, nm2 ++ ".<locals>." ++ "<lambda>")] G))
    (hG : ∀ ns : List Int, ns.length ≤ 63 → G [.scr ns] = R.ok (.bl true)) : PySem.W.WalkO q loose XP YP l.row.toRowW d [] (fun f vs => PySem.call f vs) := by
  refine Att.attach_call hn hdf fun w s₀ s₁ mg mb fa o pm cd doc a vs ns Gr Y ho hd hcd hmg hobj hints hlen hg => ?_
  have kin := hY w _ Y
  obtain ⟨d1, m1, e1⟩ := List.any_eq_true.mp hrec1
  obtain ⟨d2, m2, e2⟩ := List.any_eq_true.mp hrec2
  have en1 : d1.name = nm1 := beq_iff_eq.mp e1
  have en2 : d2.name = nm2 := beq_iff_eq.mp e2
  obtain ⟨f1, o1, fd1, c1, P1, g1, g2, g3, g4, g5, g6⟩ := Gr.T.tab d1 m1
  obtain ⟨f2, o2, fd2, c2, P2, k1, k2, k3, k4, k5, k6⟩ := Gr.T.tab d2 m2
  rw [en1] at g1
  rw [en2] at k1
  obtain ⟨⟨n1, n2, ne⟩, fd, hb, hF⟩ := F w mg fa _ kin Gr.T.g hmg f1 c1 P1 o1 fd1 f2 c2 P2 o2 fd2 g1 g2 g3 g4 (PySem.W.CodeHd.of g5 g6) k1 k2 k3 k4 (PySem.W.CodeHd.of k5 k6)
  have big : ns.length ≤ sizeLine := by rw [sizeLine_eq]; omega
  have t1 : s₁.heap.get? P1 = some { cls := .none, data := .fields #[] } := g6.2
  have t2 : s₁.heap.get? P2 = some { cls := .none, data := .fields #[] } := k6.2
  refine law_gT (cs := [(c1, P1), (c2, P2)]) (sp := fun vs H Q E => ∃ (ns : List Int) (a : Addr), ns.length ≤ 63 ∧ vs = [.ref a] ∧ H P1 = some (.tbl #[]) ∧ H P2 = some (.tbl #[]) ∧ a ≠ P1 ∧ a ≠ P2 ∧ SqL (K w.params) H a (ns.map V.int) ∧ ∀ H', Q (.bl true) H') kin Gr.T.g Gr.T.b Gr.T.builtins Gr.T.nolimit hg
    ⟨fun p hp => ?_, fun p hp => ?_, fun p hp => ?_, Gr.T.bmain⟩ hobj hints big hr (fun base h1 h2 h3 => ?_) hb fun H hT hna hS => ⟨ns, a, hlen, rfl, hT (c1, P1) (by simp), hT (c2, P2) (by simp), fun e => hna (by simp [e]), fun e => hna (by simp [e]), hS, fun _ => rfl⟩
  · simp only [List.mem_cons, List.not_mem_nil, or_false] at hp
    rcases hp with rfl | rfl
    · exact t1
    · exact t2
  · simp only [List.mem_cons, List.not_mem_nil, or_false] at hp
    rcases hp with rfl | rfl
    · exact n1
    · exact n2
  · simp only [List.mem_cons, List.not_mem_nil, or_false] at hp
    rcases hp with rfl | rfl
    · exact PySem.W.CodeHd.of g5 g6
    · exact PySem.W.CodeHd.of k5 k6
  · obtain ⟨ca, FG⟩ := hF base h1 h2 (h3 (c1, P1) (by simp)) (h3 (c2, P2) (by simp))
    refine ⟨fun vs H Q E h => ?_, fun A up s H args us vs Q E hr hgu e0 hb r h => FG.go A up s H args us vs Q E hr hgu e0 hb r ?_⟩
    · obtain ⟨ns, a, _, rfl, _⟩ := h
      rfl
    · obtain ⟨ns, a, hl, rfl, hP1, hP2, hne1, hne2, hS, hq⟩ := h
      have tt : LamX.Tabs [(P1, nm1 ++ ".<locals>." ++ "<lambda>"), (P2, nm2 ++ ".<locals>." ++ "<lambda>")] H := fun p hp => by
        simp only [List.mem_cons, List.not_mem_nil, or_false] at hp
        rcases hp with rfl | rfl
        · exact LamX.TabS.nil hP1
        · exact LamX.TabS.nil hP2
      have nin : a ∉ [P1, P2] := by simp [hne1, hne2]
      refine ⟨[.scr ns], [P1, P2], (by simp [ne]), fun b hb => ?_, ⟨(by simp [tbs, ne]), fun b hb => hb, tt⟩, .cons (.scr ?_) .nil, ?_⟩
      · simp only [List.mem_cons, List.not_mem_nil, or_false] at hb
        rcases hb with rfl | rfl
        · rw [hP1]; exact fun z => nomatch z
        · rw [hP2]; exact fun z => nomatch z
      · rcases hS with hS | hS
        · refine .inl ?_
          rcases hS with hS | ⟨o, hS⟩
          · exact .inl (frz_of hS nin)
          · exact .inr ⟨o, frz_of hS nin⟩
        · exact .inr hS
      · rw [hG ns hl]
        exact fun v H' _ _ hv => by
          cases hv
          exact hq H'
end PL
set_option Elab.async false
set_option linter.all false
set_option maxRecDepth 100000
set_option maxHeartbeats 4000000
/-! Raising, trying; the texts of any data. -/
namespace PL
open PySem PySem.Spec PyProof.Rows L2 ClX
@[simp ↓] theorem wp_exc {α : Type} {c : Str} {ns : List Str} {vs : List D} {Q : α → Prop} {EX : EXT} : Sat (R.exc c ns vs : R α) Q EX ↔ EX c ns vs := Iff.rfl
@[simp ↓] theorem wp_mkIX {c : Str} {nm : List Str} {F : List D → R (List D)} {n m : Nat} {ix : List Nat} {fa fk : FA} {ρ : Env} {S : List D} {Q : D × List D → Prop} {EX : EXT} : Sat (mkIX c nm F n m ix fa fk ρ S) Q EX ↔ Sat (fa ρ S >>= fun x => fk ρ x.2 >>= fun y => if x.1.length = n ∧ y.1.length = m then F (pick ix (x.1 ++ y.1)) >>= fun es => R.ok (.ins c nm es, y.2) else R.bad) Q EX := Iff.rfl
@[simp ↓] theorem wp_callX {F : List D → R D} {dds : List D} {fa : FA} {ρ : Env} {S : List D} {Q : D × List D → Prop} {EX : EXT} : Sat (callX F dds fa ρ S) Q EX ↔ Sat (fa ρ S >>= fun x => F (x.1 ++ dds) >>= fun d => R.ok (d, x.2)) Q EX := Iff.rfl
@[simp ↓] theorem wp_raiseS {c : Str} {nms : List Str} {fa : FA} {ρ : Env} {S : List D} {Q : Ctl × Env × List D → Prop} {EX : EXT} : Sat (raiseS c nms fa ρ S) Q EX ↔ Sat (fa ρ S >>= fun x => if x.1.length = nms.length ∧ x.1.length ≤ 1000 then R.exc c nms.reverse x.1.reverse else R.bad) Q EX := Iff.rfl
/-- what a call gives or raises -/
def RX {α : Type} (a : α) (e : Option (Str × List Str × List D)) : R α := match e with
  | none => R.ok a
  | some x => R.exc x.1 x.2.1 x.2.2
theorem eq_rx {α : Type} {r : R α} {a : α} {e : Option (Str × List Str × List D)} (h : Sat r (fun x => e = none ∧ x = a) fun c ns ws => e = some (c, ns, ws)) : r = RX a e := by
  cases r with
  | ok x =>
    obtain ⟨rfl, rfl⟩ := h
    rfl
  | exc c' ns' ws' =>
    have h : e = some (c', ns', ws') := h
    rw [h]
    rfl
  | bad => exact h.elim
/-! the text of any data -/
structure TxP (n k : Nat) (p : PyData) : Prop where
  nice : Nice n p.shown
  show_ : p.showable = true
  deep : p.depth ≤ k
structure TxPA (n k : Nat) (ps : List PyData) : Prop where
  nice : NiceL n (PyData.shownAll ps)
  show_ : PyData.showableAll ps = true
  deep : PyData.depthAll ps ≤ k
def TxR (n k : Nat) (d : D) : Prop := ∃ p, toPy d = some p ∧ TxP n k p
def TxA (n k : Nat) (ds : List D) : Prop := ∃ ps, toPyA ds = some ps ∧ TxPA n k ps
/-- .. an item, it may be {} -/
def TxQ (n k : Nat) (d : D) : Prop := ∃ p, toPyQ d = some p ∧ TxP n k p
def TxQA (n k : Nat) (ds : List D) : Prop := ∃ ps, toPyQA ds = some ps ∧ TxPA n k ps
theorem TxP.mono {n k n' k' : Nat} {p : PyData} (q : TxP n k p) (hn : n ≤ n') (hk : k ≤ k') : TxP n' k' p := ⟨q.nice.mono hn, q.show_, Nat.le_trans q.deep hk⟩
theorem TxR.mono {n k n' k' : Nat} {d : D} (h : TxR n k d) (hn : n ≤ n') (hk : k ≤ k') : TxR n' k' d := by
  obtain ⟨p, e, q⟩ := h
  exact ⟨p, e, q.mono hn hk⟩
theorem TxQ.mono {n k n' k' : Nat} {d : D} (h : TxQ n k d) (hn : n ≤ n') (hk : k ≤ k') : TxQ n' k' d := by
  obtain ⟨p, e, q⟩ := h
  exact ⟨p, e, q.mono hn hk⟩
theorem TxR.q {n k : Nat} {d : D} (h : TxR n k d) : TxQ n k d := by
  obtain ⟨p, e, q⟩ := h
  refine ⟨p, ?_, q⟩
  cases d with
  | dic ks vs => cases e
  | _ => exact e
theorem TxR.non {k : Nat} : TxR 4 k .non := ⟨_, rfl, (show Nice 4 ("None" : String) from nice_of (by decide)), rfl, Nat.zero_le _⟩
theorem TxR.bl {k : Nat} (b : Bool) : TxR 5 k (.bl b) := ⟨_, rfl, by cases b; exact (show Nice 5 ("False" : String) from nice_of (by decide)); exact (show Nice 5 ("True" : String) from nice_of (by decide)), rfl, Nat.zero_le _⟩
theorem TxR.int {n k : Nat} {i : Int} (h : Nice n (toString i : String)) (l : i.natAbs.log2 < 1920) : TxR n k (.int i) := ⟨_, rfl, h, by simp only [PyData.showable, decide_eq_true_eq]; exact l, Nat.zero_le _⟩
theorem TxR.i3 {k : Nat} {i : Int} (h0 : 0 ≤ i) (h1 : i < 1000) : TxR 4 k (.int i) := .int (nice_int h0 h1) (log_small h0 h1)
theorem TxR.str {n k : Nat} {x : Str} (h : Nice n x) : TxR (2 * n + 2) k (.str x) := ⟨_, rfl, by simp only [PyData.shown]; exact nice_repr h, rfl, Nat.zero_le _⟩
theorem TxR.tup {n k : Nat} {ds : List D} (h : TxA n k ds) : TxR (n + 3) (k + 1) (.tup ds) := by
  obtain ⟨ps, e, q⟩ := h
  exact ⟨.tuple ps, by simp only [toPy, e, Option.map_some], by simp only [PyData.shown]; exact nice_tuple q.nice, by simp only [PyData.showable]; exact q.show_, by simp only [PyData.depth]; have := q.deep; omega⟩
theorem TxR.lst {n k : Nat} {ds : List D} (h : TxA n k ds) : TxR (n + 2) (k + 1) (.lst ds) := by
  obtain ⟨ps, e, q⟩ := h
  exact ⟨.list ps, by simp only [toPy, e, Option.map_some], by simp only [PyData.shown]; exact nice_list q.nice, by simp only [PyData.showable]; exact q.show_, by simp only [PyData.depth]; have := q.deep; omega⟩
theorem TxA.nil {k : Nat} : TxA 0 k [] := ⟨[], rfl, .nil, rfl, Nat.zero_le _⟩
theorem TxA.cons {n m k : Nat} {d : D} {ds : List D} (h : TxR n k d) (r : TxA m k ds) : TxA (n + m + 2) k (d :: ds) := by
  obtain ⟨p, e, q⟩ := h
  obtain ⟨ps, e2, q2⟩ := r
  exact ⟨p :: ps, by simp only [toPyA, e, e2, Option.bind_some, Option.map_some], .cons q.nice q2.nice, by simp only [PyData.showableAll, q.show_, q2.show_, Bool.and_self], by simp only [PyData.depthAll]; exact Nat.max_le.mpr ⟨q.deep, q2.deep⟩⟩
theorem TxQA.nil {k : Nat} : TxQA 0 k [] := ⟨[], rfl, .nil, rfl, Nat.zero_le _⟩
theorem TxQA.cons {n m k : Nat} {d : D} {ds : List D} (h : TxQ n k d) (r : TxQA m k ds) : TxQA (n + m + 2) k (d :: ds) := by
  obtain ⟨p, e, q⟩ := h
  obtain ⟨ps, e2, q2⟩ := r
  exact ⟨p :: ps, by simp only [toPyQA, e, e2, Option.bind_some, Option.map_some], .cons q.nice q2.nice, by simp only [PyData.showableAll, q.show_, q2.show_, Bool.and_self], by simp only [PyData.depthAll]; exact Nat.max_le.mpr ⟨q.deep, q2.deep⟩⟩
theorem TxA.all {n k : Nat} : ∀ {ds : List D}, (∀ d ∈ ds, TxR n k d) → TxA ((n + 2) * ds.length) k ds
  | [], _ => .nil
  | d :: ds, h => by
    have q := TxA.cons (h d List.mem_cons_self) (TxA.all (ds := ds) fun x hx => h x (List.mem_cons_of_mem _ hx))
    have e : n + (n + 2) * ds.length + 2 = (n + 2) * (d :: ds).length := by rw [List.length_cons, Nat.mul_succ]; omega
    rw [e] at q
    exact q
theorem repr_tx {n k : Nat} {ds : List D} (h : TxQA n k ds) (hn : n + 2 ≤ LINE) (hk : k + 1 ≤ 60) : ∃ t : Str, reprXL [.lst ds] = some (.str t) ∧ Nice (n + 2) t := by
  obtain ⟨ps, e, q⟩ := h
  have q1 := nice_list q.nice
  have es : shownR (.list ps) = some (listText (PyData.shownAll ps)) := by
    unfold shownR
    rw [if_pos]
    · simp only [PyData.shown]
    · have h2 := q1.2
      have h3 := q.deep
      have e1 : (PyData.list ps).depth = PyData.depthAll ps + 1 := by simp only [PyData.depth]
      have e2 : (PyData.list ps).shown = listText (PyData.shownAll ps) := by simp only [PyData.shown]
      have e3 : (PyData.list ps).showable = true := by simp only [PyData.showable, q.show_]
      rw [e1, e2, e3]
      simp only [Bool.true_and, Bool.and_eq_true, decide_eq_true_eq]
      exact ⟨by omega, by omega⟩
  refine ⟨_, ?_, q1⟩
  show ((toPyQA ds).bind fun ps => (shownR (.list ps)).map D.str) = _
  rw [e]
  show (shownR (.list ps)).map D.str = _
  rw [es]
  rfl
@[simp] theorem reprXL_non : reprXL [.non] = some (.str "None") := rfl
@[simp] theorem reprXL_int (i : Int) : reprXL [.int i] = if i.natAbs.log2 < 1920 then some (.str (toString i)) else none := rfl
theorem eqD_str {n : Nat} {t : Str} (h : Nice n t) : eqD (.str t) (.str t) = some (.bl true) := (eqD_self (Nd.str (k := 0) h (Nat.le_refl _)) (by omega)).1
/-! texts of small numbers, below 0 too; of tuples -/
theorem neg_str (n : Nat) : (Str.ofString (toString (Int.negSucc n))) = ⟨(45 :: (Nat.toDigits 10 (n + 1)).map Char.toNat).toArray⟩ := by
  rw [Str.ofString_eq_toList]
  have : (toString (Int.negSucc n)) = "-" ++ String.ofList (Nat.toDigits 10 (n + 1)) := rfl
  rw [this, String.toList_append]
  first
    | rfl
    | (rw [String.toList_ofList]; rfl)
    | simp
theorem nice_intZ {i : Int} (h0 : -999 ≤ i) (h1 : i < 1000) : Nice 5 (toString i : String) := by
  cases i with
  | ofNat n => exact (nice_int (i := Int.ofNat n) (Int.natCast_nonneg n) h1).mono (by omega)
  | negSucc n =>
    have := dig_ok ⟨n + 1, by omega⟩
    simp only [Bool.and_eq_true, List.all_eq_true, decide_eq_true_eq] at this
    rw [neg_str]
    refine ⟨fun c hc => ?_, ?_⟩
    · rcases List.mem_cons.mp (show c ∈ 45 :: (Nat.toDigits 10 (n + 1)).map Char.toNat by simpa using hc) with rfl | hc
      · omega
      · obtain ⟨d, hd, rfl⟩ := List.mem_map.mp hc
        exact this.1 d hd
    · show (Array.size _) ≤ 5
      simp
      omega
theorem log_smallZ {i : Int} (h0 : -999 ≤ i) (h1 : i < 1000) : i.natAbs.log2 < 1920 := by
  by_cases z : i.natAbs = 0
  · rw [z]; decide
  · exact Nat.lt_trans ((Nat.log2_lt z).mpr (show i.natAbs < 2 ^ 14 by omega)) (by decide)
theorem TxR.iZ {k : Nat} {i : Int} (h0 : -999 ≤ i) (h1 : i < 1000) : TxR 5 k (.int i) := .int (nice_intZ h0 h1) (log_smallZ h0 h1)
theorem reprX_tup {n k : Nat} {ds : List D} (h : TxA n k ds) (hn : n + 3 ≤ LINE) (hk : k + 1 ≤ 60) : ∃ t : Str, reprX (.tup ds) = some (.str t) ∧ Nice (n + 3) t := by
  obtain ⟨ps, e, q⟩ := h
  have q1 := nice_tuple q.nice
  have es : shownR (.tuple ps) = some (tupleText (PyData.shownAll ps)) := by
    unfold shownR
    rw [if_pos]
    · simp only [PyData.shown]
    · have h2 := q1.2
      have h3 := q.deep
      have e1 : (PyData.tuple ps).depth = PyData.depthAll ps + 1 := by simp only [PyData.depth]
      have e2 : (PyData.tuple ps).shown = tupleText (PyData.shownAll ps) := by simp only [PyData.shown]
      have e3 : (PyData.tuple ps).showable = true := by simp only [PyData.showable, q.show_]
      rw [e1, e2, e3]
      simp only [Bool.true_and, Bool.and_eq_true, decide_eq_true_eq]
      exact ⟨by omega, by omega⟩
  refine ⟨_, ?_, q1⟩
  show ((toPy (.tup ds)).bind fun p => (shownR p).map D.str) = _
  simp only [toPy, e, Option.map_some, Option.bind_some, es]
/-! a thunk tried -/
theorem wp_runT {n : Nat} {fs : R D → FS} {r : R D} {Q : D → Prop} {EX : EXT} : Sat (runT n fs r) Q EX ↔ Sat (fs r (List.replicate n none) []) (fun r => Sat (endD r) Q EX) EX := sat_bind
@[simp ↓] theorem wp_tryT_ok {i j : Nat} {ct : Str → Option Bool} {d : D} {fs : FS} {ρ : Env} {S : List D} {Q : Ctl × Env × List D → Prop} {EX : EXT} : Sat (tryT i j ct (.ok d) fs ρ S) Q EX ↔ Sat (setE ρ j d >>= fun ρ1 => R.ok (.nx, ρ1, S)) Q EX := Iff.rfl
theorem wp_tryT_exc {i j : Nat} {ct : Str → Option Bool} {c : Str} {ns : List Str} {ws : List D} {fs : FS} {ρ : Env} {S : List D} {Q : Ctl × Env × List D → Prop} {EX : EXT} (h : ct c = some true) :
    Sat (tryT i j ct (.exc c ns ws) fs ρ S) Q EX ↔ Sat (setE ρ i (.exn c ns ws) >>= fun ρ1 => noX (fs ρ1 S) >>= fun r => R.ok (r.1, r.2.1.set i none, r.2.2)) Q EX := by
  unfold tryT
  dsimp only
  rw [if_pos h]
/-! what a thunk gives, by equations -/
section
variable {Pg : Program} {w : World} {K : PySem.W.Frag} {mg : Str → Option Value} {base : Heap} {ca : Str → Option Addr} {T : Tb}
theorem fn_pC {x qual : Str} {st : Stmt} {fA : Addr} {fd : FuncData} {N ps : List Str} {k : Nat} {fs : FS} {OO : List Nat} (F : Fun K x qual st fA fd) (Sc : FnScope N ps (defScope st)) (hN : 0 < N.length)
    (body : ∀ (cdv : Value), fd.code = cdv → ∀ (A : Around) (outer : List PySem.Env) (s : Shared) (H : Hp) (E : XK) (p : Addr), Rm k (A.deeper (envOfC qual (defScope st) s.heap.objs.size fA cdv)) →
      PSS (cxOf CX0 Pg w K mg base N qual (defScope st) fA cdv A outer s H E).nox ⟨K, ca, H, some (0, p), .lst, T, [], [], []⟩ [] OO [] EX0 (defBody st) fs) :
    FnG Pg w K mg base (k + 1) fA fd ps (spP K ca T (runP N.length ps.length fs)) := by
  refine fn_bodyC F Sc (fun vs H Q E h => ?_) (fun cdv hcd A outer s H vs Q E hr hgu h => ?_)
  · obtain ⟨p, ws, xs, S, ds, B, rfl, _, _, _, _, _, hv, hs⟩ := h
    unfold runP at hs
    split at hs
    · rw [List.length_cons, hv.length]; assumption
    · exact hs.elim
  · obtain ⟨p, ws, xs, S, ds, B, rfl, hp, hB, hb, ti, hxs, hv, hs⟩ := h
    obtain ⟨t, pt, q⟩ := (body cdv hcd A outer s H E p ⟨hr, hgu⟩).ex
    refine ⟨t, pt, ?_⟩
    unfold runP at hs
    split at hs
    · have ef : ∀ H', Frz H' (([p] ++ tbs T) ++ beside T B) = Frz H' (p :: B) := fun H' => frz_congr fun a => besideP_iff (K := K) (ca := ca) (H := H') (sh := .lst) ti.sub a
      refine q (beside T B) [] (L2.start N (.ref p :: ws)) H (startP N.length ds) S _ rfl (rel_startP hN hp hB hb ti hxs hv) ((sat_bind.mp hs).imp fun r hr => ?_)
      obtain ⟨c, ρ1, S1⟩ := r
      cases c with
      | nx =>
        intro P' σ' H' h1 h2 h3
        have hr : ∀ v H' xs', (∀ a o, a ≠ p → a ∉ tbs T → H a = some o → H' a = some o) → LamX.Tabs T H' → H' p = some (.lst xs') → RpA K ca (Frz H' (p :: B)) xs' S1 → Rp K ca (Frz H' (p :: B)) v .non → Q v H' := hr
        have hf := h3.fin (v := .non) (d := .non) .non
        obtain ⟨xs', e1, q1⟩ := hf.pool 0 p rfl
        exact hr .non H' xs' (fun a o n n2 e => hf.ex a o e (by simpa [Z.pls] using ⟨n, n2⟩)) hf.tabs e1 (ef H' ▸ q1) .non
      | rt d =>
        intro v H' hf
        have hr : ∀ v H' xs', (∀ a o, a ≠ p → a ∉ tbs T → H a = some o → H' a = some o) → LamX.Tabs T H' → H' p = some (.lst xs') → RpA K ca (Frz H' (p :: B)) xs' S1 → Rp K ca (Frz H' (p :: B)) v d → Q v H' := hr
        obtain ⟨xs', e1, q1⟩ := hf.pool 0 p rfl
        exact hr v H' xs' (fun a o n n2 e => hf.ex a o e (by simpa [Z.pls] using ⟨n, n2⟩)) hf.tabs e1 (ef H' ▸ q1) (ef H' ▸ hf.val)
      | bk => exact hr.elim
      | ct => exact hr.elim
    · exact hs.elim
end
/-! the goal that k_head leaves, where the defs nms make lambdas -/
end PL
set_option Elab.async false
set_option linter.all false
set_option maxRecDepth 100000
set_option maxHeartbeats 4000000
/-! Own exceptions as values: made by position, by name, without anything. -/
namespace PL
open PySem PySem.Spec PyProof.Rows L2 Builtin Builtin.ObjectAttr
section
variable {X : Cx} {z : Z} {O : List Nat} {EX : EXT} {pins : List (Addr × Obj)} {σ : L2.St} {H : Hp} {s : Shared} {C fI : Addr} {k : Nat} {fd : FuncData} {ps nms ks : List Str} {e : Expr} {es : List Expr} {kws : List Keyword} {fa fk : FA} {x : Str} {p pos : Pos}
def mkxE (c : Str) (nms : List Str) (n m : Nat) (ix : List Nat) (fa fk : FA) : FE := fun ρ S => fa ρ S >>= fun x => fk ρ x.2 >>= fun y => if x.1.length = n ∧ y.1.length = m ∧ (pick ix (x.1 ++ y.1)).length = nms.length then R.ok (.exn c nms.reverse (pick ix (x.1 ++ y.1)).reverse, y.2) else R.bad
/-! X(), a class without an __init__ of its own -/
def mkx0E (c : Str) : FE := fun _ S => R.ok (.exn c [] [], S)
/-! o.NAME, a constant of the class -/
@[simp ↓] theorem wp_mkxE {c : Str} {nms : List Str} {n m : Nat} {ix : List Nat} {fa fk : FA} {ρ : Env} {S : List D} {Q : D × List D → Prop} {EX : EXT} : Sat (mkxE c nms n m ix fa fk ρ S) Q EX ↔ Sat (fa ρ S >>= fun x => fk ρ x.2 >>= fun y => if x.1.length = n ∧ y.1.length = m ∧ (pick ix (x.1 ++ y.1)).length = nms.length then R.ok (.exn c nms.reverse (pick ix (x.1 ++ y.1)).reverse, y.2) else R.bad) Q EX := Iff.rfl
@[simp ↓] theorem wp_mkx0E {c : Str} {ρ : Env} {S : List D} {Q : D × List D → Prop} {EX : EXT} : Sat (mkx0E c ρ S) Q EX ↔ Q (.exn c [] [], S) := Iff.rfl
end
inductive AllP {α β : Type} (P : α → β → Prop) : List (α × β) → Prop
  | nil : AllP P []
  | cons {a : α} {b : β} {l : List (α × β)} : P a b → AllP P l → AllP P ((a, b) :: l)
theorem lookup_all {α β : Type} [BEq α] [LawfulBEq α] {P : α → β → Prop} : ∀ {l : List (α × β)}, AllP P l → ∀ {c : α} {k : β}, l.lookup c = some k → P c k
  | _, .nil, _, _, e => by cases e
  | _, .cons (a := a) h r, c, k, e => by
    rw [List.lookup_cons] at e
    split at e
    · rename_i q
      cases e
      rw [eq_of_beq q]
      exact h
    · exact lookup_all r e
end PL
set_option Elab.async false
set_option linter.all false
set_option maxRecDepth 100000
set_option maxHeartbeats 4000000
/-! Own methods and defs by position and by name, keyword-only defaults left out. -/
namespace PL
open PySem PySem.Spec PyProof.Rows L2 ClX
/-- n positional values, keywords ks; dvs: the defaults that lack; by places of all of them -/
structure KBp (K : PySem.W.Frag) (fd : FuncData) (ps ks : List Str) (n : Nat) (ix : List Nat) (dvs : List V) : Prop where
  ex : ∃ mv : List Value, Vals dvs mv ∧ ∀ (s : Shared) (us ws : List Value), K.In s.heap → us.length = n → ws.length = ks.length → BindsTo s fd ⟨us, ks.zip ws⟩ (ps.zip (pick ix (us ++ (mv ++ ws))))
/-- nothing lacks -/
theorem KBp.plain {K : PySem.W.Frag} {fd : FuncData} {ps ks : List Str} {n : Nat} {ix : List Nat} (h : ∀ (s : Shared) (us ws : List Value), K.In s.heap → us.length = n → ws.length = ks.length → BindsTo s fd ⟨us, ks.zip ws⟩ (ps.zip (pick ix (us ++ ws)))) : KBp K fd ps ks n ix [] :=
  ⟨[], .nil, fun s us ws X l1 l2 => by rw [List.nil_append]; exact h s us ws X l1 l2⟩
/-- ms lack, their values stand in the dict at A -/
theorem KBp.lacks {K : PySem.W.Frag} {fd : FuncData} {ps ks : List Str} {n : Nat} {ix : List Nat} {A : Addr} (ms : List (Str × V)) (hq : ∀ q ∈ ms, ∃ u, PySem.W.nsIn K A q.1 = some (some u) ∧ RelV q.2 u)
    (h : ∀ (us mv ws : List Value), us.length = n → mv.length = ms.length → ws.length = ks.length → KwChain A ((ms.map (·.1)).zip mv) (bindArgs fd ⟨us, ks.zip ws⟩) (ps.zip (pick ix (us ++ (mv ++ ws))))) : KBp K fd ps ks n ix (ms.map (·.2)) := by
  obtain ⟨mv, hl, rk, hks⟩ := kwd_vals hq
  exact ⟨mv, rk, fun s us ws X l1 l2 => BindsTo.of_looks fun M => KwChain.looks X hks (h us mv ws l1 hl l2)⟩
/-- a callee that runs -/
structure Runs (X : Cx) (ps : List Str) (fd : FuncData) (fA : Addr) (cond : L2.St → List V → Hp → VK → Prop) : Prop where
  num : ∀ σ vs H Q, cond σ vs H Q → vs.length = ps.length
  go : ∀ (pins : List (Addr × Obj)) (σ : L2.St) (H : Hp) (s : Shared) (args : Args) (us : List Value) (vs : List V) (Q : VK), BindsTo s fd args (ps.zip us) → Inv X pins σ H s → Vals vs us → cond σ vs H Q → wpAny (model X.prog X.w) X.A (call (.ref fA) args.pos args.kw) (EP X pins σ Q) X.xe s
section
variable {X : Cx} {z : Z} {O : List Nat} {EX : EXT} {pins : List (Addr × Obj)} {σ : L2.St} {H : Hp} {s : Shared} {C fA : Addr} {k n : Nat} {fd : FuncData} {ps ks : List Str} {e o : Expr} {es : List Expr} {kws : List Keyword} {f : FE} {fa fk : FA} {x m : Str} {p pos apos : Pos} {sp : Sp} {W : WX} {E : XK}
variable {cond : L2.St → List V → Hp → VK → Prop} {dvs : List V} {dds : List D} {ix : List Nat} {to : TE} {t tk : TA} {F : List D → R D}
theorem runs_g (G : FnG X.prog X.w X.K X.mg X.base k fA fd ps sp) (hr : Rm k X.A) : Runs X ps fd fA (fun _ vs H Q => sp vs H Q E) :=
  ⟨fun _ vs H Q h => G.num vs H Q E h, fun _ _ _ _ _ _ _ _ hb I r h => run_g G hr hb I r h⟩
theorem runs_x (G : FnX X.prog X.w X.K X.mg X.base k fA fd ps sp) (hr : Rm k X.A) (tk : L2.Takes X W) : Runs X ps fd fA (fun σ vs H Q => sp vs H Q fun cls d H' => W cls d σ H') :=
  ⟨fun _ vs H Q h => G.num vs H Q _ h, fun _ _ _ _ _ _ _ _ hb I r h => run_x G hr tk hb I r h⟩
/-- the values are put in the parameters' order -/
theorem run_kbp {us ws : List Value} {vs zs : List V} {Q : VK} (R : Runs X ps fd fA cond) (hb : KBp X.K fd ps ks n ix dvs) (l1 : us.length = n) (l2 : ws.length = ks.length) (I : Inv X pins σ H s) (r1 : Vals vs us) (r2 : Vals zs ws) (h : cond σ (pick ix (vs ++ (dvs ++ zs))) H Q) :
    wpAny (model X.prog X.w) X.A (call (.ref fA) us (ks.zip ws)) (EP X pins σ Q) X.xe s := by
  obtain ⟨mv, rm, hb⟩ := hb.ex
  exact R.go pins σ H s ⟨us, ks.zip ws⟩ _ _ Q (hb s us ws I.kIn l1 l2) I (vals_pick (r1.append (rm.append r2)) ix) h
/-- o.m(e, .., k = v, ..) -/
def tMN (C : Addr) (m : Str) (n j : Nat) (ix : List Nat) (dvs : List V) (cond : L2.St → List V → Hp → VK → Prop) (to : TE) (t tk : TA) : TE := fun σ H Q => to σ H fun x H0 => ∃ a dx fs, x = .ref a ∧ H0 a = some (.ins C dx fs) ∧ fs.lookup m = none ∧ t σ H0 fun vs H1 => tk σ H1 fun zs H2 => vs.length + 1 = n ∧ zs.length = j ∧ cond σ (pick ix ((.ref a :: vs) ++ (dvs ++ zs))) H2 Q
theorem pe_mN {pl : Sem Bool} (he : PE X o to) (c : Cls X.K C) (hm : Meth X.K C m fA) (R : Runs X ps fd fA cond) (hb : KBp X.K fd ps ks n ix dvs) (ha : PA X (e :: es) t) (hkw : PK X kws tk) (hall : (backToKw pos (keywordEach kws X.env)).all (·.1.isSome) = true) (hks : (backToKw pos (keywordEach kws X.env)).filterMap (·.1) = ks)
    (hst : starEach (e :: es) X.env = (false, eval e X.env) :: starEach es X.env) (hpl : ((backTo pos (starEach (e :: es) X.env)).any (·.1) || (backToKw pos (keywordEach kws X.env)).any (·.1.isNone)) = false)
    (ht : eval (.Call (.Attribute o m apos) (e :: es) kws pos) X.env = (do
      let ov ← eval o X.env
      standAt apos.atName
      let (f, first) ← holding [ov] (getMethod ov m pl)
      callWith pos f first (backTo pos (starEach (e :: es) X.env)) (backToKw pos (keywordEach kws X.env)))) : PE X (.Call (.Attribute o m apos) (e :: es) kws pos) (tMN C m n ks.length ix dvs cond to t tk) := ⟨fun pins s σ H Q I h => by
  refine PySem.W.methodCall_KW (pl := pl) (thn (he.run pins s σ H _ I h) fun u s1 hv => ?_) ht
  obtain ⟨x, H1, I1, rx, a, dx, fs, ex, ea, l, q⟩ := hv
  subst ex
  obtain rfl : u = Value.ref a := rx
  refine getmeth_ok I1 ea c hm l (PySem.W.callWith_KW (first := [.ref a]) (h₀ := X.base) I.ok.mod.kin hm.kp hall (thn (ha.run pos pins s1 σ H1 _ I1 q) fun us s2 hw => ?_) hpl hst)
  obtain ⟨vs, H2, I2, r, q2⟩ := hw
  refine thn (hkw.run pos pins s2 σ H2 _ I2 q2) fun ws s3 hz => ?_
  obtain ⟨zs, H3, I3, rz, l1, l2, q3⟩ := hz
  rw [hks]
  exact ⟨I3.kIn, run_kbp (us := Value.ref a :: us) (vs := .ref a :: vs) R hb (by rw [List.length_cons, ← r.length]; exact l1) (by rw [← rz.length]; exact l2) I3 (.cons rfl r) rz q3⟩⟩
theorem pe_mN0 {pl : Sem Bool} (he : PE X o to) (c : Cls X.K C) (hm : Meth X.K C m fA) (R : Runs X ps fd fA cond) (hb : KBp X.K fd ps ks n ix dvs) (hkw : PK X kws tk) (hall : (backToKw pos (keywordEach kws X.env)).all (·.1.isSome) = true) (hks : (backToKw pos (keywordEach kws X.env)).filterMap (·.1) = ks)
    (hpl : ((backTo pos (starEach [] X.env)).any (·.1) || (backToKw pos (keywordEach kws X.env)).any (·.1.isNone)) = false)
    (ht : eval (.Call (.Attribute o m apos) [] kws pos) X.env = (do
      let ov ← eval o X.env
      standAt apos.atName
      let (f, first) ← holding [ov] (getMethod ov m pl)
      callWith pos f first (backTo pos (starEach [] X.env)) (backToKw pos (keywordEach kws X.env)))) : PE X (.Call (.Attribute o m apos) [] kws pos) (tMN C m n ks.length ix dvs cond to tNil tk) := ⟨fun pins s σ H Q I h => by
  refine PySem.W.methodCall_KW (pl := pl) (thn (he.run pins s σ H _ I h) fun u s1 hv => ?_) ht
  obtain ⟨x, H1, I1, rx, a, dx, fs, ex, ea, l, q⟩ := hv
  subst ex
  obtain rfl : u = Value.ref a := rx
  refine getmeth_ok I1 ea c hm l (PySem.W.callWith_KW0 (first := [.ref a]) (h₀ := X.base) I.ok.mod.kin hm.kp hall (thn (hkw.run pos pins s1 σ H1 _ I1 q) fun ws s3 hz => ?_) hpl)
  obtain ⟨zs, H3, I3, rz, l1, l2, q3⟩ := hz
  rw [hks]
  exact ⟨I3.kIn, run_kbp (us := [Value.ref a]) (vs := [.ref a]) R hb l1 (by rw [← rz.length]; exact l2) I3 (.cons rfl .nil) rz q3⟩⟩
/-- as data; the method's name is no attribute -/
def mthN (cn m : Str) (F : List D → R D) (n j : Nat) (ix : List Nat) (dds : List D) (f : FE) (fa fk : FA) : FE := fun ρ S => f ρ S >>= fun x => match x.1 with
  | .ins c ns vs => if c = cn ∧ ns.contains m = false then fa ρ x.2 >>= fun y => fk ρ y.2 >>= fun w => if y.1.length + 1 = n ∧ w.1.length = j then F (pick ix ((.ins c ns vs :: y.1) ++ (dds ++ w.1))) >>= fun d => R.ok (d, w.2) else R.bad else R.bad
  | _ => R.bad
abbrev mthNC (cn m : Str) (F : List D → R D) (n j : Nat) (ix : List Nat) (dds : List D) (f : FE) (fa fk : FA) : FE := mthN cn m (fun ds => noX (F ds)) n j ix dds f fa fk
theorem ev_mN {cn : Str} {ta' tb' : TA} {tt : TE} (hca : z.ca cn = some C) {cond : L2.St → List V → Hp → VK → Prop} (hc : ∀ {B : List Addr} {P : List (Nat × Addr)} {σ : L2.St} {H : Hp} {ρ : Env} {S : List D} {vs : List V} {xs : List D} {Q : VK}, Rel z B P σ H ρ S → RpA z.K z.ca (Frz H (z.L B P)) vs xs →
      Sat (F xs >>= fun d => R.ok (d, S)) (fun r => ∀ v H', Grow z H H' → Rel z B P σ H' ρ r.2 → Rp z.K z.ca (Frz H' (z.L B P)) v r.1 → Q v H') EX → cond σ vs H Q) (hdd : ∀ F', RpA z.K z.ca F' dvs dds) (qo : EvE z O EX to f)
    (qa : ∀ B P σ H ρ S Q, P.map (·.1) = O → Rel z B P σ H ρ S → Sat (fa ρ S) (fun r => ∀ vs H', Grow z H H' → Rel z B P σ H' ρ r.2 → RpA z.K z.ca (Frz H' (z.L B P)) vs r.1 → Q vs H') EX → t σ H Q)
    (qk : ∀ B P σ H ρ S Q, P.map (·.1) = O → Rel z B P σ H ρ S → Sat (fk ρ S) (fun r => ∀ vs H', Grow z H H' → Rel z B P σ H' ρ r.2 → RpA z.K z.ca (Frz H' (z.L B P)) vs r.1 → Q vs H') EX → tk σ H Q) {j : Nat} :
    EvE z O EX (tMN C m n j ix dvs cond to t tk) (mthN cn m F n j ix dds f fa fk) := fun B P σ H ρ S Q hP rr hs => by
  refine qo B P σ H ρ S _ hP rr ((sat_bind.mp hs).imp fun w hw v0 H0 g0 r0 hv0 => ?_)
  obtain ⟨w1, S0⟩ := w
  cases w1 with
  | ins c0 ns vs0 =>
    dsimp only at hw
    split at hw
    · rename_i ec
      obtain ⟨rfl, nf⟩ := ec
      obtain ⟨ad, dx, fs, e1, e2⟩ := ins_in hca hv0
      have e3 : fs.map (·.1) = ns := by
        cases hv0 with
        | ins h ce r =>
          have ea := frz_ex _ _ _ _ h
          cases e1
          rw [frz_ex _ _ _ _ e2] at ea
          cases ea
          rfl
      refine ⟨ad, dx, fs, e1, frz_ex _ _ _ _ e2, lookup_none_of (by rw [e3]; exact nf), ?_⟩
      refine qa B P σ H0 ρ S0 _ hP r0 ((sat_bind.mp hw).imp fun y hy vs H1 g1 r1 hv => ?_)
      refine qk B P σ H1 ρ y.2 _ hP r1 ((sat_bind.mp hy).imp fun u hu zs H2 g2 r2 hz => ?_)
      split at hu
      · rename_i ll
        refine ⟨by rw [hv.length]; exact ll.1, by rw [hz.length]; exact ll.2, ?_⟩
        have hself : RpA z.K z.ca (Frz H2 (z.L B P)) (.ref ad :: vs) (.ins c0 ns vs0 :: y.1) := by
          rw [← e1]
          exact .cons ((hv0.mono g1.frz).mono g2.frz) (hv.mono g2.frz)
        exact hc r2 (rpa_pick (hself.append ((hdd _).append hz)) ix) (hu.imp fun r hr v' H' g' r' hv' => hr v' H' (((g0.trans g1).trans g2).trans g') r' hv')
      · exact hu.elim
    · exact hw.elim
  | _ => exact hw.elim
theorem pd_mN {pl : Sem Bool} {cn : Str} (tk : L2.Takes X (WD z EX)) (hca : z.ca cn = some C) (c : Cls X.K C) (hm : Meth X.K C m fA) (G : FnX X.prog X.w X.K X.mg X.base k fA fd ps (spX z.K z.ca z.tb F)) (hr : Rm k X.A) (hb : KBp X.K fd ps ks n ix dvs) (hdd : ∀ F', RpA z.K z.ca F' dvs dds) (ho : PD X z O EX o f) (ha : PAd X z O EX (e :: es) fa) (hkw : PKd X z O EX kws fk)
    (hall : (backToKw pos (keywordEach kws X.env)).all (·.1.isSome) = true := by rfl) (hks : (backToKw pos (keywordEach kws X.env)).filterMap (·.1) = ks := by rfl) (hst : starEach (e :: es) X.env = (false, eval e X.env) :: starEach es X.env := by rfl) (hpl : ((backTo pos (starEach (e :: es) X.env)).any (·.1) || (backToKw pos (keywordEach kws X.env)).any (·.1.isNone)) = false := by rfl)
    (ht : eval (.Call (.Attribute o m apos) (e :: es) kws pos) X.env = (do
      let ov ← eval o X.env
      standAt apos.atName
      let (f, first) ← holding [ov] (getMethod ov m pl)
      callWith pos f first (backTo pos (starEach (e :: es) X.env)) (backToKw pos (keywordEach kws X.env))) := by rfl) : PD X z O EX (.Call (.Attribute o m apos) (e :: es) kws pos) (mthN cn m F n ks.length ix dds f fa fk) := by
  obtain ⟨to, po, qo⟩ := ho.ex
  obtain ⟨ta, pa, qa⟩ := ha.ex
  obtain ⟨tz, pz, qz⟩ := hkw.ex
  exact ⟨_, pe_mN po c hm (runs_x G hr tk) hb pa pz hall hks hst hpl ht, ev_mN (ta' := ta) (tb' := tz) (tt := to) hca (fun r1 hv h => spX_of r1 hv h) hdd qo qa qz⟩
theorem pd_mN0 {pl : Sem Bool} {cn : Str} (tk : L2.Takes X (WD z EX)) (hca : z.ca cn = some C) (c : Cls X.K C) (hm : Meth X.K C m fA) (G : FnX X.prog X.w X.K X.mg X.base k fA fd ps (spX z.K z.ca z.tb F)) (hr : Rm k X.A) (hb : KBp X.K fd ps ks n ix dvs) (hdd : ∀ F', RpA z.K z.ca F' dvs dds) (ho : PD X z O EX o f) (hkw : PKd X z O EX kws fk)
    (hall : (backToKw pos (keywordEach kws X.env)).all (·.1.isSome) = true := by rfl) (hks : (backToKw pos (keywordEach kws X.env)).filterMap (·.1) = ks := by rfl) (hpl : ((backTo pos (starEach [] X.env)).any (·.1) || (backToKw pos (keywordEach kws X.env)).any (·.1.isNone)) = false := by rfl)
    (ht : eval (.Call (.Attribute o m apos) [] kws pos) X.env = (do
      let ov ← eval o X.env
      standAt apos.atName
      let (f, first) ← holding [ov] (getMethod ov m pl)
      callWith pos f first (backTo pos (starEach [] X.env)) (backToKw pos (keywordEach kws X.env))) := by rfl) : PD X z O EX (.Call (.Attribute o m apos) [] kws pos) (mthN cn m F n ks.length ix dds f nilA fk) := by
  obtain ⟨to, po, qo⟩ := ho.ex
  obtain ⟨tz, pz, qz⟩ := hkw.ex
  exact ⟨_, pe_mN0 po c hm (runs_x G hr tk) hb pz hall hks hpl ht, ev_mN (ta' := tNil) (tb' := tz) (tt := to) (fa := nilA) (t := tNil) hca (fun r1 hv h => spX_of r1 hv h) hdd qo (fun B P σ H ρ S Q hP rr hs => (show _ from hs) [] H Grow.refl rr .nil) qz⟩
/-- .. where nothing is raised -/
theorem pd_mNC {pl : Sem Bool} {cn : Str} (hca : z.ca cn = some C) (c : Cls X.K C) (hm : Meth X.K C m fA) (G : FnG X.prog X.w X.K X.mg X.base k fA fd ps (spF z.K z.ca z.tb F)) (hr : Rm k X.A) (hb : KBp X.K fd ps ks n ix dvs) (hdd : ∀ F', RpA z.K z.ca F' dvs dds) (ho : PD X z O EX o f) (ha : PAd X z O EX (e :: es) fa) (hkw : PKd X z O EX kws fk)
    (hall : (backToKw pos (keywordEach kws X.env)).all (·.1.isSome) = true := by rfl) (hks : (backToKw pos (keywordEach kws X.env)).filterMap (·.1) = ks := by rfl) (hst : starEach (e :: es) X.env = (false, eval e X.env) :: starEach es X.env := by rfl) (hpl : ((backTo pos (starEach (e :: es) X.env)).any (·.1) || (backToKw pos (keywordEach kws X.env)).any (·.1.isNone)) = false := by rfl)
    (ht : eval (.Call (.Attribute o m apos) (e :: es) kws pos) X.env = (do
      let ov ← eval o X.env
      standAt apos.atName
      let (f, first) ← holding [ov] (getMethod ov m pl)
      callWith pos f first (backTo pos (starEach (e :: es) X.env)) (backToKw pos (keywordEach kws X.env))) := by rfl) : PD X z O EX (.Call (.Attribute o m apos) (e :: es) kws pos) (mthNC cn m F n ks.length ix dds f fa fk) := by
  obtain ⟨to, po, qo⟩ := ho.ex
  obtain ⟨ta, pa, qa⟩ := ha.ex
  obtain ⟨tz, pz, qz⟩ := hkw.ex
  exact ⟨_, pe_mN po c hm (runs_g (E := E0) G hr) hb pa pz hall hks hst hpl ht, ev_mN (F := fun ds => noX (F ds)) (cond := fun _ vs H Q => spF z.K z.ca z.tb F vs H Q E0) (ta' := ta) (tb' := tz) (tt := to) hca (fun r1 hv h => spF_of r1 hv h) hdd qo qa qz⟩
/-! what is wanted -/
@[simp ↓] theorem wp_mthN {cn m : Str} {F : List D → R D} {n j : Nat} {ix : List Nat} {dds : List D} {f : FE} {fa fk : FA} {ρ : Env} {S : List D} {Q : D × List D → Prop} {EX : EXT} : Sat (mthN cn m F n j ix dds f fa fk ρ S) Q EX ↔ Sat (f ρ S >>= fun x => match x.1 with
  | .ins c ns vs => if c = cn ∧ ns.contains m = false then fa ρ x.2 >>= fun y => fk ρ y.2 >>= fun w => if y.1.length + 1 = n ∧ w.1.length = j then F (pick ix ((.ins c ns vs :: y.1) ++ (dds ++ w.1))) >>= fun d => R.ok (d, w.2) else R.bad else R.bad
  | _ => R.bad) Q EX := Iff.rfl
theorem ev_mthN {cn m : Str} {F : List D → R D} {n j : Nat} {ix : List Nat} {dds : List D} {f : FE} {fa fk : FA} {c : Str} {ns : List Str} {vs : List D} {ρ : Env} {S S1 : List D} (h : f ρ S = R.ok (.ins c ns vs, S1)) (hc : c = cn ∧ ns.contains m = false) :
    mthN cn m F n j ix dds f fa fk ρ S = (fa ρ S1 >>= fun y => fk ρ y.2 >>= fun w => if y.1.length + 1 = n ∧ w.1.length = j then F (pick ix ((.ins c ns vs :: y.1) ++ (dds ++ w.1))) >>= fun d => R.ok (d, w.2) else R.bad) := by
  unfold mthN
  rw [h]
  show (if c = cn ∧ ns.contains m = false then _ else _) = _
  rw [if_pos hc]
end
end PL
set_option Elab.async false
set_option linter.all false
set_option maxRecDepth 100000
set_option maxHeartbeats 4000000
/-! True % n; the text of a tuple. -/
namespace PL
open PySem PySem.Spec PyProof.Rows L2 ClX
section
variable {X : Cx} {z : Z} {O : List Nat} {EX : EXT} {a b e : Expr} {f g : FE} {fa : FA} {p pos : Pos}
def rModB : R2 := fun x y H Q => ∃ (c : Bool) (j : Int), x = .bl c ∧ y = .int j ∧ 0 < j ∧ Q (.int ((if c then 1 else 0 : Int) % j)) H
theorem op_modB : OpR X (binaryOp .Mod) rModB := by
  intro pins s σ H x y v u Q I rx ry h
  obtain ⟨c, j, rfl, rfl, hj, q⟩ := h
  cases rx
  obtain ⟨t, rfl⟩ := ry
  exact PySem.IsLeap.wpAny_mod_bool (by omega) ⟨.int _, H, I.tok _, ⟨s.toks, by rw [Int.fmod_eq_emod_of_nonneg _ (by omega)]⟩, q⟩
def modB : D → D → Option D | .bl c, .int j => if 0 < j then some (.int ((if c then 1 else 0 : Int) % j)) else none | _, _ => none
theorem op2_modB {K : PySem.W.Frag} {ca : Str → Option Addr} : Op2 K ca rModB modB := by
  intro H L N x y dx dy d Q fr hx hy e hq
  cases dx <;> cases dy <;> simp only [modB, reduceCtorEq] at e
  split at e
  · rename_i ek
    cases e
    have h1 := hx.rp
    have h2 := hy.rp
    cases h1
    cases h2
    exact ⟨_, _, rfl, rfl, ek, hq _ H (Ex.refl H) (.int _)⟩
  · cases e
def modDx (a b : D) : Option D := (modD a b).or (modB a b)
theorem pd_modx (ha : PB X z O EX a f) (hb : PB X z O EX b g) : PD X z O EX (.BinOp a .Mod b pos) (bin2 modDx f g) :=
  pd_op (r := fun x y H Q => _ ∨ rModB x y H Q) (op_mod.or op_modB) (op2_mod.or op2_modB) ha hb
@[simp] theorem modDx_int (a b : Int) : modDx (.int a) (.int b) = if 0 < b then some (.int (a % b)) else none := by
  show (if 0 < b then some (D.int (a % b)) else none).or none = _
  rw [Option.or_none]
@[simp] theorem modDx_bl (c : Bool) (b : Int) : modDx (.bl c) (.int b) = if 0 < b then some (.int ((if c then 1 else 0 : Int) % b)) else none := by
  show (none : Option D).or (if 0 < b then some (D.int ((if c then 1 else 0 : Int) % b)) else none) = _
  rw [Option.none_or]
/-! str(e), e an int or a tuple of data -/
def strX : List D → Option D
  | [.int i] => if i.natAbs.log2 < 1920 then some (.str (toString i)) else none
  | [.tup xs] => (toPy (.tup xs)).bind fun p => (shownR p).map .str
  | _ => none
def rStrX (K : PySem.W.Frag) : List V → Hp → VK → Prop := fun xs H Q => (∃ i, xs = [.int i] ∧ i.natAbs.log2 < 1920 ∧ Q (.str (toString i)) H) ∨ ∃ (v : V) (ds : List D) (y : Str) (ca : Str → Option Addr), xs = [v] ∧ Rp K ca H v (.tup ds) ∧ strX [.tup ds] = some (.str y) ∧ Q (.str y) H
theorem call_str_x (hu : X.A.units + 64 < cLine) (hg : X.A.guards = some []) : CallR X (.type "str") (rStrX X.K) := by
  intro pins s σ H xs us Q I r h
  rcases h with h | h
  · exact call_str_int pins s σ H xs us Q I r h
  · obtain ⟨v, ds, y, ca, rfl, rp, hy, q⟩ := h
    obtain ⟨w, rfl, rw_⟩ := vals1 r
    have rp' := rp
    cases rp with
    | tup h r' =>
      simp only [strX, Option.bind_eq_some_iff, Option.map_eq_some_iff, D.str.injEq] at hy
      obtain ⟨p, e1, t, e2, rfl⟩ := hy
      obtain ⟨as, rd⟩ := Dp.reads I p _ w (rp'.dp e1) rw_
      have fl := rp'.flat e1
      unfold shownR at e2
      split at e2
      · rename_i l
        cases e2
        simp only [Bool.and_eq_true, decide_eq_true_eq] at l
        obtain ⟨⟨w2, w4⟩, w5⟩ := l
        cases rw_
        exact str_of_reads rd w2 (PyData.noDict_hsm fl) hg (by omega) (fun _ _ e => e) (fun h' u tk hk => ⟨.str _, H, I.kept hk, ⟨_, rfl⟩, q⟩) (line_le w5)
      · cases e2
theorem callD_strX {K : PySem.W.Frag} {ca : Str → Option Addr} : CallD K ca (rStrX K) strX := by
  intro H L N vs ds d Q fr hv e hq
  unfold strX at e
  split at e
  · split at e
    · rename_i l
      cases e
      cases hv with
      | cons h r =>
        cases r
        have h1 := h.rp
        cases h1
        exact .inl ⟨_, rfl, l, hq _ H (Ex.refl H) (.str _)⟩
    · cases e
  · rename_i xs
    cases hv with
    | cons h r =>
      cases r
      have e0 := e
      simp only [Option.bind_eq_some_iff, Option.map_eq_some_iff] at e
      obtain ⟨p, e1, t, e2, rfl⟩ := e
      exact .inr ⟨_, _, _, ca, rfl, h.rp, e0, hq _ H (Ex.refl H) (.str _)⟩
  · cases e
theorem pd_strX (hK : X.K = z.K) (hu : X.A.units + 64 < cLine) (hgu : X.A.guards = some []) (hm : X.mg "str" = none) (ha : PBA X z O EX [e] fa) (hg : Gl X "str" := by rfl) (he : starEach [e] X.env = (false, eval e X.env) :: starEach [] X.env := by rfl) (hpl : (backTo pos (starEach [] X.env)).any (·.1) = false := by rfl) :
    PD X z O EX (.Call (.Name "str" p) [e] [] pos) (callE strX fa) := pd_callTy (r := rStrX z.K) (hK ▸ call_str_x hu hgu) callD_strX hm ha hg (by decide +kernel) (by decide) (by decide) he hpl
end
end PL
set_option Elab.async false
set_option linter.all false
set_option maxRecDepth 100000
set_option maxHeartbeats 4000000
namespace K05
open PySem PySem.Spec PyProof.Rows L2 ClX PL
def top (i : Nat) : Stmt := PySem.Challenge.pw_staycounts_k05_counts_changed.main.body.getD i (.Pass ⟨0, 0, 0, 0⟩)
abbrev nm (i : Nat) : FE := fun ρ S => lk ρ i >>= fun d => R.ok (d, S)
theorem notpl0 {tb : Tb} {K : PySem.W.Frag} {ca : Str → Option Addr} {H : Hp} {p : Addr} {sh : List V → HO} {bs : List Addr} {s0 : L2.St} {i : Nat} (h : 0 ≠ i) : NotPl ⟨K, ca, H, some (0, p), sh, tb, bs, s0, []⟩ i := ⟨fun j a e => by
  cases e
  exact h, fun q => nomatch q⟩
theorem notplN {tb : Tb} {K : PySem.W.Frag} {ca : Str → Option Addr} {H : Hp} {sh : List V → HO} {bs : List Addr} {s0 : L2.St} {i : Nat} : NotPl ⟨K, ca, H, none, sh, tb, bs, s0, []⟩ i := ⟨fun j a e => (nomatch e), fun q => nomatch q⟩
theorem notplK {tb : Tb} {K : PySem.W.Frag} {ca : Str → Option Addr} {H : Hp} {sh : List V → HO} {bs : List Addr} {s0 : L2.St} {kl : List Nat} {i : Nat} (h : i ∉ kl) : NotPl ⟨K, ca, H, none, sh, tb, bs, s0, kl⟩ i := ⟨fun j a e => (nomatch e), h⟩
def cs : List Str := ["Counts"]
abbrev s_eIC : Stmt := inClass (top 2) 0
abbrev s_eIT : Stmt := inClass (top 4) 0
abbrev s_eIN : Stmt := inClass (top 5) 0
abbrev s_eTM : Stmt := inClass (top 20) 0
abbrev s_ii : Stmt := top 22
abbrev s_ct : Stmt := top 24
abbrev s_cnu : Stmt := top 25
abbrev s_pra : Stmt := top 30
abbrev s_cl : Stmt := top 37
abbrev s_inu : Stmt := top 39
abbrev s_cn : Stmt := top 38
abbrev s_rep : Stmt := top 41
abbrev s_ini : Stmt := inClass (top 35) 2
abbrev s_pre : Stmt := inClass (top 35) 5
abbrev s_peo : Stmt := inClass (top 35) 6
abbrev s_eq : Stmt := inClass (top 35) 8
abbrev s_str : Stmt := inClass (top 35) 9
abbrev s_qui : Stmt := inClass (top 35) 4
abbrev s_cha : Stmt := inClass (top 35) 14
abbrev s_exd : Stmt := inClass (top 35) 15
abbrev s_cell : Stmt := top 43
abbrev s_pool : Stmt := top 44
abbrev s_draw : Stmt := top 45
abbrev s_flows : Stmt := top 46
abbrev s_small : Stmt := top 47
abbrev s_great : Stmt := top 48
abbrev s_rest : Stmt := top 49
abbrev s_error : Stmt := top 50
abbrev s_any : Stmt := top 51
abbrev s_wrong : Stmt := top 52
abbrev s_written : Stmt := top 53
abbrev s_field : Stmt := top 55
abbrev s_caught : Stmt := top 54
abbrev s_isn : Stmt := top 56
abbrev s_shown : Stmt := top 57
abbrev s_made : Stmt := top 58
abbrev s_chd : Stmt := top 59
abbrev s_exdu : Stmt := top 60
abbrev s_thing : Stmt := top 61
abbrev s_turn : Stmt := top 62
abbrev s_whole : Stmt := top 63
abbrev s_right : Stmt := top 64
abbrev s_hand : Stmt := top 65
abbrev s_law : Stmt := top 66
structure XA where
  InvalidCounts : Addr
  NotCounts : Addr
  InvalidTick : Addr
  InvalidNumber : Addr
  InvalidText : Addr
  InvalidStay : Addr
  InvalidHistory : Addr
  InvalidName : Addr
  InvalidLength : Addr
  InvalidDoors : Addr
  InvalidDeed : Addr
  InvalidCommand : Addr
  Impossible : Addr
  NotKnown : Addr
  LimitBroken : Addr
  NothingToUndo : Addr
  TooMany : Addr
  CountError : Addr
  SearchError : Addr
  LimitError : Addr
def sub_InvalidCounts : Str → Option Bool := fun c => List.lookup c ([("InvalidCounts", true), ("InvalidTick", false), ("InvalidNumber", false), ("TooMany", false)] : List (Str × Bool))
def sub_NotCounts : Str → Option Bool := fun c => List.lookup c ([("InvalidCounts", false), ("InvalidTick", false), ("InvalidNumber", false), ("TooMany", false)] : List (Str × Bool))
def sub_InvalidTick : Str → Option Bool := fun c => List.lookup c ([("InvalidCounts", false), ("InvalidTick", true), ("InvalidNumber", false), ("TooMany", false)] : List (Str × Bool))
def sub_InvalidNumber : Str → Option Bool := fun c => List.lookup c ([("InvalidCounts", false), ("InvalidTick", false), ("InvalidNumber", true), ("TooMany", false)] : List (Str × Bool))
def sub_InvalidText : Str → Option Bool := fun c => List.lookup c ([("InvalidCounts", false), ("InvalidTick", false), ("InvalidNumber", false), ("TooMany", false)] : List (Str × Bool))
def sub_InvalidStay : Str → Option Bool := fun c => List.lookup c ([("InvalidCounts", false), ("InvalidTick", false), ("InvalidNumber", false), ("TooMany", false)] : List (Str × Bool))
def sub_InvalidHistory : Str → Option Bool := fun c => List.lookup c ([("InvalidCounts", false), ("InvalidTick", false), ("InvalidNumber", false), ("TooMany", false)] : List (Str × Bool))
def sub_InvalidName : Str → Option Bool := fun c => List.lookup c ([("InvalidCounts", false), ("InvalidTick", false), ("InvalidNumber", false), ("TooMany", false)] : List (Str × Bool))
def sub_InvalidLength : Str → Option Bool := fun c => List.lookup c ([("InvalidCounts", false), ("InvalidTick", false), ("InvalidNumber", false), ("TooMany", false)] : List (Str × Bool))
def sub_InvalidDoors : Str → Option Bool := fun c => List.lookup c ([("InvalidCounts", false), ("InvalidTick", false), ("InvalidNumber", false), ("TooMany", false)] : List (Str × Bool))
def sub_InvalidDeed : Str → Option Bool := fun c => List.lookup c ([("InvalidCounts", false), ("InvalidTick", false), ("InvalidNumber", false), ("TooMany", false)] : List (Str × Bool))
def sub_InvalidCommand : Str → Option Bool := fun c => List.lookup c ([("InvalidCounts", false), ("InvalidTick", false), ("InvalidNumber", false), ("TooMany", false)] : List (Str × Bool))
def sub_Impossible : Str → Option Bool := fun c => List.lookup c ([("InvalidCounts", false), ("InvalidTick", false), ("InvalidNumber", false), ("TooMany", false)] : List (Str × Bool))
def sub_NotKnown : Str → Option Bool := fun c => List.lookup c ([("InvalidCounts", false), ("InvalidTick", false), ("InvalidNumber", false), ("TooMany", false)] : List (Str × Bool))
def sub_LimitBroken : Str → Option Bool := fun c => List.lookup c ([("InvalidCounts", false), ("InvalidTick", false), ("InvalidNumber", false), ("TooMany", false)] : List (Str × Bool))
def sub_NothingToUndo : Str → Option Bool := fun c => List.lookup c ([("InvalidCounts", false), ("InvalidTick", false), ("InvalidNumber", false), ("TooMany", false)] : List (Str × Bool))
def sub_TooMany : Str → Option Bool := fun c => List.lookup c ([("InvalidCounts", false), ("InvalidTick", false), ("InvalidNumber", false), ("TooMany", true)] : List (Str × Bool))
def sub_CountError : Str → Option Bool := fun c => List.lookup c ([("InvalidCounts", true), ("InvalidTick", true), ("InvalidNumber", true), ("TooMany", false)] : List (Str × Bool))
def sub_SearchError : Str → Option Bool := fun c => List.lookup c ([("InvalidCounts", false), ("InvalidTick", false), ("InvalidNumber", false), ("TooMany", false)] : List (Str × Bool))
def sub_LimitError : Str → Option Bool := fun c => List.lookup c ([("InvalidCounts", false), ("InvalidTick", false), ("InvalidNumber", false), ("TooMany", true)] : List (Str × Bool))
def sub_ValueError : Str → Option Bool := fun c => List.lookup c ([("InvalidCounts", true), ("InvalidTick", true), ("InvalidNumber", true), ("TooMany", false)] : List (Str × Bool))
def sub_LookupError : Str → Option Bool := fun c => List.lookup c ([("InvalidCounts", false), ("InvalidTick", false), ("InvalidNumber", false), ("TooMany", false)] : List (Str × Bool))
def sub_ArithmeticError : Str → Option Bool := fun c => List.lookup c ([("InvalidCounts", false), ("InvalidTick", false), ("InvalidNumber", false), ("TooMany", true)] : List (Str × Bool))
def ct_CountError_SearchError_LimitError : Str → Option Bool := fun c => List.lookup c ([("InvalidCounts", true), ("InvalidTick", true), ("InvalidNumber", true), ("TooMany", true)] : List (Str × Bool))
def xc_index : List Str := []
def xc_length : List Str := []
def xc_limit : List Str := ["TooMany"]
def xc_name : List Str := []
def xc_number : List Str := ["InvalidNumber"]
def xc_text : List Str := []
def xc_tick : List Str := ["InvalidCounts", "InvalidTick"]
def xc_value : List Str := []
def xc_word : List Str := []
structure Cal_eIC (K : PySem.W.Frag) (mg : Str → Option Value) (base : Heap) (tb : Tb) (C : Addr) (xa : XA) (fA : Addr) (fd : FuncData) : Prop where
  F : Fun K "__init__" "InvalidCounts.__init__" s_eIC fA fd
  iC : PySem.W.findIn K (.ref xa.InvalidCounts) "__init__" = some (some (.ref fA))
  fn : PySem.W.isFn K (.ref fA) = true
  b : Binds K fd ["self", "tick"] []
structure Cal_eIT (K : PySem.W.Frag) (mg : Str → Option Value) (base : Heap) (tb : Tb) (C : Addr) (xa : XA) (fA : Addr) (fd : FuncData) : Prop where
  F : Fun K "__init__" "InvalidTick.__init__" s_eIT fA fd
  iC : PySem.W.findIn K (.ref xa.InvalidTick) "__init__" = some (some (.ref fA))
  fn : PySem.W.isFn K (.ref fA) = true
  b : Binds K fd ["self", "tick"] []
structure Cal_eIN (K : PySem.W.Frag) (mg : Str → Option Value) (base : Heap) (tb : Tb) (C : Addr) (xa : XA) (fA : Addr) (fd : FuncData) : Prop where
  F : Fun K "__init__" "InvalidNumber.__init__" s_eIN fA fd
  iC : PySem.W.findIn K (.ref xa.InvalidNumber) "__init__" = some (some (.ref fA))
  fn : PySem.W.isFn K (.ref fA) = true
  b : Binds K fd ["self", "number"] []
structure Cal_eTM (K : PySem.W.Frag) (mg : Str → Option Value) (base : Heap) (tb : Tb) (C : Addr) (xa : XA) (fA : Addr) (fd : FuncData) : Prop where
  F : Fun K "__init__" "TooMany.__init__" s_eTM fA fd
  iC : PySem.W.findIn K (.ref xa.TooMany) "__init__" = some (some (.ref fA))
  fn : PySem.W.isFn K (.ref fA) = true
  b : Binds K fd ["self", "limit"] []
structure Cal_ii (K : PySem.W.Frag) (mg : Str → Option Value) (base : Heap) (tb : Tb) (C : Addr) (xa : XA) (fA : Addr) (fd : FuncData) : Prop where
  F : Fun K "is_integer_from" "is_integer_from" s_ii fA fd
  m : mg "is_integer_from" = some (.ref fA)
  k : PySem.W.keepIn K (.ref fA) = true
  b : Binds K fd ["value", "low", "high"] []
structure Cal_ct (K : PySem.W.Frag) (mg : Str → Option Value) (base : Heap) (tb : Tb) (C : Addr) (xa : XA) (fA : Addr) (fd : FuncData) : Prop where
  F : Fun K "check_tick" "check_tick" s_ct fA fd
  m : mg "check_tick" = some (.ref fA)
  k : PySem.W.keepIn K (.ref fA) = true
  b : Binds K fd ["tick", "low", "high"] []
structure Cal_cnu (K : PySem.W.Frag) (mg : Str → Option Value) (base : Heap) (tb : Tb) (C : Addr) (xa : XA) (fA : Addr) (fd : FuncData) : Prop where
  F : Fun K "check_number" "check_number" s_cnu fA fd
  m : mg "check_number" = some (.ref fA)
  k : PySem.W.keepIn K (.ref fA) = true
  b : Binds K fd ["number", "low", "high"] []
structure Cal_pra (K : PySem.W.Frag) (mg : Str → Option Value) (base : Heap) (tb : Tb) (C : Addr) (xa : XA) (fA : Addr) (fd : FuncData) : Prop where
  F : Fun K "present_after" "present_after" s_pra fA fd
  m : mg "present_after" = some (.ref fA)
  k : PySem.W.keepIn K (.ref fA) = true
  b : Binds K fd ["arrivals", "departures"] []
structure Cal_cl (K : PySem.W.Frag) (mg : Str → Option Value) (base : Heap) (tb : Tb) (C : Addr) (xa : XA) (fA : Addr) (fd : FuncData) : Prop where
  F : Fun K "_check_lengths" "_check_lengths" s_cl fA fd
  m : mg "_check_lengths" = some (.ref fA)
  k : PySem.W.keepIn K (.ref fA) = true
  b : Binds K fd ["arrivals", "departures"] []
structure Cal_inu (K : PySem.W.Frag) (mg : Str → Option Value) (base : Heap) (tb : Tb) (C : Addr) (xa : XA) (fA : Addr) (fd : FuncData) : Prop where
  F : Fun K "_is_number" "_is_number" s_inu fA fd
  m : mg "_is_number" = some (.ref fA)
  k : PySem.W.keepIn K (.ref fA) = true
  b : Binds K fd ["value"] []
structure Cal_cn (K : PySem.W.Frag) (mg : Str → Option Value) (base : Heap) (tb : Tb) (C : Addr) (xa : XA) (fA : Addr) (fd : FuncData) : Prop where
  F : Fun K "_check_numbers" "_check_numbers" s_cn fA fd
  m : mg "_check_numbers" = some (.ref fA)
  k : PySem.W.keepIn K (.ref fA) = true
  b : Binds K fd ["arrivals", "departures"] []
structure Cal_rep (K : PySem.W.Frag) (mg : Str → Option Value) (base : Heap) (tb : Tb) (C : Addr) (xa : XA) (fA : Addr) (fd : FuncData) : Prop where
  F : Fun K "_replaced" "_replaced" s_rep fA fd
  m : mg "_replaced" = some (.ref fA)
  k : PySem.W.keepIn K (.ref fA) = true
  b : Binds K fd ["numbers", "tick", "number"] []
structure Cal_ini (K : PySem.W.Frag) (mg : Str → Option Value) (base : Heap) (tb : Tb) (C : Addr) (xa : XA) (fA : Addr) (fd : FuncData) : Prop where
  F : Fun K "__init__" "Counts.__init__" s_ini fA fd
  makes : Mk K C fA
  kb : KBd K fd ["self", "arrivals", "departures"] [] 3 [0, 1, 2]
structure Cal_pre (K : PySem.W.Frag) (mg : Str → Option Value) (base : Heap) (tb : Tb) (C : Addr) (xa : XA) (fA : Addr) (fd : FuncData) : Prop where
  F : Fun K "present" "Counts.present" s_pre fA fd
  p : ∃ pA, PropOf K C "present" pA fA
  b : Binds K fd ["self"] []
structure Cal_peo (K : PySem.W.Frag) (mg : Str → Option Value) (base : Heap) (tb : Tb) (C : Addr) (xa : XA) (fA : Addr) (fd : FuncData) : Prop where
  F : Fun K "people" "Counts.people" s_peo fA fd
  p : ∃ pA, PropOf K C "people" pA fA
  b : Binds K fd ["self"] []
structure Cal_eq (K : PySem.W.Frag) (mg : Str → Option Value) (base : Heap) (tb : Tb) (C : Addr) (xa : XA) (fA : Addr) (fd : FuncData) : Prop where
  F : Fun K "__eq__" "Counts.__eq__" s_eq fA fd
  q : OwnEq K C fA
  b : Binds K fd ["self", "other"] []
structure Cal_str (K : PySem.W.Frag) (mg : Str → Option Value) (base : Heap) (tb : Tb) (C : Addr) (xa : XA) (fA : Addr) (fd : FuncData) : Prop where
  F : Fun K "__str__" "Counts.__str__" s_str fA fd
  at_ : PySem.W.findIn K (.ref C) "__str__" = some (some (.ref fA))
  fn : PySem.W.isFn K (.ref fA) = true
  b : Binds K fd ["self"] []
structure Cal_qui (K : PySem.W.Frag) (mg : Str → Option Value) (base : Heap) (tb : Tb) (C : Addr) (xa : XA) (fA : Addr) (fd : FuncData) : Prop where
  F : Fun K "quiet" "Counts.quiet" s_qui fA fd
  cm : ∃ pA, CMet K C (.type "type") "quiet" pA fA
  b : Binds K fd ["cls", "ticks"] []
structure Cal_cha (K : PySem.W.Frag) (mg : Str → Option Value) (base : Heap) (tb : Tb) (C : Addr) (xa : XA) (fA : Addr) (fd : FuncData) : Prop where
  F : Fun K "changed" "Counts.changed" s_cha fA fd
  meth : Meth K C "changed" fA
  kp_2_departures_arrivals : KBp K fd ["self", "tick", "arrivals", "departures"] ["departures", "arrivals"] 2 [0, 1, 3, 2] []
  kp_1_tick_departures : KBp K fd ["self", "tick", "arrivals", "departures"] ["tick", "departures"] 1 [0, 2, 1, 3] [V.non]
  kp_2_arrivals : KBp K fd ["self", "tick", "arrivals", "departures"] ["arrivals"] 2 [0, 1, 3, 2] [V.non]
  kp_2_arrivals_departures : KBp K fd ["self", "tick", "arrivals", "departures"] ["arrivals", "departures"] 2 [0, 1, 2, 3] []
  kp_2 : KBp K fd ["self", "tick", "arrivals", "departures"] [] 2 [0, 1, 2, 3] [V.non, V.non]
  kp_2_departures : KBp K fd ["self", "tick", "arrivals", "departures"] ["departures"] 2 [0, 1, 2, 3] [V.non]
structure Cal_exd (K : PySem.W.Frag) (mg : Str → Option Value) (base : Heap) (tb : Tb) (C : Addr) (xa : XA) (fA : Addr) (fd : FuncData) : Prop where
  F : Fun K "extended" "Counts.extended" s_exd fA fd
  meth : Meth K C "extended" fA
  kp_3 : KBp K fd ["self", "arrivals", "departures"] [] 3 [0, 1, 2] []
  kp_1_departures_arrivals : KBp K fd ["self", "arrivals", "departures"] ["departures", "arrivals"] 1 [0, 2, 1] []
structure Cal_cell (K : PySem.W.Frag) (mg : Str → Option Value) (base : Heap) (tb : Tb) (C : Addr) (xa : XA) (fA : Addr) (fd : FuncData) : Prop where
  F : Fun K "_law_cell" "_law_cell" s_cell fA fd
  m : mg "_law_cell" = some (.ref fA)
  k : PySem.W.keepIn K (.ref fA) = true
  b : Binds K fd ["_law_cells", "_law_k"] []
structure Cal_pool (K : PySem.W.Frag) (mg : Str → Option Value) (base : Heap) (tb : Tb) (C : Addr) (xa : XA) (fA : Addr) (fd : FuncData) : Prop where
  F : Fun K "_law_pool" "_law_pool" s_pool fA fd
  m : mg "_law_pool" = some (.ref fA)
  k : PySem.W.keepIn K (.ref fA) = true
  b : Binds K fd ["_law_cell_here"] []
structure Cal_draw (K : PySem.W.Frag) (mg : Str → Option Value) (base : Heap) (tb : Tb) (C : Addr) (xa : XA) (fA : Addr) (fd : FuncData) : Prop where
  F : Fun K "_law_draw" "_law_draw" s_draw fA fd
  m : mg "_law_draw" = some (.ref fA)
  k : PySem.W.keepIn K (.ref fA) = true
  b : Binds K fd ["_law_pool_here", "_law_many"] []
structure Cal_flows (K : PySem.W.Frag) (mg : Str → Option Value) (base : Heap) (tb : Tb) (C : Addr) (xa : XA) (fA : Addr) (fd : FuncData) : Prop where
  F : Fun K "_law_flows" "_law_flows" s_flows fA fd
  m : mg "_law_flows" = some (.ref fA)
  k : PySem.W.keepIn K (.ref fA) = true
  b : Binds K fd ["_law_pool_here", "_law_size", "_law_most_in", "_law_people"] []
structure Cal_small (K : PySem.W.Frag) (mg : Str → Option Value) (base : Heap) (tb : Tb) (C : Addr) (xa : XA) (fA : Addr) (fd : FuncData) : Prop where
  F : Fun K "_law_small_flows" "_law_small_flows" s_small fA fd
  m : mg "_law_small_flows" = some (.ref fA)
  k : PySem.W.keepIn K (.ref fA) = true
  b : Binds K fd ["_law_pool_here"] []
structure Cal_great (K : PySem.W.Frag) (mg : Str → Option Value) (base : Heap) (tb : Tb) (C : Addr) (xa : XA) (fA : Addr) (fd : FuncData) : Prop where
  F : Fun K "_law_great_flows" "_law_great_flows" s_great fA fd
  m : mg "_law_great_flows" = some (.ref fA)
  k : PySem.W.keepIn K (.ref fA) = true
  b : Binds K fd ["_law_pool_here"] []
structure Cal_rest (K : PySem.W.Frag) (mg : Str → Option Value) (base : Heap) (tb : Tb) (C : Addr) (xa : XA) (fA : Addr) (fd : FuncData) : Prop where
  F : Fun K "_law_rest" "_law_rest" s_rest fA fd
  m : mg "_law_rest" = some (.ref fA)
  k : PySem.W.keepIn K (.ref fA) = true
  b : Binds K fd ["_law_comes", "_law_goes"] []
structure Cal_error (K : PySem.W.Frag) (mg : Str → Option Value) (base : Heap) (tb : Tb) (C : Addr) (xa : XA) (fA : Addr) (fd : FuncData) : Prop where
  F : Fun K "_law_error" "_law_error" s_error fA fd
  m : mg "_law_error" = some (.ref fA)
  k : PySem.W.keepIn K (.ref fA) = true
  b : Binds K fd ["_law_e"] []
structure Cal_any (K : PySem.W.Frag) (mg : Str → Option Value) (base : Heap) (tb : Tb) (C : Addr) (xa : XA) (fA : Addr) (fd : FuncData) : Prop where
  F : Fun K "_law_any_flows" "_law_any_flows" s_any fA fd
  m : mg "_law_any_flows" = some (.ref fA)
  k : PySem.W.keepIn K (.ref fA) = true
  b : Binds K fd ["_law_pool_here"] []
structure Cal_wrong (K : PySem.W.Frag) (mg : Str → Option Value) (base : Heap) (tb : Tb) (C : Addr) (xa : XA) (fA : Addr) (fd : FuncData) : Prop where
  F : Fun K "_law_wrong" "_law_wrong" s_wrong fA fd
  m : mg "_law_wrong" = some (.ref fA)
  k : PySem.W.keepIn K (.ref fA) = true
  b : Binds K fd ["_law_comes", "_law_goes"] []
structure Cal_written (K : PySem.W.Frag) (mg : Str → Option Value) (base : Heap) (tb : Tb) (C : Addr) (xa : XA) (fA : Addr) (fd : FuncData) : Prop where
  F : Fun K "_law_written" "_law_written" s_written fA fd
  m : mg "_law_written" = some (.ref fA)
  k : PySem.W.keepIn K (.ref fA) = true
  b : Binds K fd ["_law_comes", "_law_goes"] []
structure Cal_field (K : PySem.W.Frag) (mg : Str → Option Value) (base : Heap) (tb : Tb) (C : Addr) (xa : XA) (fA : Addr) (fd : FuncData) : Prop where
  F : Fun K "_law_field" "_law_field" s_field fA fd
  m : mg "_law_field" = some (.ref fA)
  k : PySem.W.keepIn K (.ref fA) = true
  b : Binds K fd ["_law_e", "_law_at"] []
structure Cal_caught (K : PySem.W.Frag) (mg : Str → Option Value) (base : Heap) (tb : Tb) (C : Addr) (xa : XA) (fA : Addr) (fd : FuncData) : Prop where
  F : Fun K "_law_caught" "_law_caught" s_caught fA fd
  m : mg "_law_caught" = some (.ref fA)
  k : PySem.W.keepIn K (.ref fA) = true
  b : Binds K fd ["_law_act"] []
structure Cal_isn (K : PySem.W.Frag) (mg : Str → Option Value) (base : Heap) (tb : Tb) (C : Addr) (xa : XA) (fA : Addr) (fd : FuncData) : Prop where
  F : Fun K "_law_is_number" "_law_is_number" s_isn fA fd
  m : mg "_law_is_number" = some (.ref fA)
  k : PySem.W.keepIn K (.ref fA) = true
  b : Binds K fd ["_law_thing_here"] []
structure Cal_shown (K : PySem.W.Frag) (mg : Str → Option Value) (base : Heap) (tb : Tb) (C : Addr) (xa : XA) (fA : Addr) (fd : FuncData) : Prop where
  F : Fun K "_law_shown" "_law_shown" s_shown fA fd
  m : mg "_law_shown" = some (.ref fA)
  k : PySem.W.keepIn K (.ref fA) = true
  b : Binds K fd ["_law_comes", "_law_goes"] []
structure Cal_made (K : PySem.W.Frag) (mg : Str → Option Value) (base : Heap) (tb : Tb) (C : Addr) (xa : XA) (fA : Addr) (fd : FuncData) : Prop where
  F : Fun K "_law_made" "_law_made" s_made fA fd
  m : mg "_law_made" = some (.ref fA)
  k : PySem.W.keepIn K (.ref fA) = true
  b : Binds K fd ["_law_comes", "_law_goes"] []
structure Cal_chd (K : PySem.W.Frag) (mg : Str → Option Value) (base : Heap) (tb : Tb) (C : Addr) (xa : XA) (fA : Addr) (fd : FuncData) : Prop where
  F : Fun K "_law_changed_due" "_law_changed_due" s_chd fA fd
  m : mg "_law_changed_due" = some (.ref fA)
  k : PySem.W.keepIn K (.ref fA) = true
  b : Binds K fd ["_law_comes", "_law_goes", "_law_at", "_law_new", "_law_gone"] []
structure Cal_exdu (K : PySem.W.Frag) (mg : Str → Option Value) (base : Heap) (tb : Tb) (C : Addr) (xa : XA) (fA : Addr) (fd : FuncData) : Prop where
  F : Fun K "_law_extended_due" "_law_extended_due" s_exdu fA fd
  m : mg "_law_extended_due" = some (.ref fA)
  k : PySem.W.keepIn K (.ref fA) = true
  b : Binds K fd ["_law_comes", "_law_goes", "_law_new", "_law_gone"] []
structure Cal_thing (K : PySem.W.Frag) (mg : Str → Option Value) (base : Heap) (tb : Tb) (C : Addr) (xa : XA) (fA : Addr) (fd : FuncData) : Prop where
  F : Fun K "_law_thing" "_law_thing" s_thing fA fd
  m : mg "_law_thing" = some (.ref fA)
  k : PySem.W.keepIn K (.ref fA) = true
  b : Binds K fd ["_law_pool_here", "_law_here"] []
structure Cal_turn (K : PySem.W.Frag) (mg : Str → Option Value) (base : Heap) (tb : Tb) (C : Addr) (xa : XA) (fA : Addr) (fd : FuncData) : Prop where
  F : Fun K "_law_turn_right" "_law_turn_right" s_turn fA fd
  m : mg "_law_turn_right" = some (.ref fA)
  k : PySem.W.keepIn K (.ref fA) = true
  b : Binds K fd ["_law_pool_here", "_law_log"] []
  M : MkAt base mg tb fd (("_law_turn_right" : Str) ++ ".<locals>." ++ "<lambda>")
structure Cal_whole (K : PySem.W.Frag) (mg : Str → Option Value) (base : Heap) (tb : Tb) (C : Addr) (xa : XA) (fA : Addr) (fd : FuncData) : Prop where
  F : Fun K "_law_whole" "_law_whole" s_whole fA fd
  m : mg "_law_whole" = some (.ref fA)
  k : PySem.W.keepIn K (.ref fA) = true
  b : Binds K fd ["_law_log", "_law_comes", "_law_goes"] []
structure Cal_right (K : PySem.W.Frag) (mg : Str → Option Value) (base : Heap) (tb : Tb) (C : Addr) (xa : XA) (fA : Addr) (fd : FuncData) : Prop where
  F : Fun K "_law_right" "_law_right" s_right fA fd
  m : mg "_law_right" = some (.ref fA)
  k : PySem.W.keepIn K (.ref fA) = true
  b : Binds K fd ["_law_pool_here"] []
structure Cal_hand (K : PySem.W.Frag) (mg : Str → Option Value) (base : Heap) (tb : Tb) (C : Addr) (xa : XA) (fA : Addr) (fd : FuncData) : Prop where
  F : Fun K "_law_by_hand" "_law_by_hand" s_hand fA fd
  m : mg "_law_by_hand" = some (.ref fA)
  k : PySem.W.keepIn K (.ref fA) = true
  b : Binds K fd [] []
  M : MkAt base mg tb fd (("_law_by_hand" : Str) ++ ".<locals>." ++ "<lambda>")
structure Cal_law (K : PySem.W.Frag) (mg : Str → Option Value) (base : Heap) (tb : Tb) (C : Addr) (xa : XA) (fA : Addr) (fd : FuncData) : Prop where
  F : Fun K "law" "law" s_law fA fd
  m : mg "law" = some (.ref fA)
  k : PySem.W.keepIn K (.ref fA) = true
  b : Binds K fd ["_law_cells"] []
structure Txt (K : PySem.W.Frag) (mg : Str → Option Value) (base : Heap) (tb : Tb) (ca : Str → Option Addr) (C : Addr) (xa : XA) : Prop where
  free : ∀ x ∈ (["isinstance", "len", "int", "bool", "tuple", "list", "str", "enumerate", "zip", "range", "min", "max", "repr", "all", "divmod", "abs", "sum", "ValueError", "LookupError", "ArithmeticError"] : List Str), mg x = none
  caC : ca "Counts" = some C
  mgC : mg "Counts" = some (.ref C)
  oCC : OwnC K C
  clC : Cls K C
  rdC : CRead K C (.type "type")
  na_arrivals : NoAttr K C "arrivals"
  na_departures : NoAttr K C "departures"
  cv_MAX_TICKS : ∃ u, CVal K C (.type "type") "MAX_TICKS" (.int 60) u
  cv_MAX_PEOPLE : ∃ u, CVal K C (.type "type") "MAX_PEOPLE" (.int 999) u
  mx_InvalidCounts : mg "InvalidCounts" = some (.ref xa.InvalidCounts)
  is_InvalidCounts : ∀ c k, sub_InvalidCounts c = some k → ∃ D, ca c = some D ∧ ExnC K D ∧ PySem.W.kitOne K (.ref D) (.ref xa.InvalidCounts) = some k
  mx_NotCounts : mg "NotCounts" = some (.ref xa.NotCounts)
  is_NotCounts : ∀ c k, sub_NotCounts c = some k → ∃ D, ca c = some D ∧ ExnC K D ∧ PySem.W.kitOne K (.ref D) (.ref xa.NotCounts) = some k
  mx_InvalidTick : mg "InvalidTick" = some (.ref xa.InvalidTick)
  is_InvalidTick : ∀ c k, sub_InvalidTick c = some k → ∃ D, ca c = some D ∧ ExnC K D ∧ PySem.W.kitOne K (.ref D) (.ref xa.InvalidTick) = some k
  mx_InvalidNumber : mg "InvalidNumber" = some (.ref xa.InvalidNumber)
  is_InvalidNumber : ∀ c k, sub_InvalidNumber c = some k → ∃ D, ca c = some D ∧ ExnC K D ∧ PySem.W.kitOne K (.ref D) (.ref xa.InvalidNumber) = some k
  mx_InvalidText : mg "InvalidText" = some (.ref xa.InvalidText)
  is_InvalidText : ∀ c k, sub_InvalidText c = some k → ∃ D, ca c = some D ∧ ExnC K D ∧ PySem.W.kitOne K (.ref D) (.ref xa.InvalidText) = some k
  mx_InvalidStay : mg "InvalidStay" = some (.ref xa.InvalidStay)
  is_InvalidStay : ∀ c k, sub_InvalidStay c = some k → ∃ D, ca c = some D ∧ ExnC K D ∧ PySem.W.kitOne K (.ref D) (.ref xa.InvalidStay) = some k
  mx_InvalidHistory : mg "InvalidHistory" = some (.ref xa.InvalidHistory)
  is_InvalidHistory : ∀ c k, sub_InvalidHistory c = some k → ∃ D, ca c = some D ∧ ExnC K D ∧ PySem.W.kitOne K (.ref D) (.ref xa.InvalidHistory) = some k
  mx_InvalidName : mg "InvalidName" = some (.ref xa.InvalidName)
  is_InvalidName : ∀ c k, sub_InvalidName c = some k → ∃ D, ca c = some D ∧ ExnC K D ∧ PySem.W.kitOne K (.ref D) (.ref xa.InvalidName) = some k
  mx_InvalidLength : mg "InvalidLength" = some (.ref xa.InvalidLength)
  is_InvalidLength : ∀ c k, sub_InvalidLength c = some k → ∃ D, ca c = some D ∧ ExnC K D ∧ PySem.W.kitOne K (.ref D) (.ref xa.InvalidLength) = some k
  mx_InvalidDoors : mg "InvalidDoors" = some (.ref xa.InvalidDoors)
  is_InvalidDoors : ∀ c k, sub_InvalidDoors c = some k → ∃ D, ca c = some D ∧ ExnC K D ∧ PySem.W.kitOne K (.ref D) (.ref xa.InvalidDoors) = some k
  mx_InvalidDeed : mg "InvalidDeed" = some (.ref xa.InvalidDeed)
  is_InvalidDeed : ∀ c k, sub_InvalidDeed c = some k → ∃ D, ca c = some D ∧ ExnC K D ∧ PySem.W.kitOne K (.ref D) (.ref xa.InvalidDeed) = some k
  mx_InvalidCommand : mg "InvalidCommand" = some (.ref xa.InvalidCommand)
  is_InvalidCommand : ∀ c k, sub_InvalidCommand c = some k → ∃ D, ca c = some D ∧ ExnC K D ∧ PySem.W.kitOne K (.ref D) (.ref xa.InvalidCommand) = some k
  mx_Impossible : mg "Impossible" = some (.ref xa.Impossible)
  is_Impossible : ∀ c k, sub_Impossible c = some k → ∃ D, ca c = some D ∧ ExnC K D ∧ PySem.W.kitOne K (.ref D) (.ref xa.Impossible) = some k
  mx_NotKnown : mg "NotKnown" = some (.ref xa.NotKnown)
  is_NotKnown : ∀ c k, sub_NotKnown c = some k → ∃ D, ca c = some D ∧ ExnC K D ∧ PySem.W.kitOne K (.ref D) (.ref xa.NotKnown) = some k
  mx_LimitBroken : mg "LimitBroken" = some (.ref xa.LimitBroken)
  is_LimitBroken : ∀ c k, sub_LimitBroken c = some k → ∃ D, ca c = some D ∧ ExnC K D ∧ PySem.W.kitOne K (.ref D) (.ref xa.LimitBroken) = some k
  mx_NothingToUndo : mg "NothingToUndo" = some (.ref xa.NothingToUndo)
  is_NothingToUndo : ∀ c k, sub_NothingToUndo c = some k → ∃ D, ca c = some D ∧ ExnC K D ∧ PySem.W.kitOne K (.ref D) (.ref xa.NothingToUndo) = some k
  mx_TooMany : mg "TooMany" = some (.ref xa.TooMany)
  is_TooMany : ∀ c k, sub_TooMany c = some k → ∃ D, ca c = some D ∧ ExnC K D ∧ PySem.W.kitOne K (.ref D) (.ref xa.TooMany) = some k
  mx_CountError : mg "CountError" = some (.ref xa.CountError)
  is_CountError : ∀ c k, sub_CountError c = some k → ∃ D, ca c = some D ∧ ExnC K D ∧ PySem.W.kitOne K (.ref D) (.ref xa.CountError) = some k
  mx_SearchError : mg "SearchError" = some (.ref xa.SearchError)
  is_SearchError : ∀ c k, sub_SearchError c = some k → ∃ D, ca c = some D ∧ ExnC K D ∧ PySem.W.kitOne K (.ref D) (.ref xa.SearchError) = some k
  mx_LimitError : mg "LimitError" = some (.ref xa.LimitError)
  is_LimitError : ∀ c k, sub_LimitError c = some k → ∃ D, ca c = some D ∧ ExnC K D ∧ PySem.W.kitOne K (.ref D) (.ref xa.LimitError) = some k
  is_ValueError : ∀ c k, sub_ValueError c = some k → ∃ D, ca c = some D ∧ ExnC K D ∧ PySem.W.kitOne K (.ref D) (.type "ValueError") = some k
  is_LookupError : ∀ c k, sub_LookupError c = some k → ∃ D, ca c = some D ∧ ExnC K D ∧ PySem.W.kitOne K (.ref D) (.type "LookupError") = some k
  is_ArithmeticError : ∀ c k, sub_ArithmeticError c = some k → ∃ D, ca c = some D ∧ ExnC K D ∧ PySem.W.kitOne K (.ref D) (.type "ArithmeticError") = some k
  cx_InvalidCounts : ca "InvalidCounts" = some xa.InvalidCounts
  xb_InvalidCounts : OxB K xa.InvalidCounts
  xn_InvalidCounts_tick : PySem.W.findIn K (.ref xa.InvalidCounts) "tick" = some none
  cx_InvalidTick : ca "InvalidTick" = some xa.InvalidTick
  xb_InvalidTick : OxB K xa.InvalidTick
  xn_InvalidTick_tick : PySem.W.findIn K (.ref xa.InvalidTick) "tick" = some none
  cx_InvalidNumber : ca "InvalidNumber" = some xa.InvalidNumber
  xb_InvalidNumber : OxB K xa.InvalidNumber
  xn_InvalidNumber_number : PySem.W.findIn K (.ref xa.InvalidNumber) "number" = some none
  cx_TooMany : ca "TooMany" = some xa.TooMany
  xb_TooMany : OxB K xa.TooMany
  xn_TooMany_limit : PySem.W.findIn K (.ref xa.TooMany) "limit" = some none
  ct_CountError_SearchError_LimitError : ∀ c D, ca c = some D → ct_CountError_SearchError_LimitError c = some true → PySem.W.exmAny K (.ref D) [.ref xa.CountError, .ref xa.SearchError, .ref xa.LimitError] = some true
  xf_index : ∀ c ∈ xc_index, ∃ D, ca c = some D ∧ ExnC K D ∧ PySem.W.findIn K (.ref D) "index" = some none
  xf_length : ∀ c ∈ xc_length, ∃ D, ca c = some D ∧ ExnC K D ∧ PySem.W.findIn K (.ref D) "length" = some none
  xf_limit : ∀ c ∈ xc_limit, ∃ D, ca c = some D ∧ ExnC K D ∧ PySem.W.findIn K (.ref D) "limit" = some none
  xf_name : ∀ c ∈ xc_name, ∃ D, ca c = some D ∧ ExnC K D ∧ PySem.W.findIn K (.ref D) "name" = some none
  xf_number : ∀ c ∈ xc_number, ∃ D, ca c = some D ∧ ExnC K D ∧ PySem.W.findIn K (.ref D) "number" = some none
  xf_text : ∀ c ∈ xc_text, ∃ D, ca c = some D ∧ ExnC K D ∧ PySem.W.findIn K (.ref D) "text" = some none
  xf_tick : ∀ c ∈ xc_tick, ∃ D, ca c = some D ∧ ExnC K D ∧ PySem.W.findIn K (.ref D) "tick" = some none
  xf_value : ∀ c ∈ xc_value, ∃ D, ca c = some D ∧ ExnC K D ∧ PySem.W.findIn K (.ref D) "value" = some none
  xf_word : ∀ c ∈ xc_word, ∃ D, ca c = some D ∧ ExnC K D ∧ PySem.W.findIn K (.ref D) "word" = some none
  c_eIC : ∃ fA fd, Cal_eIC K mg base tb C xa fA fd
  c_eIT : ∃ fA fd, Cal_eIT K mg base tb C xa fA fd
  c_eIN : ∃ fA fd, Cal_eIN K mg base tb C xa fA fd
  c_eTM : ∃ fA fd, Cal_eTM K mg base tb C xa fA fd
  c_ii : ∃ fA fd, Cal_ii K mg base tb C xa fA fd
  c_ct : ∃ fA fd, Cal_ct K mg base tb C xa fA fd
  c_cnu : ∃ fA fd, Cal_cnu K mg base tb C xa fA fd
  c_pra : ∃ fA fd, Cal_pra K mg base tb C xa fA fd
  c_cl : ∃ fA fd, Cal_cl K mg base tb C xa fA fd
  c_inu : ∃ fA fd, Cal_inu K mg base tb C xa fA fd
  c_cn : ∃ fA fd, Cal_cn K mg base tb C xa fA fd
  c_rep : ∃ fA fd, Cal_rep K mg base tb C xa fA fd
  c_ini : ∃ fA fd, Cal_ini K mg base tb C xa fA fd
  c_pre : ∃ fA fd, Cal_pre K mg base tb C xa fA fd
  c_peo : ∃ fA fd, Cal_peo K mg base tb C xa fA fd
  c_eq : ∃ fA fd, Cal_eq K mg base tb C xa fA fd
  c_str : ∃ fA fd, Cal_str K mg base tb C xa fA fd
  c_qui : ∃ fA fd, Cal_qui K mg base tb C xa fA fd
  c_cha : ∃ fA fd, Cal_cha K mg base tb C xa fA fd
  c_exd : ∃ fA fd, Cal_exd K mg base tb C xa fA fd
  c_cell : ∃ fA fd, Cal_cell K mg base tb C xa fA fd
  c_pool : ∃ fA fd, Cal_pool K mg base tb C xa fA fd
  c_draw : ∃ fA fd, Cal_draw K mg base tb C xa fA fd
  c_flows : ∃ fA fd, Cal_flows K mg base tb C xa fA fd
  c_small : ∃ fA fd, Cal_small K mg base tb C xa fA fd
  c_great : ∃ fA fd, Cal_great K mg base tb C xa fA fd
  c_rest : ∃ fA fd, Cal_rest K mg base tb C xa fA fd
  c_error : ∃ fA fd, Cal_error K mg base tb C xa fA fd
  c_any : ∃ fA fd, Cal_any K mg base tb C xa fA fd
  c_wrong : ∃ fA fd, Cal_wrong K mg base tb C xa fA fd
  c_written : ∃ fA fd, Cal_written K mg base tb C xa fA fd
  c_field : ∃ fA fd, Cal_field K mg base tb C xa fA fd
  c_caught : ∃ fA fd, Cal_caught K mg base tb C xa fA fd
  c_isn : ∃ fA fd, Cal_isn K mg base tb C xa fA fd
  c_shown : ∃ fA fd, Cal_shown K mg base tb C xa fA fd
  c_made : ∃ fA fd, Cal_made K mg base tb C xa fA fd
  c_chd : ∃ fA fd, Cal_chd K mg base tb C xa fA fd
  c_exdu : ∃ fA fd, Cal_exdu K mg base tb C xa fA fd
  c_thing : ∃ fA fd, Cal_thing K mg base tb C xa fA fd
  c_turn : ∃ fA fd, Cal_turn K mg base tb C xa fA fd
  c_whole : ∃ fA fd, Cal_whole K mg base tb C xa fA fd
  c_right : ∃ fA fd, Cal_right K mg base tb C xa fA fd
  c_hand : ∃ fA fd, Cal_hand K mg base tb C xa fA fd
  c_law : ∃ fA fd, Cal_law K mg base tb C xa fA fd
section
variable {Pg : Program} {w : World} {K : PySem.W.Frag} {mg : Str → Option Value} {base : Heap} {tb : Tb} {ca : Str → Option Addr} {C : Addr} {xa : XA}
theorem Txt.cs (T : Txt K mg base tb ca C xa) : ∀ c ∈ cs, ∃ C, ca c = some C ∧ OwnC K C := fun c hc => by
  rw [List.mem_singleton.mp hc]
  exact ⟨C, T.caC, T.oCC⟩
/-! InvalidCounts.__init__ -/
theorem sc_eIC : FnScope ["self", "tick"] ["self", "tick"] (defScope s_eIC) := ⟨rfl, rfl, rfl, by decide +kernel, rfl, by decide +kernel, by decide +kernel⟩
theorem ok_eIC {fA : Addr} {fd : FuncData} (T : Txt K mg base tb ca C xa) (F : Fun K "__init__" "InvalidCounts.__init__" s_eIC fA fd) : FnG Pg w K mg base 1 fA fd ["self", "tick"] (spXI xa.InvalidCounts ["tick"]) := fn_x1 T.xb_InvalidCounts F sc_eIC rfl T.xn_InvalidCounts_tick (Or.inl rfl) (Or.inl rfl) (by decide) (by decide) (by decide) (by decide)
/-! InvalidTick.__init__ -/
theorem sc_eIT : FnScope ["self", "tick"] ["self", "tick"] (defScope s_eIT) := ⟨rfl, rfl, rfl, by decide +kernel, rfl, by decide +kernel, by decide +kernel⟩
theorem ok_eIT {fA : Addr} {fd : FuncData} (T : Txt K mg base tb ca C xa) (F : Fun K "__init__" "InvalidTick.__init__" s_eIT fA fd) : FnG Pg w K mg base 1 fA fd ["self", "tick"] (spXI xa.InvalidTick ["tick"]) := fn_x1 T.xb_InvalidTick F sc_eIT rfl T.xn_InvalidTick_tick (Or.inl rfl) (Or.inl rfl) (by decide) (by decide) (by decide) (by decide)
/-! InvalidNumber.__init__ -/
theorem sc_eIN : FnScope ["self", "number"] ["self", "number"] (defScope s_eIN) := ⟨rfl, rfl, rfl, by decide +kernel, rfl, by decide +kernel, by decide +kernel⟩
theorem ok_eIN {fA : Addr} {fd : FuncData} (T : Txt K mg base tb ca C xa) (F : Fun K "__init__" "InvalidNumber.__init__" s_eIN fA fd) : FnG Pg w K mg base 1 fA fd ["self", "number"] (spXI xa.InvalidNumber ["number"]) := fn_x1 T.xb_InvalidNumber F sc_eIN rfl T.xn_InvalidNumber_number (Or.inl rfl) (Or.inl rfl) (by decide) (by decide) (by decide) (by decide)
/-! TooMany.__init__ -/
theorem sc_eTM : FnScope ["self", "limit"] ["self", "limit"] (defScope s_eTM) := ⟨rfl, rfl, rfl, by decide +kernel, rfl, by decide +kernel, by decide +kernel⟩
theorem ok_eTM {fA : Addr} {fd : FuncData} (T : Txt K mg base tb ca C xa) (F : Fun K "__init__" "TooMany.__init__" s_eTM fA fd) : FnG Pg w K mg base 1 fA fd ["self", "limit"] (spXI xa.TooMany ["limit"]) := fn_x1 T.xb_TooMany F sc_eTM rfl T.xn_TooMany_limit (Or.inl rfl) (Or.inl rfl) (by decide) (by decide) (by decide) (by decide)
/-! is_integer_from -/
theorem sc_ii : FnScope ["value", "low", "high"] ["value", "low", "high"] (defScope s_ii) := ⟨rfl, rfl, rfl, by decide +kernel, rfl, by decide +kernel, by decide +kernel⟩
def f_ii : FS := (retS (andV (un1 (isiD (tyK "int") (inst0 cs)) (nm 0)) (andV (notV (un1 (isiD (tyK "bool") (inst0 cs)) (nm 0))) (chn leD leD (nm 1) (nm 0) (nm 2)))))
abbrev F_ii := runF 3 3 f_ii
theorem ok_ii {fA : Addr} {fd : FuncData} (T : Txt K mg base tb ca C xa) (F : Fun K "is_integer_from" "is_integer_from" s_ii fA fd) : FnG Pg w K mg base 1 fA fd ["value", "low", "high"] (spF K ca tb F_ii) := by
  refine fn_d (N := ["value", "low", "high"]) (OO := []) F sc_ii fun cdv A outer s H E hr => ?_
  have hu := hr.r.units
  have hgu := hr.g
  exact (pss_oneD (psd_ret ((pd_and rfl (pd_isB "int" (by decide) cs T.cs rfl (T.free _ (by decide +kernel)) (T.free _ (by decide +kernel)) boot_int (pd_name 0).pb) (pd_and rfl (pd_not rfl (pd_isB "bool" (by decide) cs T.cs rfl (T.free _ (by decide +kernel)) (T.free _ (by decide +kernel)) boot_bool (pd_name 0).pb).pb) (pd_one (pd_chain op_le op_le op2_le op2_le (pd_name 1).pb (pd_name 0).pb (pd_name 2).pb)))))))
/-! check_tick -/
theorem sc_ct : FnScope ["tick", "low", "high"] ["tick", "low", "high"] (defScope s_ct) := ⟨rfl, rfl, rfl, by decide +kernel, rfl, by decide +kernel, by decide +kernel⟩
def f_ct : FS := (ifS (notT (tst (callD F_ii [] (consA (nm 0) (consA (nm 1) (consA (nm 2) nilA)))))) (raiseS "InvalidTick" ["tick"] (consA (nm 0) nilA)) nxS)
abbrev F_ct := runF 3 3 f_ct
theorem ok_ct {fA : Addr} {fd : FuncData} (T : Txt K mg base tb ca C xa) (F : Fun K "check_tick" "check_tick" s_ct fA fd) : FnX Pg w K mg base 3 fA fd ["tick", "low", "high"] (spX K ca tb F_ct) := by
  obtain ⟨_, _, c_ii⟩ := T.c_ii
  obtain ⟨_, _, c_eIT⟩ := T.c_eIT
  refine fn_x (N := ["tick", "low", "high"]) (OO := []) F sc_ct fun cdv A outer s H E bs EX hr tk => ?_
  have hu := hr.r.units
  have hgu := hr.g
  exact (pss_oneD (psd_if (ptd_not (pt_tru rfl (pd_call (ok_ii T c_ii.F) (hr.mono (by decide)) c_ii.m c_ii.k c_ii.b .nil (fun _ => .nil) (pad_cons (pd_name 0) (pad_cons (pd_name 1) (pad_cons (pd_name 2) pad_nil)))).pb)) (pss_oneD (psd_raise rfl tk T.cx_InvalidTick T.xb_InvalidTick c_eIT.iC c_eIT.fn (ok_eIT T c_eIT.F) (hr.mono (by decide)) c_eIT.b T.mx_InvalidTick (pad_cons (pd_name 0) pad_nil))) pss_nilD))
/-! check_number -/
theorem sc_cnu : FnScope ["number", "low", "high"] ["number", "low", "high"] (defScope s_cnu) := ⟨rfl, rfl, rfl, by decide +kernel, rfl, by decide +kernel, by decide +kernel⟩
def f_cnu : FS := (ifS (notT (tst (callD F_ii [] (consA (nm 0) (consA (nm 1) (consA (nm 2) nilA)))))) (raiseS "InvalidNumber" ["number"] (consA (nm 0) nilA)) nxS)
abbrev F_cnu := runF 3 3 f_cnu
theorem ok_cnu {fA : Addr} {fd : FuncData} (T : Txt K mg base tb ca C xa) (F : Fun K "check_number" "check_number" s_cnu fA fd) : FnX Pg w K mg base 3 fA fd ["number", "low", "high"] (spX K ca tb F_cnu) := by
  obtain ⟨_, _, c_ii⟩ := T.c_ii
  obtain ⟨_, _, c_eIN⟩ := T.c_eIN
  refine fn_x (N := ["number", "low", "high"]) (OO := []) F sc_cnu fun cdv A outer s H E bs EX hr tk => ?_
  have hu := hr.r.units
  have hgu := hr.g
  exact (pss_oneD (psd_if (ptd_not (pt_tru rfl (pd_call (ok_ii T c_ii.F) (hr.mono (by decide)) c_ii.m c_ii.k c_ii.b .nil (fun _ => .nil) (pad_cons (pd_name 0) (pad_cons (pd_name 1) (pad_cons (pd_name 2) pad_nil)))).pb)) (pss_oneD (psd_raise rfl tk T.cx_InvalidNumber T.xb_InvalidNumber c_eIN.iC c_eIN.fn (ok_eIN T c_eIN.F) (hr.mono (by decide)) c_eIN.b T.mx_InvalidNumber (pad_cons (pd_name 0) pad_nil))) pss_nilD))
/-! present_after -/
theorem sc_pra : FnScope ["arrivals", "departures", "present", "numbers", "arriving", "leaving"] ["arrivals", "departures"] (defScope s_pra) := ⟨rfl, rfl, rfl, by decide +kernel, rfl, by decide +kernel, by decide +kernel⟩
def f_pra : FS := (seqS (asgS (fun _ S => R.ok (.int 0, S)) (nmG 2))
  (seqS (ownS 3 (lstF nilA))
  (seqS (forS (rngI zip2D (consA (nm 0) (consA (nm 1) nilA))) (tupG 2 (consG (nmG 4) (consG (nmG 5) nilG))) (seqS (asgS (bin2 subD (bin2 addD (nm 2) (nm 4)) (nm 5)) (nmG 2))
  (appS 3 (nm 2))))
  (retS (callE tupD (consA (nm 3) nilA))))))
abbrev F_pra := runF 6 2 f_pra
theorem ok_pra {fA : Addr} {fd : FuncData} (T : Txt K mg base tb ca C xa) (F : Fun K "present_after" "present_after" s_pra fA fd) : FnG Pg w K mg base 1 fA fd ["arrivals", "departures"] (spF K ca tb F_pra) := by
  refine fn_d (N := ["arrivals", "departures", "present", "numbers", "arriving", "leaving"]) (OO := []) F sc_pra fun cdv A outer s H E hr => ?_
  have hu := hr.r.units
  have hgu := hr.g
  exact (pss_consD (psd_set 2 sc_pra.nd notplN (pd_int))
    (pss_consD (psd_own 3 sc_pra.nd notplN (pf_lst pad_nil))
    (pss_consD (psd_for PassesOwn.never rfl (pid_zip rfl (pzd_zip2 rfl (T.free _ (by decide +kernel)) (pad_cons (pd_name 0) (pad_cons (pd_name 1) pad_nil)))) (pgd_tup rfl rfl (pgsd_cons (pgd_name 4 sc_pra.nd notplN) (pgsd_cons (pgd_name 5 sc_pra.nd notplN) pgsd_nil))) (pss_consD (psd_set 2 sc_pra.nd notplN (pd_sub (pd_add rfl (pd_name 2).pb (pd_name 4).pb).pb (pd_name 5).pb))
    (pss_oneD (psd_append 3 rfl (pd_name 2)))))
    (pss_oneD (psd_ret (pd_tuple rfl (T.free _ (by decide +kernel)) (pba_cons (pb_own 3) pba_nil)))))))
/-! _check_lengths -/
theorem sc_cl : FnScope ["arrivals", "departures"] ["arrivals", "departures"] (defScope s_cl) := ⟨rfl, rfl, rfl, by decide +kernel, rfl, by decide +kernel, by decide +kernel⟩
def f_cl : FS := (seqS (ifS (orT (notT (tst (un1 (isiD (tyK "tuple") (inst0 cs)) (nm 0)))) (notT (tst (un1 (isiD (tyK "tuple") (inst0 cs)) (nm 1))))) (raiseS "InvalidCounts" ["tick"] (consA (fun _ S => R.ok (.non, S)) nilA)) nxS)
  (ifS (orT (tstB (bin2 neD (callE lenD (consA (nm 0) nilA)) (callE lenD (consA (nm 1) nilA)))) (notT (tstB (chn leD leD (fun _ S => R.ok (.int 1, S)) (callE lenD (consA (nm 0) nilA)) (fun _ S => R.ok (.int 60, S)))))) (raiseS "InvalidCounts" ["tick"] (consA (fun _ S => R.ok (.non, S)) nilA)) nxS))
abbrev F_cl := runF 2 2 f_cl
theorem ok_cl {fA : Addr} {fd : FuncData} (T : Txt K mg base tb ca C xa) (F : Fun K "_check_lengths" "_check_lengths" s_cl fA fd) : FnX Pg w K mg base 3 fA fd ["arrivals", "departures"] (spX K ca tb F_cl) := by
  obtain ⟨_, _, c_eIC⟩ := T.c_eIC
  refine fn_x (N := ["arrivals", "departures"]) (OO := []) F sc_cl fun cdv A outer s H E bs EX hr tk => ?_
  have hu := hr.r.units
  have hgu := hr.g
  exact (pss_consD (psd_if (PWd.pt (ptw_or (ptd_not (pt_tru rfl (pd_isB "tuple" (by decide) cs T.cs rfl (T.free _ (by decide +kernel)) (T.free _ (by decide +kernel)) (by decide +kernel) (pd_name 0).pb).pb)) (ptw_or1 (ptd_not (pt_tru rfl (pd_isB "tuple" (by decide) cs T.cs rfl (T.free _ (by decide +kernel)) (T.free _ (by decide +kernel)) (by decide +kernel) (pd_name 1).pb).pb))))) (pss_oneD (psd_raise rfl tk T.cx_InvalidCounts T.xb_InvalidCounts c_eIC.iC c_eIC.fn (ok_eIC T c_eIC.F) (hr.mono (by decide)) c_eIC.b T.mx_InvalidCounts (pad_cons (pd_non) pad_nil))) pss_nilD)
    (pss_oneD (psd_if (PWd.pt (ptw_or (pt_ne rfl hu (pd_len rfl (T.free _ (by decide +kernel)) (pba_cons (pd_name 0).pb pba_nil)).pb (pd_len rfl (T.free _ (by decide +kernel)) (pba_cons (pd_name 1).pb pba_nil)).pb) (ptw_or1 (ptd_not (pt_chain1 op_le op_le op2_le op2_le (pd_int).pb (pd_len rfl (T.free _ (by decide +kernel)) (pba_cons (pd_name 0).pb pba_nil)).pb (pd_cval T.mgC T.rdC T.cv_MAX_TICKS.choose_spec (fun _ => .int _)).pb))))) (pss_oneD (psd_raise rfl tk T.cx_InvalidCounts T.xb_InvalidCounts c_eIC.iC c_eIC.fn (ok_eIC T c_eIC.F) (hr.mono (by decide)) c_eIC.b T.mx_InvalidCounts (pad_cons (pd_non) pad_nil))) pss_nilD)))
/-! _is_number -/
theorem sc_inu : FnScope ["value"] ["value"] (defScope s_inu) := ⟨rfl, rfl, rfl, by decide +kernel, rfl, by decide +kernel, by decide +kernel⟩
def f_inu : FS := (retS (callD F_ii [] (consA (nm 0) (consA (fun _ S => R.ok (.int 0, S)) (consA (fun _ S => R.ok (.int 999, S)) nilA)))))
abbrev F_inu := runF 1 1 f_inu
theorem ok_inu {fA : Addr} {fd : FuncData} (T : Txt K mg base tb ca C xa) (F : Fun K "_is_number" "_is_number" s_inu fA fd) : FnG Pg w K mg base 2 fA fd ["value"] (spF K ca tb F_inu) := by
  obtain ⟨_, _, c_ii⟩ := T.c_ii
  refine fn_d (N := ["value"]) (OO := []) F sc_inu fun cdv A outer s H E hr => ?_
  have hu := hr.r.units
  have hgu := hr.g
  exact (pss_oneD (psd_ret (pd_call (ok_ii T c_ii.F) (hr.mono (by decide)) c_ii.m c_ii.k c_ii.b .nil (fun _ => .nil) (pad_cons (pd_name 0) (pad_cons (pd_int) (pad_cons (pd_cval T.mgC T.rdC T.cv_MAX_PEOPLE.choose_spec (fun _ => .int _)) pad_nil))))))
/-! _check_numbers -/
theorem sc_cn : FnScope ["arrivals", "departures", "people", "present", "tick", "arriving", "leaving"] ["arrivals", "departures"] (defScope s_cn) := ⟨rfl, rfl, rfl, by decide +kernel, rfl, by decide +kernel, by decide +kernel⟩
def f_cn : FS := (seqS (asgS (fun _ S => R.ok (.int 0, S)) (nmG 2))
  (seqS (asgS (fun _ S => R.ok (.int 0, S)) (nmG 3))
  (forS (enI (rngI zip2D (consA (nm 0) (consA (nm 1) nilA)))) (tupG 2 (consG (nmG 4) (consG (tupG 2 (consG (nmG 5) (consG (nmG 6) nilG))) nilG))) (seqS (ifS (orT (notT (tst (callD F_inu [] (consA (nm 5) nilA)))) (notT (tst (callD F_inu [] (consA (nm 6) nilA))))) (raiseS "InvalidCounts" ["tick"] (consA (nm 4) nilA)) nxS)
  (seqS (asgS (bin2 addD (nm 2) (nm 5)) (nmG 2))
  (seqS (asgS (bin2 subD (bin2 addD (nm 3) (nm 5)) (nm 6)) (nmG 3))
  (ifS (orT (tstB (bin2 gtD (nm 2) (fun _ S => R.ok (.int 999, S)))) (tstB (bin2 ltD (nm 3) (fun _ S => R.ok (.int 0, S))))) (raiseS "InvalidCounts" ["tick"] (consA (nm 4) nilA)) nxS)))))))
abbrev F_cn := runF 7 2 f_cn
theorem ok_cn {fA : Addr} {fd : FuncData} (T : Txt K mg base tb ca C xa) (F : Fun K "_check_numbers" "_check_numbers" s_cn fA fd) : FnX Pg w K mg base 3 fA fd ["arrivals", "departures"] (spX K ca tb F_cn) := by
  obtain ⟨_, _, c_inu⟩ := T.c_inu
  obtain ⟨_, _, c_eIC⟩ := T.c_eIC
  refine fn_x (N := ["arrivals", "departures", "people", "present", "tick", "arriving", "leaving"]) (OO := []) F sc_cn fun cdv A outer s H E bs EX hr tk => ?_
  have hu := hr.r.units
  have hgu := hr.g
  exact (pss_consD (psd_set 2 sc_cn.nd notplN (pd_int))
    (pss_consD (psd_set 3 sc_cn.nd notplN (pd_int))
    (pss_oneD (psd_for passes_cx rfl (pid_enumz rfl (T.free _ (by decide +kernel)) (pzd_zip2 rfl (T.free _ (by decide +kernel)) (pad_cons (pd_name 0) (pad_cons (pd_name 1) pad_nil)))) (pgd_tup rfl rfl (pgsd_cons (pgd_name 4 sc_cn.nd notplN) (pgsd_cons (pgd_tup rfl rfl (pgsd_cons (pgd_name 5 sc_cn.nd notplN) (pgsd_cons (pgd_name 6 sc_cn.nd notplN) pgsd_nil))) pgsd_nil))) (pss_consD (psd_if (PWd.pt (ptw_or (ptd_not (pt_tru rfl (pd_call (ok_inu T c_inu.F) (hr.mono (by decide)) c_inu.m c_inu.k c_inu.b .nil (fun _ => .nil) (pad_cons (pd_name 5) pad_nil)).pb)) (ptw_or1 (ptd_not (pt_tru rfl (pd_call (ok_inu T c_inu.F) (hr.mono (by decide)) c_inu.m c_inu.k c_inu.b .nil (fun _ => .nil) (pad_cons (pd_name 6) pad_nil)).pb))))) (pss_oneD (psd_raise rfl tk T.cx_InvalidCounts T.xb_InvalidCounts c_eIC.iC c_eIC.fn (ok_eIC T c_eIC.F) (hr.mono (by decide)) c_eIC.b T.mx_InvalidCounts (pad_cons (pd_name 4) pad_nil))) pss_nilD)
    (pss_consD (psd_set 2 sc_cn.nd notplN (pd_add rfl (pd_name 2).pb (pd_name 5).pb))
    (pss_consD (psd_set 3 sc_cn.nd notplN (pd_sub (pd_add rfl (pd_name 3).pb (pd_name 5).pb).pb (pd_name 6).pb))
    (pss_oneD (psd_if (PWd.pt (ptw_or (pt_gt (pd_name 2).pb (pd_cval T.mgC T.rdC T.cv_MAX_PEOPLE.choose_spec (fun _ => .int _)).pb) (ptw_or1 (pt_lt (pd_name 3).pb (pd_int).pb)))) (pss_oneD (psd_raise rfl tk T.cx_InvalidCounts T.xb_InvalidCounts c_eIC.iC c_eIC.fn (ok_eIC T c_eIC.F) (hr.mono (by decide)) c_eIC.b T.mx_InvalidCounts (pad_cons (pd_name 4) pad_nil))) pss_nilD)))))))))
/-! _replaced -/
theorem sc_rep : FnScope ["numbers", "tick", "number"] ["numbers", "tick", "number"] (defScope s_rep) := ⟨rfl, rfl, rfl, by decide +kernel, rfl, by decide +kernel, by decide +kernel⟩
def f_rep : FS := (seqS (ifS (tstB (bin2 isD (nm 2) (fun _ S => R.ok (.non, S)))) (retS (nm 0)) nxS)
  (retS (bin2 addD (bin2 addD (slcE (nm 0) noneO (someO (nm 1))) (tupE (consA (nm 2) nilA))) (slcE (nm 0) (someO (bin2 addD (nm 1) (fun _ S => R.ok (.int 1, S)))) noneO))))
abbrev F_rep := runF 3 3 f_rep
theorem ok_rep {fA : Addr} {fd : FuncData} (T : Txt K mg base tb ca C xa) (F : Fun K "_replaced" "_replaced" s_rep fA fd) : FnG Pg w K mg base 1 fA fd ["numbers", "tick", "number"] (spF K ca tb F_rep) := by
  refine fn_d (N := ["numbers", "tick", "number"]) (OO := []) F sc_rep fun cdv A outer s H E hr => ?_
  have hu := hr.r.units
  have hgu := hr.g
  exact (pss_consD (psd_if (pt_is (pd_name 2).pb (pd_non).pb) (pss_oneD (psd_ret (pd_name 0))) pss_nilD)
    (pss_oneD (psd_ret (pd_add rfl (pd_add rfl (pd_slc rfl (pd_name 0).pb pod_none (pod_some (pd_name 1))).pb (pd_tup (pad_cons (pd_name 2) pad_nil)).pb).pb (pd_slc rfl (pd_name 0).pb (pod_some (pd_add rfl (pd_name 1).pb (pd_int).pb)) pod_none).pb))))
/-! Counts.__init__ -/
theorem sc_ini : FnScope ["self", "arrivals", "departures"] ["self", "arrivals", "departures"] (defScope s_ini) := ⟨rfl, rfl, rfl, by decide +kernel, rfl, by decide +kernel, by decide +kernel⟩
def nm_ini : List Str := ["arrivals", "departures"]
def f_ini : FS := (seqS (exprS (callX F_cl [] (consA (nm 1) (consA (nm 2) nilA))))
  (seqS (exprS (callX F_cn [] (consA (nm 1) (consA (nm 2) nilA))))
  (seqS (slfS nm_ini "arrivals" (nm 1))
  (slfS nm_ini "departures" (nm 2)))))
abbrev F_ini := runI nm_ini 3 3 f_ini
theorem ok_ini {fA : Addr} {fd : FuncData} (T : Txt K mg base tb ca C xa) (F : Fun K "__init__" "Counts.__init__" s_ini fA fd) : FnX Pg w K mg base 4 fA fd ["self", "arrivals", "departures"] (spIX K ca tb C nm_ini F_ini) := by
  obtain ⟨_, _, c_cl⟩ := T.c_cl
  obtain ⟨_, _, c_cn⟩ := T.c_cn
  refine fn_ix (N := ["self", "arrivals", "departures"]) (OO := []) F sc_ini (by decide) fun cdv A outer s H E p dx bs EX hr tk => ?_
  have hu := hr.r.units
  have hgu := hr.g
  exact (pss_consD (psd_expr (pd_callX tk (ok_cl T c_cl.F) (hr.mono (by decide)) c_cl.m c_cl.k c_cl.b .nil (fun _ => .nil) (pad_cons (pd_name 1) (pad_cons (pd_name 2) pad_nil))))
    (pss_consD (psd_expr (pd_callX tk (ok_cn T c_cn.F) (hr.mono (by decide)) c_cn.m c_cn.k c_cn.b .nil (fun _ => .nil) (pad_cons (pd_name 1) (pad_cons (pd_name 2) pad_nil))))
    (pss_consD (psd_slf 0 rfl ⟨_, rfl⟩ rfl T.clC T.na_arrivals (pd_name 1))
    (pss_oneD (psd_slf 0 rfl ⟨_, rfl⟩ rfl T.clC T.na_departures (pd_name 2))))))
/-! Counts.present -/
theorem sc_pre : FnScope ["self"] ["self"] (defScope s_pre) := ⟨rfl, rfl, rfl, by decide +kernel, rfl, by decide +kernel, by decide +kernel⟩
def f_pre : FS := (retS (callD F_pra [] (consA (un1 (fldD "Counts" "arrivals") (nm 0)) (consA (un1 (fldD "Counts" "departures") (nm 0)) nilA))))
abbrev F_pre := runF 1 1 f_pre
theorem ok_pre {fA : Addr} {fd : FuncData} (T : Txt K mg base tb ca C xa) (F : Fun K "present" "Counts.present" s_pre fA fd) : FnG Pg w K mg base 2 fA fd ["self"] (spF K ca tb F_pre) := by
  obtain ⟨_, _, c_pra⟩ := T.c_pra
  refine fn_d (N := ["self"]) (OO := []) F sc_pre fun cdv A outer s H E hr => ?_
  have hu := hr.r.units
  have hgu := hr.g
  exact (pss_oneD (psd_ret (pd_call (ok_pra T c_pra.F) (hr.mono (by decide)) c_pra.m c_pra.k c_pra.b .nil (fun _ => .nil) (pad_cons (pd_fld rfl T.caC T.clC T.na_arrivals (pd_name 0)) (pad_cons (pd_fld rfl T.caC T.clC T.na_departures (pd_name 0)) pad_nil)))))
/-! Counts.people -/
theorem sc_peo : FnScope ["self"] ["self"] (defScope s_peo) := ⟨rfl, rfl, rfl, by decide +kernel, rfl, by decide +kernel, by decide +kernel⟩
def f_peo : FS := (retS (callE sumA (consA (un1 (fldD "Counts" "arrivals") (nm 0)) nilA)))
abbrev F_peo := runF 1 1 f_peo
theorem ok_peo {fA : Addr} {fd : FuncData} (T : Txt K mg base tb ca C xa) (F : Fun K "people" "Counts.people" s_peo fA fd) : FnG Pg w K mg base 1 fA fd ["self"] (spF K ca tb F_peo) := by
  refine fn_d (N := ["self"]) (OO := []) F sc_peo fun cdv A outer s H E hr => ?_
  have hu := hr.r.units
  have hgu := hr.g
  exact (pss_oneD (psd_ret (pd_sumA rfl rfl (T.free _ (by decide +kernel)) (pba_cons (pd_fld rfl T.caC T.clC T.na_arrivals (pd_name 0)).pb pba_nil))))
/-! Counts.__eq__ -/
theorem sc_eq : FnScope ["self", "other"] ["self", "other"] (defScope s_eq) := ⟨rfl, rfl, rfl, by decide +kernel, rfl, by decide +kernel, by decide +kernel⟩
def f_eq : FS := (retS (andV (un1 (isiD (fun t => if t ∈ known then some false else none) (inst1 [] "Counts")) (nm 1)) (andV (bin2 eqD (un1 (fldD "Counts" "arrivals") (nm 0)) (un1 (fldD "Counts" "arrivals") (nm 1))) (bin2 eqD (un1 (fldD "Counts" "departures") (nm 0)) (un1 (fldD "Counts" "departures") (nm 1))))))
abbrev F_eq := runF 2 2 f_eq
theorem ok_eq {fA : Addr} {fd : FuncData} (T : Txt K mg base tb ca C xa) (F : Fun K "__eq__" "Counts.__eq__" s_eq fA fd) : FnG Pg w K mg base 1 fA fd ["self", "other"] (spF K ca tb F_eq) := by
  refine fn_d (N := ["self", "other"]) (OO := []) F sc_eq fun cdv A outer s H E hr => ?_
  have hu := hr.r.units
  have hgu := hr.g
  exact (pss_oneD (psd_ret ((pd_and rfl (pd_isC "Counts" T.caC T.oCC [] (by intro _ h; cases h) rfl (T.free _ (by decide +kernel)) T.mgC (pd_name 1).pb) (pd_and rfl (pd_eq rfl hu (pd_fld rfl T.caC T.clC T.na_arrivals (pd_name 0)).pb (pd_fld rfl T.caC T.clC T.na_arrivals (pd_name 1)).pb) (pd_one (pd_eq rfl hu (pd_fld rfl T.caC T.clC T.na_departures (pd_name 0)).pb (pd_fld rfl T.caC T.clC T.na_departures (pd_name 1)).pb)))))))
/-! Counts.__str__ -/
theorem sc_str : FnScope ["self", "arriving", "leaving"] ["self"] (defScope s_str) := ⟨rfl, rfl, rfl, by decide +kernel, rfl, by decide +kernel, by decide +kernel⟩
def f_str : FS := (retS (mthE "str" joinD (fun _ S => R.ok (.str " ", S)) (consA (ofF (lcE [1, 2] (rngI zip2D (consA (un1 (fldD "Counts" "arrivals") (nm 0)) (consA (un1 (fldD "Counts" "departures") (nm 0)) nilA))) (tupG 2 (consG (nmG 1) (consG (nmG 2) nilG))) yesT (jnE (consJ (un1 fmtD (nm 1)) (consJ (fun _ S => R.ok (.str "/", S)) (consJ (un1 fmtD (nm 2)) nilJ)))))) nilA)))
abbrev F_str := runF 3 1 f_str
theorem ok_str {fA : Addr} {fd : FuncData} (T : Txt K mg base tb ca C xa) (F : Fun K "__str__" "Counts.__str__" s_str fA fd) : FnG Pg w K mg base 1 fA fd ["self"] (spF K ca tb F_str) := by
  refine fn_d (N := ["self", "arriving", "leaving"]) (OO := []) F sc_str fun cdv A outer s H E hr => ?_
  have hu := hr.r.units
  have hgu := hr.g
  exact (pss_oneD (psd_ret (pd_join rfl (pd_str).pb (pba_cons (pf_lc (vs := []) (own := [("arriving", 1), ("leaving", 2)]) rfl sc_str.nd (pid_zip rfl (pzd_zip2 rfl (T.free _ (by decide +kernel)) (pad_cons (pd_fld rfl T.caC T.clC T.na_arrivals (pd_name 0)) (pad_cons (pd_fld rfl T.caC T.clC T.na_departures (pd_name 0)) pad_nil)))) (blkOk_by (by rfl)) (fun _ _ _ _ _ => (pgd_tup rfl rfl (pgsd_cons (pgd_name 1 sc_str.nd notplN) (pgsd_cons (pgd_name 2 sc_str.nd notplN) pgsd_nil)))) (fun _ _ _ _ _ => pts_nil) evT_yes (fun _ _ _ _ _ => (pd_joined (pjd_cons (pd_fmt (pd_name 1)) (pjd_cons (pd_str) (pjd_cons (pd_fmt (pd_name 2)) pjd_nil))))) (fun _ _ => notplN)).pd.pb pba_nil))))
/-! Counts.quiet -/
theorem sc_qui : FnScope ["cls", "ticks"] ["cls", "ticks"] (defScope s_qui) := ⟨rfl, rfl, rfl, by decide +kernel, rfl, by decide +kernel, by decide +kernel⟩
def f_qui : FS := (seqS (exprS (callX F_cnu [] (consA (nm 1) (consA (fun _ S => R.ok (.int 1, S)) (consA (un1 (clsConD "Counts" (.int 60)) (nm 0)) nilA)))))
  (retS (mkV "Counts" nm_ini F_ini 2 [0, 1] (nm 0) (consA (bin2 mulDx (tupE (consA (fun _ S => R.ok (.int 0, S)) nilA)) (nm 1)) (consA (bin2 mulDx (tupE (consA (fun _ S => R.ok (.int 0, S)) nilA)) (nm 1)) nilA)))))
abbrev F_qui := runF 2 2 f_qui
theorem ok_qui {fA : Addr} {fd : FuncData} (T : Txt K mg base tb ca C xa) (F : Fun K "quiet" "Counts.quiet" s_qui fA fd) : FnX Pg w K mg base 6 fA fd ["cls", "ticks"] (spX K ca tb F_qui) := by
  obtain ⟨_, _, c_cnu⟩ := T.c_cnu
  obtain ⟨_, _, c_ini⟩ := T.c_ini
  refine fn_x (N := ["cls", "ticks"]) (OO := []) F sc_qui fun cdv A outer s H E bs EX hr tk => ?_
  have hu := hr.r.units
  have hgu := hr.g
  exact (pss_consD (psd_expr (pd_callX tk (ok_cnu T c_cnu.F) (hr.mono (by decide)) c_cnu.m c_cnu.k c_cnu.b .nil (fun _ => .nil) (pad_cons (pd_name 1) (pad_cons (pd_int) (pad_cons (pd_cvalV rfl T.caC T.rdC T.cv_MAX_TICKS.choose_spec (fun _ => .int _) (pd_name 0)) pad_nil)))))
    (pss_oneD (psd_ret (pd_makeV (n := 2) (ix := [0, 1]) T.caC c_ini.makes (ok_ini T c_ini.F).toGI (hr.mono (by decide)) c_ini.kb (pd_name 0) (pad_cons (pd_mulx rfl (pd_tup (pad_cons (pd_int) pad_nil)).pb (pd_name 1).pb) (pad_cons (pd_mulx rfl (pd_tup (pad_cons (pd_int) pad_nil)).pb (pd_name 1).pb) pad_nil))))))
/-! Counts.changed -/
theorem sc_cha : FnScope ["self", "tick", "arrivals", "departures"] ["self", "tick", "arrivals", "departures"] (defScope s_cha) := ⟨rfl, rfl, rfl, by decide +kernel, rfl, by decide +kernel, by decide +kernel⟩
def f_cha : FS := (seqS (exprS (callX F_ct [] (consA (nm 1) (consA (fun _ S => R.ok (.int 0, S)) (consA (bin2 subD (callE lenD (consA (un1 (fldD "Counts" "arrivals") (nm 0)) nilA)) (fun _ S => R.ok (.int 1, S))) nilA)))))
  (seqS (ifS (tstB (bin2 isNotD (nm 2) (fun _ S => R.ok (.non, S)))) (exprS (callX F_cnu [] (consA (nm 2) (consA (fun _ S => R.ok (.int 0, S)) (consA (fun _ S => R.ok (.int 999, S)) nilA))))) nxS)
  (seqS (ifS (tstB (bin2 isNotD (nm 3) (fun _ S => R.ok (.non, S)))) (exprS (callX F_cnu [] (consA (nm 3) (consA (fun _ S => R.ok (.int 0, S)) (consA (fun _ S => R.ok (.int 999, S)) nilA))))) nxS)
  (retS (mkIX "Counts" nm_ini F_ini 2 0 [0, 1] (consA (callD F_rep [] (consA (un1 (fldD "Counts" "arrivals") (nm 0)) (consA (nm 1) (consA (nm 2) nilA)))) (consA (callD F_rep [] (consA (un1 (fldD "Counts" "departures") (nm 0)) (consA (nm 1) (consA (nm 3) nilA)))) nilA)) nilA)))))
abbrev F_cha := runF 4 4 f_cha
theorem ok_cha {fA : Addr} {fd : FuncData} (T : Txt K mg base tb ca C xa) (F : Fun K "changed" "Counts.changed" s_cha fA fd) : FnX Pg w K mg base 6 fA fd ["self", "tick", "arrivals", "departures"] (spX K ca tb F_cha) := by
  obtain ⟨_, _, c_ct⟩ := T.c_ct
  obtain ⟨_, _, c_cnu⟩ := T.c_cnu
  obtain ⟨_, _, c_ini⟩ := T.c_ini
  obtain ⟨_, _, c_rep⟩ := T.c_rep
  refine fn_x (N := ["self", "tick", "arrivals", "departures"]) (OO := []) F sc_cha fun cdv A outer s H E bs EX hr tk => ?_
  have hu := hr.r.units
  have hgu := hr.g
  exact (pss_consD (psd_expr (pd_callX tk (ok_ct T c_ct.F) (hr.mono (by decide)) c_ct.m c_ct.k c_ct.b .nil (fun _ => .nil) (pad_cons (pd_name 1) (pad_cons (pd_int) (pad_cons (pd_sub (pd_len rfl (T.free _ (by decide +kernel)) (pba_cons (pd_fld rfl T.caC T.clC T.na_arrivals (pd_name 0)).pb pba_nil)).pb (pd_int).pb) pad_nil)))))
    (pss_consD (psd_if (pt_isNot (pd_name 2).pb (pd_non).pb) (pss_oneD (psd_expr (pd_callX tk (ok_cnu T c_cnu.F) (hr.mono (by decide)) c_cnu.m c_cnu.k c_cnu.b .nil (fun _ => .nil) (pad_cons (pd_name 2) (pad_cons (pd_int) (pad_cons (pd_cval T.mgC T.rdC T.cv_MAX_PEOPLE.choose_spec (fun _ => .int _)) pad_nil)))))) pss_nilD)
    (pss_consD (psd_if (pt_isNot (pd_name 3).pb (pd_non).pb) (pss_oneD (psd_expr (pd_callX tk (ok_cnu T c_cnu.F) (hr.mono (by decide)) c_cnu.m c_cnu.k c_cnu.b .nil (fun _ => .nil) (pad_cons (pd_name 3) (pad_cons (pd_int) (pad_cons (pd_cval T.mgC T.rdC T.cv_MAX_PEOPLE.choose_spec (fun _ => .int _)) pad_nil)))))) pss_nilD)
    (pss_oneD (psd_ret (pd_makeX (n := 2) (ix := [0, 1]) tk T.caC c_ini.makes (ok_ini T c_ini.F) (hr.mono (by decide)) T.mgC c_ini.kb (pad_cons (pd_call (ok_rep T c_rep.F) (hr.mono (by decide)) c_rep.m c_rep.k c_rep.b .nil (fun _ => .nil) (pad_cons (pd_fld rfl T.caC T.clC T.na_arrivals (pd_name 0)) (pad_cons (pd_name 1) (pad_cons (pd_name 2) pad_nil)))) (pad_cons (pd_call (ok_rep T c_rep.F) (hr.mono (by decide)) c_rep.m c_rep.k c_rep.b .nil (fun _ => .nil) (pad_cons (pd_fld rfl T.caC T.clC T.na_departures (pd_name 0)) (pad_cons (pd_name 1) (pad_cons (pd_name 3) pad_nil)))) pad_nil))))))))
/-! Counts.extended -/
theorem sc_exd : FnScope ["self", "arrivals", "departures"] ["self", "arrivals", "departures"] (defScope s_exd) := ⟨rfl, rfl, rfl, by decide +kernel, rfl, by decide +kernel, by decide +kernel⟩
def f_exd : FS := (seqS (exprS (callX F_cnu [] (consA (nm 1) (consA (fun _ S => R.ok (.int 0, S)) (consA (fun _ S => R.ok (.int 999, S)) nilA)))))
  (seqS (exprS (callX F_cnu [] (consA (nm 2) (consA (fun _ S => R.ok (.int 0, S)) (consA (fun _ S => R.ok (.int 999, S)) nilA)))))
  (seqS (ifS (tstB (bin2 geD (callE lenD (consA (un1 (fldD "Counts" "arrivals") (nm 0)) nilA)) (fun _ S => R.ok (.int 60, S)))) (raiseS "TooMany" ["limit"] (consA (fun _ S => R.ok (.int 60, S)) nilA)) nxS)
  (retS (mkIX "Counts" nm_ini F_ini 2 0 [0, 1] (consA (bin2 addD (un1 (fldD "Counts" "arrivals") (nm 0)) (tupE (consA (nm 1) nilA))) (consA (bin2 addD (un1 (fldD "Counts" "departures") (nm 0)) (tupE (consA (nm 2) nilA))) nilA)) nilA)))))
abbrev F_exd := runF 3 3 f_exd
theorem ok_exd {fA : Addr} {fd : FuncData} (T : Txt K mg base tb ca C xa) (F : Fun K "extended" "Counts.extended" s_exd fA fd) : FnX Pg w K mg base 6 fA fd ["self", "arrivals", "departures"] (spX K ca tb F_exd) := by
  obtain ⟨_, _, c_cnu⟩ := T.c_cnu
  obtain ⟨_, _, c_eTM⟩ := T.c_eTM
  obtain ⟨_, _, c_ini⟩ := T.c_ini
  refine fn_x (N := ["self", "arrivals", "departures"]) (OO := []) F sc_exd fun cdv A outer s H E bs EX hr tk => ?_
  have hu := hr.r.units
  have hgu := hr.g
  exact (pss_consD (psd_expr (pd_callX tk (ok_cnu T c_cnu.F) (hr.mono (by decide)) c_cnu.m c_cnu.k c_cnu.b .nil (fun _ => .nil) (pad_cons (pd_name 1) (pad_cons (pd_int) (pad_cons (pd_cval T.mgC T.rdC T.cv_MAX_PEOPLE.choose_spec (fun _ => .int _)) pad_nil)))))
    (pss_consD (psd_expr (pd_callX tk (ok_cnu T c_cnu.F) (hr.mono (by decide)) c_cnu.m c_cnu.k c_cnu.b .nil (fun _ => .nil) (pad_cons (pd_name 2) (pad_cons (pd_int) (pad_cons (pd_cval T.mgC T.rdC T.cv_MAX_PEOPLE.choose_spec (fun _ => .int _)) pad_nil)))))
    (pss_consD (psd_if (pt_ge (pd_len rfl (T.free _ (by decide +kernel)) (pba_cons (pd_fld rfl T.caC T.clC T.na_arrivals (pd_name 0)).pb pba_nil)).pb (pd_cval T.mgC T.rdC T.cv_MAX_TICKS.choose_spec (fun _ => .int _)).pb) (pss_oneD (psd_raise rfl tk T.cx_TooMany T.xb_TooMany c_eTM.iC c_eTM.fn (ok_eTM T c_eTM.F) (hr.mono (by decide)) c_eTM.b T.mx_TooMany (pad_cons (pd_cval T.mgC T.rdC T.cv_MAX_TICKS.choose_spec (fun _ => .int _)) pad_nil))) pss_nilD)
    (pss_oneD (psd_ret (pd_makeX (n := 2) (ix := [0, 1]) tk T.caC c_ini.makes (ok_ini T c_ini.F) (hr.mono (by decide)) T.mgC c_ini.kb (pad_cons (pd_add rfl (pd_fld rfl T.caC T.clC T.na_arrivals (pd_name 0)).pb (pd_tup (pad_cons (pd_name 1) pad_nil)).pb) (pad_cons (pd_add rfl (pd_fld rfl T.caC T.clC T.na_departures (pd_name 0)).pb (pd_tup (pad_cons (pd_name 2) pad_nil)).pb) pad_nil))))))))
/-! _law_cell -/
theorem sc_cell : FnScope ["_law_cells", "_law_k", "_law_seed", "_law_part"] ["_law_cells", "_law_k"] (defScope s_cell) := ⟨rfl, rfl, rfl, by decide +kernel, rfl, by decide +kernel, by decide +kernel⟩
def f_cell : FS := (seqS (ifS (tstB (bin2 ltD (nm 1) (callE lenD (consA (nm 0) nilA)))) (retS (bin2 idxD (nm 0) (nm 1))) nxS)
  (seqS (asgS (bin2 modD (bin2 mulD (fun _ S => R.ok (.int 70009, S)) (bin2 addD (bin2 addD (bin2 mulD (nm 1) (nm 1)) (bin2 mulD (fun _ S => R.ok (.int 7, S)) (nm 1))) (fun _ S => R.ok (.int 19, S)))) (fun _ S => R.ok (.int 2147483179, S))) (nmG 2))
  (seqS (forS (seqI itemsL (slcE (nm 0) noneO (someO (fun _ S => R.ok (.int 3, S))))) (nmG 3) (asgS (bin2 modD (bin2 addD (bin2 mulD (nm 2) (fun _ S => R.ok (.int 42019, S))) (nm 3)) (fun _ S => R.ok (.int 2147483179, S))) (nmG 2)))
  (retS (nm 2)))))
abbrev F_cell := runF 4 2 f_cell
theorem ok_cell {fA : Addr} {fd : FuncData} (T : Txt K mg base tb ca C xa) (F : Fun K "_law_cell" "_law_cell" s_cell fA fd) : FnG Pg w K mg base 1 fA fd ["_law_cells", "_law_k"] (spF K ca tb F_cell) := by
  refine fn_d (N := ["_law_cells", "_law_k", "_law_seed", "_law_part"]) (OO := []) F sc_cell fun cdv A outer s H E hr => ?_
  have hu := hr.r.units
  have hgu := hr.g
  exact (pss_consD (psd_if (pt_lt (pd_name 1).pb (pd_len rfl (T.free _ (by decide +kernel)) (pba_cons (pd_name 0).pb pba_nil)).pb) (pss_oneD (psd_ret (pd_idx rfl (pd_name 0).pb (pd_name 1)))) pss_nilD)
    (pss_consD (psd_set 2 sc_cell.nd notplN (pd_mod (pd_mul rfl (pd_int).pb (pd_add rfl (pd_add rfl (pd_mul rfl (pd_name 1).pb (pd_name 1).pb).pb (pd_mul rfl (pd_int).pb (pd_name 1).pb).pb).pb (pd_int).pb).pb).pb (pd_int).pb))
    (pss_consD (psd_for PassesOwn.never rfl (pid_list rfl (pd_slc rfl (pd_name 0).pb pod_none (pod_some (pd_int)))) (pgd_name 3 sc_cell.nd notplN) (pss_oneD (psd_set 2 sc_cell.nd notplN (pd_mod (pd_add rfl (pd_mul rfl (pd_name 2).pb (pd_int).pb).pb (pd_name 3).pb).pb (pd_int).pb))))
    (pss_oneD (psd_ret (pd_name 2))))))
/-! _law_pool -/
theorem sc_pool : FnScope ["_law_cell_here", "_law_digits"] ["_law_cell_here"] (defScope s_pool) := ⟨rfl, rfl, rfl, by decide +kernel, rfl, by decide +kernel, by decide +kernel⟩
def f_pool : FA := (seqN (asgS (ifE (orT (tstB (bin2 ltD (nm 0) (fun _ S => R.ok (.int 0, S)))) (tstB (bin2 geD (nm 0) (bin2 powD (fun _ S => R.ok (.int 10, S)) (fun _ S => R.ok (.int 18, S)))))) (callE absD (consA (nm 0) nilA)) (fun _ S => R.ok (.int 0, S))) (nmG 1))
  (lstF (consA (bin2 modD (nm 0) (fun _ S => R.ok (.int 2147483179, S))) (consA (nm 1) (consA (fun _ S => R.ok (.int 0, S)) nilA)))))
abbrev F_pool := runN 2 1 f_pool
theorem ok_pool {fA : Addr} {fd : FuncData} (T : Txt K mg base tb ca C xa) (F : Fun K "_law_pool" "_law_pool" s_pool fA fd) : FnG Pg w K mg base 1 fA fd ["_law_cell_here"] (spN K ca tb F_pool) := by
  refine fn_n (N := ["_law_cell_here", "_law_digits"]) F sc_pool fun cdv A outer s H E hr => ?_
  have hu := hr.r.units
  have hgu := hr.g
  exact (psn_cons (psd_set 1 sc_pool.nd notplN (pd_ifE (PWd.pt (ptw_or (pt_lt (pd_name 0).pb (pd_int).pb) (ptw_or1 (pt_ge (pd_name 0).pb (pd_pow (pd_int).pb (pd_int).pb).pb)))) (pd_abs (T.free _ (by decide +kernel)) (pba_cons (pd_name 0).pb pba_nil)) (pd_int)))
    (psn_ret (pf_lst (pad_cons (pd_mod (pd_name 0).pb (pd_int).pb) (pad_cons (pd_name 1) (pad_cons (pd_int) pad_nil))))))
/-! _law_draw -/
theorem sc_draw : FnScope ["_law_pool_here", "_law_many", "_law_seed", "_law_digit"] ["_law_pool_here", "_law_many"] (defScope s_draw) := ⟨rfl, rfl, rfl, by decide +kernel, rfl, by decide +kernel, by decide +kernel⟩
def f_draw : FS := (seqS (asgS (bin2 addD (poolE 2) (fun _ S => R.ok (.int 1, S))) (poolG 2))
  (seqS (asgS (poolE 0) (nmG 2))
  (seqS (asgS (bin2 modD (bin2 addD (bin2 addD (bin2 mulD (nm 2) (bin2 addD (bin2 modD (nm 2) (fun _ S => R.ok (.int 40993, S))) (fun _ S => R.ok (.int 30013, S)))) (bin2 mulD (fun _ S => R.ok (.int 70001, S)) (poolE 2))) (fun _ S => R.ok (.int 9, S))) (fun _ S => R.ok (.int 2147483179, S))) (poolG 0))
  (seqS (ifS (tstB (bin2 gtD (poolE 1) (fun _ S => R.ok (.int 0, S)))) (seqS (asgS (callE divmodD (consA (poolE 1) (consA (nm 1) nilA))) (tupG 2 (consG (poolG 1) (consG (nmG 3) nilG))))
  (retS (nm 3))) nxS)
  (retS (bin2 modD (bin2 fdivD (poolE 0) (fun _ S => R.ok (.int 64, S))) (nm 1)))))))
abbrev F_draw := runP 4 2 f_draw
theorem ok_draw {fA : Addr} {fd : FuncData} (T : Txt K mg base tb ca C xa) (F : Fun K "_law_draw" "_law_draw" s_draw fA fd) : FnG Pg w K mg base 1 fA fd ["_law_pool_here", "_law_many"] (spP K ca tb F_draw) := by
  refine fn_p (N := ["_law_pool_here", "_law_many", "_law_seed", "_law_digit"]) (OO := []) F sc_draw (by decide) fun cdv A outer s H E p hr => ?_
  have hu := hr.r.units
  have hgu := hr.g
  exact (pss_consD (psd_asg (pd_add rfl (pd_pool 0 rfl rfl ⟨_, rfl⟩).pb (pd_int).pb) (pgd_pool 0 rfl ⟨_, rfl⟩))
    (pss_consD (psd_set 2 sc_draw.nd (notpl0 (by decide)) (pd_pool 0 rfl rfl ⟨_, rfl⟩))
    (pss_consD (psd_asg (pd_mod (pd_add rfl (pd_add rfl (pd_mul rfl (pd_name 2).pb (pd_add rfl (pd_mod (pd_name 2).pb (pd_int).pb).pb (pd_int).pb).pb).pb (pd_mul rfl (pd_int).pb (pd_pool 0 rfl rfl ⟨_, rfl⟩).pb).pb).pb (pd_int).pb).pb (pd_int).pb) (pgd_pool 0 rfl ⟨_, rfl⟩))
    (pss_consD (psd_if (pt_gt (pd_pool 0 rfl rfl ⟨_, rfl⟩).pb (pd_int).pb) (pss_consD (psd_asg (pd_divmod (T.free _ (by decide +kernel)) (pba_cons (pd_pool 0 rfl rfl ⟨_, rfl⟩).pb (pba_cons (pd_name 1).pb pba_nil))) (pgd_tup rfl rfl (pgsd_cons (pgd_pool 0 rfl ⟨_, rfl⟩) (pgsd_cons (pgd_name 3 sc_draw.nd (notpl0 (by decide))) pgsd_nil))))
    (pss_oneD (psd_ret (pd_name 3)))) pss_nilD)
    (pss_oneD (psd_ret (pd_mod (pd_fdiv (pd_pool 0 rfl rfl ⟨_, rfl⟩).pb (pd_int).pb).pb (pd_name 1).pb)))))))
/-! _law_flows -/
theorem sc_flows : FnScope ["_law_pool_here", "_law_size", "_law_most_in", "_law_people", "_law_comes", "_law_goes", "_law_here", "_law_spare", "_law_k", "_law_way", "_law_new", "_law_gone"] ["_law_pool_here", "_law_size", "_law_most_in", "_law_people"] (defScope s_flows) := ⟨rfl, rfl, rfl, by decide +kernel, rfl, by decide +kernel, by decide +kernel⟩
def f_flows : FS := (seqS (own4S 4 5 6 7 (fun _ S => R.ok (.int 0, S)) (nm 3))
  (seqS (forS (rngI rng1D (consA (nm 1) nilA)) (nmG 8) (seqS (asgS (callP F_draw (consA (fun _ S => R.ok (.int 6, S)) nilA)) (nmG 9))
  (seqS (asgS (callE min2D (consA (nm 7) (consA (bin2 idxD (ofF (lstF (consA (fun _ S => R.ok (.int 0, S)) (consA (fun _ S => R.ok (.int 0, S)) (consA (fun _ S => R.ok (.int 1, S)) (consA (nm 2) (consA (callP F_draw (consA (bin2 addD (nm 2) (fun _ S => R.ok (.int 1, S))) nilA)) (consA (callP F_draw (consA (bin2 addD (nm 2) (fun _ S => R.ok (.int 1, S))) nilA)) nilA)))))))) (nm 9)) nilA))) (nmG 10))
  (seqS (parS 6 7 (consA (bin2 addD (nm 6) (nm 10)) (consA (bin2 subD (nm 7) (nm 10)) nilA)))
  (seqS (asgS (callP F_draw (consA (fun _ S => R.ok (.int 6, S)) nilA)) (nmG 9))
  (seqS (asgS (bin2 idxD (ofF (lstF (consA (fun _ S => R.ok (.int 0, S)) (consA (nm 6) (consA (callE min2D (consA (fun _ S => R.ok (.int 1, S)) (consA (nm 6) nilA))) (consA (callP F_draw (consA (bin2 addD (nm 6) (fun _ S => R.ok (.int 1, S))) nilA)) (consA (callP F_draw (consA (bin2 addD (nm 6) (fun _ S => R.ok (.int 1, S))) nilA)) (consA (callE min2D (consA (nm 6) (consA (nm 10) nilA))) nilA)))))))) (nm 9)) (nmG 11))
  (seqS (appS 4 (nm 10))
  (seqS (appS 5 (nm 11))
  (asgS (bin2 subD (nm 6) (nm 11)) (nmG 6))))))))))
  (retS (ofF (lstF (consA (callE tupD (consA (nm 4) nilA)) (consA (callE tupD (consA (nm 5) nilA)) nilA)))))))
abbrev F_flows := runP 12 4 f_flows
theorem ok_flows {fA : Addr} {fd : FuncData} (T : Txt K mg base tb ca C xa) (F : Fun K "_law_flows" "_law_flows" s_flows fA fd) : FnG Pg w K mg base 2 fA fd ["_law_pool_here", "_law_size", "_law_most_in", "_law_people"] (spP K ca tb F_flows) := by
  obtain ⟨_, _, c_draw⟩ := T.c_draw
  refine fn_p (N := ["_law_pool_here", "_law_size", "_law_most_in", "_law_people", "_law_comes", "_law_goes", "_law_here", "_law_spare", "_law_k", "_law_way", "_law_new", "_law_gone"]) (OO := []) F sc_flows (by decide) fun cdv A outer s H E p hr => ?_
  have hu := hr.r.units
  have hgu := hr.g
  exact (pss_consD (psd_own4 4 5 6 7 rfl rfl sc_flows.nd (notpl0 (by decide)) (notpl0 (by decide)) (notpl0 (by decide)) (notpl0 (by decide)) (pd_int) (pd_name 3))
    (pss_consD (psd_for PassesOwn.never rfl (pid_range1 (T.free _ (by decide +kernel)) (pad_cons (pd_name 1) pad_nil)) (pgd_name 8 sc_flows.nd (notpl0 (by decide))) (pss_consD (psd_set 9 sc_flows.nd (notpl0 (by decide)) (pd_callP 0 rfl ⟨_, rfl⟩ (ok_draw T c_draw.F) (hr.mono (by decide)) c_draw.m c_draw.k c_draw.b (pad_cons (pd_int) pad_nil)))
    (pss_consD (psd_set 10 sc_flows.nd (notpl0 (by decide)) (pd_min2 rfl (T.free _ (by decide +kernel)) (pba_cons (pd_name 7).pb (pba_cons (pd_idx rfl (pf_lst (pad_cons (pd_int) (pad_cons (pd_int) (pad_cons (pd_int) (pad_cons (pd_name 2) (pad_cons (pd_callP 0 rfl ⟨_, rfl⟩ (ok_draw T c_draw.F) (hr.mono (by decide)) c_draw.m c_draw.k c_draw.b (pad_cons (pd_add rfl (pd_name 2).pb (pd_int).pb) pad_nil)) (pad_cons (pd_callP 0 rfl ⟨_, rfl⟩ (ok_draw T c_draw.F) (hr.mono (by decide)) c_draw.m c_draw.k c_draw.b (pad_cons (pd_add rfl (pd_name 2).pb (pd_int).pb) pad_nil)) pad_nil))))))).pd.pb (pd_name 9)).pb pba_nil))))
    (pss_consD (psd_par 6 7 rfl sc_flows.nd (notpl0 (by decide)) (notpl0 (by decide)) (pad_cons (pd_add rfl (pd_name 6).pb (pd_name 10).pb) (pad_cons (pd_sub (pd_name 7).pb (pd_name 10).pb) pad_nil)))
    (pss_consD (psd_set 9 sc_flows.nd (notpl0 (by decide)) (pd_callP 0 rfl ⟨_, rfl⟩ (ok_draw T c_draw.F) (hr.mono (by decide)) c_draw.m c_draw.k c_draw.b (pad_cons (pd_int) pad_nil)))
    (pss_consD (psd_set 11 sc_flows.nd (notpl0 (by decide)) (pd_idx rfl (pf_lst (pad_cons (pd_int) (pad_cons (pd_name 6) (pad_cons (pd_min2 rfl (T.free _ (by decide +kernel)) (pba_cons (pd_int).pb (pba_cons (pd_name 6).pb pba_nil))) (pad_cons (pd_callP 0 rfl ⟨_, rfl⟩ (ok_draw T c_draw.F) (hr.mono (by decide)) c_draw.m c_draw.k c_draw.b (pad_cons (pd_add rfl (pd_name 6).pb (pd_int).pb) pad_nil)) (pad_cons (pd_callP 0 rfl ⟨_, rfl⟩ (ok_draw T c_draw.F) (hr.mono (by decide)) c_draw.m c_draw.k c_draw.b (pad_cons (pd_add rfl (pd_name 6).pb (pd_int).pb) pad_nil)) (pad_cons (pd_min2 rfl (T.free _ (by decide +kernel)) (pba_cons (pd_name 6).pb (pba_cons (pd_name 10).pb pba_nil))) pad_nil))))))).pd.pb (pd_name 9)))
    (pss_consD (psd_append 4 rfl (pd_name 10))
    (pss_consD (psd_append 5 rfl (pd_name 11))
    (pss_oneD (psd_set 6 sc_flows.nd (notpl0 (by decide)) (pd_sub (pd_name 6).pb (pd_name 11).pb)))))))))))
    (pss_oneD (psd_ret (pf_lst (pad_cons (pd_tuple rfl (T.free _ (by decide +kernel)) (pba_cons (pb_own 4) pba_nil)) (pad_cons (pd_tuple rfl (T.free _ (by decide +kernel)) (pba_cons (pb_own 5) pba_nil)) pad_nil))).pd))))
/-! _law_small_flows -/
theorem sc_small : FnScope ["_law_pool_here"] ["_law_pool_here"] (defScope s_small) := ⟨rfl, rfl, rfl, by decide +kernel, rfl, by decide +kernel, by decide +kernel⟩
def f_small : FS := (retS (callP F_flows (consA (bin2 addD (fun _ S => R.ok (.int 1, S)) (callP F_draw (consA (fun _ S => R.ok (.int 5, S)) nilA))) (consA (fun _ S => R.ok (.int 3, S)) (consA (fun _ S => R.ok (.int 6, S)) nilA)))))
abbrev F_small := runP 1 1 f_small
theorem ok_small {fA : Addr} {fd : FuncData} (T : Txt K mg base tb ca C xa) (F : Fun K "_law_small_flows" "_law_small_flows" s_small fA fd) : FnG Pg w K mg base 3 fA fd ["_law_pool_here"] (spP K ca tb F_small) := by
  obtain ⟨_, _, c_flows⟩ := T.c_flows
  obtain ⟨_, _, c_draw⟩ := T.c_draw
  refine fn_p (N := ["_law_pool_here"]) (OO := []) F sc_small (by decide) fun cdv A outer s H E p hr => ?_
  have hu := hr.r.units
  have hgu := hr.g
  exact (pss_oneD (psd_ret (pd_callP 0 rfl ⟨_, rfl⟩ (ok_flows T c_flows.F) (hr.mono (by decide)) c_flows.m c_flows.k c_flows.b (pad_cons (pd_add rfl (pd_int).pb (pd_callP 0 rfl ⟨_, rfl⟩ (ok_draw T c_draw.F) (hr.mono (by decide)) c_draw.m c_draw.k c_draw.b (pad_cons (pd_int) pad_nil)).pb) (pad_cons (pd_int) (pad_cons (pd_int) pad_nil))))))
/-! _law_great_flows -/
theorem sc_great : FnScope ["_law_pool_here"] ["_law_pool_here"] (defScope s_great) := ⟨rfl, rfl, rfl, by decide +kernel, rfl, by decide +kernel, by decide +kernel⟩
def f_great : FS := (seqS (ifS (tstB (bin2 eqD (callP F_draw (consA (fun _ S => R.ok (.int 3, S)) nilA)) (fun _ S => R.ok (.int 1, S)))) (retS (callP F_flows (consA (bin2 addD (fun _ S => R.ok (.int 1, S)) (callP F_draw (consA (fun _ S => R.ok (.int 60, S)) nilA))) (consA (bin2 idxD (ofF (lstF (consA (fun _ S => R.ok (.int 1, S)) (consA (fun _ S => R.ok (.int 40, S)) (consA (fun _ S => R.ok (.int 999, S)) nilA))))) (callP F_draw (consA (fun _ S => R.ok (.int 3, S)) nilA))) (consA (fun _ S => R.ok (.int 999, S)) nilA))))) nxS)
  (retS (callP F_flows (consA (bin2 addD (fun _ S => R.ok (.int 1, S)) (callP F_draw (consA (fun _ S => R.ok (.int 12, S)) nilA))) (consA (fun _ S => R.ok (.int 5, S)) (consA (fun _ S => R.ok (.int 60, S)) nilA))))))
abbrev F_great := runP 1 1 f_great
theorem ok_great {fA : Addr} {fd : FuncData} (T : Txt K mg base tb ca C xa) (F : Fun K "_law_great_flows" "_law_great_flows" s_great fA fd) : FnG Pg w K mg base 3 fA fd ["_law_pool_here"] (spP K ca tb F_great) := by
  obtain ⟨_, _, c_draw⟩ := T.c_draw
  obtain ⟨_, _, c_flows⟩ := T.c_flows
  refine fn_p (N := ["_law_pool_here"]) (OO := []) F sc_great (by decide) fun cdv A outer s H E p hr => ?_
  have hu := hr.r.units
  have hgu := hr.g
  exact (pss_consD (psd_if (pt_eq rfl hu (pd_callP 0 rfl ⟨_, rfl⟩ (ok_draw T c_draw.F) (hr.mono (by decide)) c_draw.m c_draw.k c_draw.b (pad_cons (pd_int) pad_nil)).pb (pd_int).pb) (pss_oneD (psd_ret (pd_callP 0 rfl ⟨_, rfl⟩ (ok_flows T c_flows.F) (hr.mono (by decide)) c_flows.m c_flows.k c_flows.b (pad_cons (pd_add rfl (pd_int).pb (pd_callP 0 rfl ⟨_, rfl⟩ (ok_draw T c_draw.F) (hr.mono (by decide)) c_draw.m c_draw.k c_draw.b (pad_cons (pd_int) pad_nil)).pb) (pad_cons (pd_idx rfl (pf_lst (pad_cons (pd_int) (pad_cons (pd_int) (pad_cons (pd_int) pad_nil)))).pd.pb (pd_callP 0 rfl ⟨_, rfl⟩ (ok_draw T c_draw.F) (hr.mono (by decide)) c_draw.m c_draw.k c_draw.b (pad_cons (pd_int) pad_nil))) (pad_cons (pd_int) pad_nil)))))) pss_nilD)
    (pss_oneD (psd_ret (pd_callP 0 rfl ⟨_, rfl⟩ (ok_flows T c_flows.F) (hr.mono (by decide)) c_flows.m c_flows.k c_flows.b (pad_cons (pd_add rfl (pd_int).pb (pd_callP 0 rfl ⟨_, rfl⟩ (ok_draw T c_draw.F) (hr.mono (by decide)) c_draw.m c_draw.k c_draw.b (pad_cons (pd_int) pad_nil)).pb) (pad_cons (pd_int) (pad_cons (pd_int) pad_nil)))))))
/-! _law_rest -/
theorem sc_rest : FnScope ["_law_comes", "_law_goes", "_law_found", "_law_here", "_law_k"] ["_law_comes", "_law_goes"] (defScope s_rest) := ⟨rfl, rfl, rfl, by decide +kernel, rfl, by decide +kernel, by decide +kernel⟩
def f_rest : FA := (seqN (mixS [2, 3] [true, false] (ownM (lstF nilA) (valM (fun _ S => R.ok (.int 0, S)) nilM)))
  (seqN (forS (rngI rng1D (consA (callE lenD (consA (nm 0) nilA)) nilA)) (nmG 4) (seqS (asgS (bin2 subD (bin2 addD (nm 3) (bin2 idxD (nm 0) (nm 4))) (bin2 idxD (nm 1) (nm 4))) (nmG 3))
  (appS 2 (nm 3))))
  (ownN 2)))
abbrev F_rest := runN 5 2 f_rest
theorem ok_rest {fA : Addr} {fd : FuncData} (T : Txt K mg base tb ca C xa) (F : Fun K "_law_rest" "_law_rest" s_rest fA fd) : FnG Pg w K mg base 1 fA fd ["_law_comes", "_law_goes"] (spN K ca tb F_rest) := by
  refine fn_n (N := ["_law_comes", "_law_goes", "_law_found", "_law_here", "_law_k"]) F sc_rest fun cdv A outer s H E hr => ?_
  have hu := hr.r.units
  have hgu := hr.g
  exact (psn_cons (psd_mix2 2 3 true false rfl sc_rest.nd notplN notplN (pmd_own (pf_lst pad_nil) (pmd_val (pd_int) pmd_nil)))
    (psn_cons (psd_for PassesOwn.never rfl (pid_range1 (T.free _ (by decide +kernel)) (pad_cons (pd_len rfl (T.free _ (by decide +kernel)) (pba_cons (pd_name 0).pb pba_nil)) pad_nil)) (pgd_name 4 sc_rest.nd notplN) (pss_consD (psd_set 3 sc_rest.nd notplN (pd_sub (pd_add rfl (pd_name 3).pb (pd_idx rfl (pd_name 0).pb (pd_name 4)).pb).pb (pd_idx rfl (pd_name 1).pb (pd_name 4)).pb))
    (pss_oneD (psd_append 2 rfl (pd_name 3)))))
    (psn_own 2 rfl)))
/-! _law_error -/
theorem sc_error : FnScope ["_law_e", "_law_sorts", "_law_bases", "_law_own", "_law_at"] ["_law_e"] (defScope s_error) := ⟨rfl, rfl, rfl, by decide +kernel, rfl, by decide +kernel, by decide +kernel⟩
def f_error : FS := (seqS (asgS (ofF (lstF (consA (un1 (isXD sub_InvalidCounts) (nm 0)) (consA (un1 (isXD sub_NotCounts) (nm 0)) (consA (un1 (isXD sub_InvalidTick) (nm 0)) nilA))))) (nmG 1))
  (seqS (asgS (bin2 addD (nm 1) (ofF (lstF (consA (un1 (isXD sub_InvalidNumber) (nm 0)) (consA (un1 (isXD sub_InvalidText) (nm 0)) (consA (un1 (isXD sub_InvalidStay) (nm 0)) nilA)))))) (nmG 1))
  (seqS (asgS (bin2 addD (nm 1) (ofF (lstF (consA (un1 (isXD sub_InvalidHistory) (nm 0)) (consA (un1 (isXD sub_InvalidName) (nm 0)) (consA (un1 (isXD sub_InvalidLength) (nm 0)) nilA)))))) (nmG 1))
  (seqS (asgS (bin2 addD (nm 1) (ofF (lstF (consA (un1 (isXD sub_InvalidDoors) (nm 0)) (consA (un1 (isXD sub_InvalidDeed) (nm 0)) (consA (un1 (isXD sub_InvalidCommand) (nm 0)) nilA)))))) (nmG 1))
  (seqS (asgS (bin2 addD (nm 1) (ofF (lstF (consA (un1 (isXD sub_Impossible) (nm 0)) (consA (un1 (isXD sub_NotKnown) (nm 0)) (consA (un1 (isXD sub_LimitBroken) (nm 0)) nilA)))))) (nmG 1))
  (seqS (asgS (bin2 addD (nm 1) (ofF (lstF (consA (un1 (isXD sub_NothingToUndo) (nm 0)) (consA (un1 (isXD sub_TooMany) (nm 0)) nilA))))) (nmG 1))
  (seqS (asgS (ofF (lstF (consA (un1 (isXD sub_CountError) (nm 0)) (consA (un1 (isXD sub_SearchError) (nm 0)) (consA (un1 (isXD sub_LimitError) (nm 0)) nilA))))) (nmG 2))
  (seqS (asgS (ofF (lstF (consA (un1 (isXD sub_ValueError) (nm 0)) (consA (un1 (isXD sub_LookupError) (nm 0)) (consA (un1 (isXD sub_ArithmeticError) (nm 0)) nilA))))) (nmG 3))
  (seqS (ifS (orT (tstB (bin2 neD (mthE "list" cntFD (nm 1) (consA (fun _ S => R.ok (.bl true, S)) nilA)) (fun _ S => R.ok (.int 1, S)))) (tstB (bin2 neD (nm 3) (nm 2)))) (retS (un1 negD (fun _ S => R.ok (.int 1, S)))) nxS)
  (seqS (asgS (mthE "list" idxFD (nm 1) (consA (fun _ S => R.ok (.bl true, S)) nilA)) (nmG 4))
  (retS (ifE (tstB (bin2 eqD (nm 2) (ofF (lstF (consA (bin2 ltD (nm 4) (fun _ S => R.ok (.int 12, S))) (consA (chn ltD ltD (fun _ S => R.ok (.int 11, S)) (nm 4) (fun _ S => R.ok (.int 16, S))) (consA (bin2 eqD (nm 4) (fun _ S => R.ok (.int 16, S))) nilA))))))) (nm 4) (un1 negD (fun _ S => R.ok (.int 1, S)))))))))))))))
abbrev F_error := runF 5 1 f_error
theorem ok_error {fA : Addr} {fd : FuncData} (T : Txt K mg base tb ca C xa) (F : Fun K "_law_error" "_law_error" s_error fA fd) : FnA Pg w K mg base 1 fA fd ["_law_e"] (spF K ca tb F_error) := by
  refine fn_a (N := ["_law_e", "_law_sorts", "_law_bases", "_law_own", "_law_at"]) (OO := []) F sc_error fun cdv A outer s H E hr => ?_
  have hu := hr.units
  have hgu := hr.g
  exact (pss_consD (psd_set 1 sc_error.nd notplN (pf_lst (pad_cons (pd_isXC "InvalidCounts" rfl (T.free _ (by decide +kernel)) T.mx_InvalidCounts T.is_InvalidCounts (pd_name 0).pb) (pad_cons (pd_isXC "NotCounts" rfl (T.free _ (by decide +kernel)) T.mx_NotCounts T.is_NotCounts (pd_name 0).pb) (pad_cons (pd_isXC "InvalidTick" rfl (T.free _ (by decide +kernel)) T.mx_InvalidTick T.is_InvalidTick (pd_name 0).pb) pad_nil)))).pd)
    (pss_consD (psd_set 1 sc_error.nd notplN (pd_add rfl (pd_name 1).pb (pf_lst (pad_cons (pd_isXC "InvalidNumber" rfl (T.free _ (by decide +kernel)) T.mx_InvalidNumber T.is_InvalidNumber (pd_name 0).pb) (pad_cons (pd_isXC "InvalidText" rfl (T.free _ (by decide +kernel)) T.mx_InvalidText T.is_InvalidText (pd_name 0).pb) (pad_cons (pd_isXC "InvalidStay" rfl (T.free _ (by decide +kernel)) T.mx_InvalidStay T.is_InvalidStay (pd_name 0).pb) pad_nil)))).pd.pb))
    (pss_consD (psd_set 1 sc_error.nd notplN (pd_add rfl (pd_name 1).pb (pf_lst (pad_cons (pd_isXC "InvalidHistory" rfl (T.free _ (by decide +kernel)) T.mx_InvalidHistory T.is_InvalidHistory (pd_name 0).pb) (pad_cons (pd_isXC "InvalidName" rfl (T.free _ (by decide +kernel)) T.mx_InvalidName T.is_InvalidName (pd_name 0).pb) (pad_cons (pd_isXC "InvalidLength" rfl (T.free _ (by decide +kernel)) T.mx_InvalidLength T.is_InvalidLength (pd_name 0).pb) pad_nil)))).pd.pb))
    (pss_consD (psd_set 1 sc_error.nd notplN (pd_add rfl (pd_name 1).pb (pf_lst (pad_cons (pd_isXC "InvalidDoors" rfl (T.free _ (by decide +kernel)) T.mx_InvalidDoors T.is_InvalidDoors (pd_name 0).pb) (pad_cons (pd_isXC "InvalidDeed" rfl (T.free _ (by decide +kernel)) T.mx_InvalidDeed T.is_InvalidDeed (pd_name 0).pb) (pad_cons (pd_isXC "InvalidCommand" rfl (T.free _ (by decide +kernel)) T.mx_InvalidCommand T.is_InvalidCommand (pd_name 0).pb) pad_nil)))).pd.pb))
    (pss_consD (psd_set 1 sc_error.nd notplN (pd_add rfl (pd_name 1).pb (pf_lst (pad_cons (pd_isXC "Impossible" rfl (T.free _ (by decide +kernel)) T.mx_Impossible T.is_Impossible (pd_name 0).pb) (pad_cons (pd_isXC "NotKnown" rfl (T.free _ (by decide +kernel)) T.mx_NotKnown T.is_NotKnown (pd_name 0).pb) (pad_cons (pd_isXC "LimitBroken" rfl (T.free _ (by decide +kernel)) T.mx_LimitBroken T.is_LimitBroken (pd_name 0).pb) pad_nil)))).pd.pb))
    (pss_consD (psd_set 1 sc_error.nd notplN (pd_add rfl (pd_name 1).pb (pf_lst (pad_cons (pd_isXC "NothingToUndo" rfl (T.free _ (by decide +kernel)) T.mx_NothingToUndo T.is_NothingToUndo (pd_name 0).pb) (pad_cons (pd_isXC "TooMany" rfl (T.free _ (by decide +kernel)) T.mx_TooMany T.is_TooMany (pd_name 0).pb) pad_nil))).pd.pb))
    (pss_consD (psd_set 2 sc_error.nd notplN (pf_lst (pad_cons (pd_isXC "CountError" rfl (T.free _ (by decide +kernel)) T.mx_CountError T.is_CountError (pd_name 0).pb) (pad_cons (pd_isXC "SearchError" rfl (T.free _ (by decide +kernel)) T.mx_SearchError T.is_SearchError (pd_name 0).pb) (pad_cons (pd_isXC "LimitError" rfl (T.free _ (by decide +kernel)) T.mx_LimitError T.is_LimitError (pd_name 0).pb) pad_nil)))).pd)
    (pss_consD (psd_set 3 sc_error.nd notplN (pf_lst (pad_cons (pd_isXB rfl (T.free _ (by decide +kernel)) (T.free _ (by decide +kernel)) (by decide +kernel) T.is_ValueError (pd_name 0).pb) (pad_cons (pd_isXB rfl (T.free _ (by decide +kernel)) (T.free _ (by decide +kernel)) (by decide +kernel) T.is_LookupError (pd_name 0).pb) (pad_cons (pd_isXB rfl (T.free _ (by decide +kernel)) (T.free _ (by decide +kernel)) (by decide +kernel) T.is_ArithmeticError (pd_name 0).pb) pad_nil)))).pd)
    (pss_consD (psd_if (PWd.pt (ptw_or (pt_ne rfl hu (pd_count rfl (pd_name 1).pb (pba_cons (pd_bl).pb pba_nil)).pb (pd_int).pb) (ptw_or1 (pt_ne rfl hu (pd_name 3).pb (pd_name 2).pb)))) (pss_oneD (psd_ret (pd_neg (pd_int).pb))) pss_nilD)
    (pss_consD (psd_set 4 sc_error.nd notplN (pd_indexF rfl (pd_name 1).pb (pba_cons (pd_bl).pb pba_nil)))
    (pss_oneD (psd_ret (pd_ifE (pt_eq rfl hu (pd_name 2).pb (pf_lst (pad_cons (pd_lt (pd_name 4).pb (pd_int).pb) (pad_cons (pd_chain op_lt op_lt op2_lt op2_lt (pd_int).pb (pd_name 4).pb (pd_int).pb) (pad_cons (pd_eq rfl hu (pd_name 4).pb (pd_int).pb) pad_nil)))).pd.pb) (pd_name 4) (pd_neg (pd_int).pb))))))))))))))
/-! _law_any_flows -/
theorem sc_any : FnScope ["_law_pool_here"] ["_law_pool_here"] (defScope s_any) := ⟨rfl, rfl, rfl, by decide +kernel, rfl, by decide +kernel, by decide +kernel⟩
def f_any : FS := (retS (ifE (tstB (bin2 eqD (callP F_draw (consA (fun _ S => R.ok (.int 3, S)) nilA)) (fun _ S => R.ok (.int 0, S)))) (callP F_small nilA) (callP F_great nilA)))
abbrev F_any := runP 1 1 f_any
theorem ok_any {fA : Addr} {fd : FuncData} (T : Txt K mg base tb ca C xa) (F : Fun K "_law_any_flows" "_law_any_flows" s_any fA fd) : FnG Pg w K mg base 4 fA fd ["_law_pool_here"] (spP K ca tb F_any) := by
  obtain ⟨_, _, c_draw⟩ := T.c_draw
  obtain ⟨_, _, c_small⟩ := T.c_small
  obtain ⟨_, _, c_great⟩ := T.c_great
  refine fn_p (N := ["_law_pool_here"]) (OO := []) F sc_any (by decide) fun cdv A outer s H E p hr => ?_
  have hu := hr.r.units
  have hgu := hr.g
  exact (pss_oneD (psd_ret (pd_ifE (pt_eq rfl hu (pd_callP 0 rfl ⟨_, rfl⟩ (ok_draw T c_draw.F) (hr.mono (by decide)) c_draw.m c_draw.k c_draw.b (pad_cons (pd_int) pad_nil)).pb (pd_int).pb) (pd_callP 0 rfl ⟨_, rfl⟩ (ok_small T c_small.F) (hr.mono (by decide)) c_small.m c_small.k c_small.b pad_nil) (pd_callP 0 rfl ⟨_, rfl⟩ (ok_great T c_great.F) (hr.mono (by decide)) c_great.m c_great.k c_great.b pad_nil))))
/-! _law_wrong -/
theorem sc_wrong : FnScope ["_law_comes", "_law_goes", "_law_people", "_law_here", "_law_at", "_law_part"] ["_law_comes", "_law_goes"] (defScope s_wrong) := ⟨rfl, rfl, rfl, by decide +kernel, rfl, by decide +kernel, by decide +kernel⟩
def f_wrong : FS := (seqS (ifS (orT (notT (tst (un1 (isiD (tyK "tuple") (inst0 cs)) (nm 0)))) (orT (notT (tst (un1 (isiD (tyK "tuple") (inst0 cs)) (nm 1)))) (tstB (bin2 neD (callE lenD (consA (nm 0) nilA)) (callE lenD (consA (nm 1) nilA)))))) (retS (ofF (lstF (consA (fun _ S => R.ok (.non, S)) nilA)))) nxS)
  (seqS (ifS (notT (tstB (chn ltD ltD (fun _ S => R.ok (.int 0, S)) (callE lenD (consA (nm 0) nilA)) (fun _ S => R.ok (.int 61, S))))) (retS (ofF (lstF (consA (fun _ S => R.ok (.non, S)) nilA)))) nxS)
  (seqS (asgS (tupE (consA (fun _ S => R.ok (.int 0, S)) (consA (fun _ S => R.ok (.int 0, S)) nilA))) (tupG 2 (consG (nmG 2) (consG (nmG 3) nilG))))
  (seqS (forS (rngI rng1D (consA (callE lenD (consA (nm 0) nilA)) nilA)) (nmG 4) (seqS (forS (seqI itemsL (ofF (lstF (consA (bin2 idxD (nm 0) (nm 4)) (consA (bin2 idxD (nm 1) (nm 4)) nilA))))) (nmG 5) (ifS (orT (tst (un1 (isiD (tyK "bool") (inst0 cs)) (nm 5))) (orT (notT (tst (un1 (isiD (tyK "int") (inst0 cs)) (nm 5)))) (notT (tstB (chn leD leD (fun _ S => R.ok (.int 0, S)) (nm 5) (fun _ S => R.ok (.int 999, S))))))) (retS (ofF (lstF (consA (nm 4) nilA)))) nxS))
  (seqS (parS 2 3 (consA (bin2 addD (nm 2) (bin2 idxD (nm 0) (nm 4))) (consA (bin2 subD (bin2 addD (nm 3) (bin2 idxD (nm 0) (nm 4))) (bin2 idxD (nm 1) (nm 4))) nilA)))
  (ifS (orT (tstB (bin2 gtD (nm 2) (fun _ S => R.ok (.int 999, S)))) (tstB (bin2 ltD (nm 3) (fun _ S => R.ok (.int 0, S))))) (retS (ofF (lstF (consA (nm 4) nilA)))) nxS))))
  (retS (ofF (lstF nilA)))))))
abbrev F_wrong := runF 6 2 f_wrong
theorem ok_wrong {fA : Addr} {fd : FuncData} (T : Txt K mg base tb ca C xa) (F : Fun K "_law_wrong" "_law_wrong" s_wrong fA fd) : FnG Pg w K mg base 1 fA fd ["_law_comes", "_law_goes"] (spF K ca tb F_wrong) := by
  refine fn_d (N := ["_law_comes", "_law_goes", "_law_people", "_law_here", "_law_at", "_law_part"]) (OO := []) F sc_wrong fun cdv A outer s H E hr => ?_
  have hu := hr.r.units
  have hgu := hr.g
  exact (pss_consD (psd_if (PWd.pt (ptw_or (ptd_not (pt_tru rfl (pd_isB "tuple" (by decide) cs T.cs rfl (T.free _ (by decide +kernel)) (T.free _ (by decide +kernel)) (by decide +kernel) (pd_name 0).pb).pb)) (ptw_or (ptd_not (pt_tru rfl (pd_isB "tuple" (by decide) cs T.cs rfl (T.free _ (by decide +kernel)) (T.free _ (by decide +kernel)) (by decide +kernel) (pd_name 1).pb).pb)) (ptw_or1 (pt_ne rfl hu (pd_len rfl (T.free _ (by decide +kernel)) (pba_cons (pd_name 0).pb pba_nil)).pb (pd_len rfl (T.free _ (by decide +kernel)) (pba_cons (pd_name 1).pb pba_nil)).pb))))) (pss_oneD (psd_ret (pf_lst (pad_cons (pd_non) pad_nil)).pd)) pss_nilD)
    (pss_consD (psd_if (ptd_not (pt_chain1 op_lt op_lt op2_lt op2_lt (pd_int).pb (pd_len rfl (T.free _ (by decide +kernel)) (pba_cons (pd_name 0).pb pba_nil)).pb (pd_int).pb)) (pss_oneD (psd_ret (pf_lst (pad_cons (pd_non) pad_nil)).pd)) pss_nilD)
    (pss_consD (psd_asg (pd_tup (pad_cons (pd_int) (pad_cons (pd_int) pad_nil))) (pgd_tup rfl rfl (pgsd_cons (pgd_name 2 sc_wrong.nd notplN) (pgsd_cons (pgd_name 3 sc_wrong.nd notplN) pgsd_nil))))
    (pss_consD (psd_for PassesOwn.never rfl (pid_range1 (T.free _ (by decide +kernel)) (pad_cons (pd_len rfl (T.free _ (by decide +kernel)) (pba_cons (pd_name 0).pb pba_nil)) pad_nil)) (pgd_name 4 sc_wrong.nd notplN) (pss_consD (psd_for PassesOwn.never rfl (pid_list rfl (pf_lst (pad_cons (pd_idx rfl (pd_name 0).pb (pd_name 4)) (pad_cons (pd_idx rfl (pd_name 1).pb (pd_name 4)) pad_nil))).pd) (pgd_name 5 sc_wrong.nd notplN) (pss_oneD (psd_if (PWd.pt (ptw_or (pt_tru rfl (pd_isB "bool" (by decide) cs T.cs rfl (T.free _ (by decide +kernel)) (T.free _ (by decide +kernel)) boot_bool (pd_name 5).pb).pb) (ptw_or (ptd_not (pt_tru rfl (pd_isB "int" (by decide) cs T.cs rfl (T.free _ (by decide +kernel)) (T.free _ (by decide +kernel)) boot_int (pd_name 5).pb).pb)) (ptw_or1 (ptd_not (pt_chain1 op_le op_le op2_le op2_le (pd_int).pb (pd_name 5).pb (pd_int).pb)))))) (pss_oneD (psd_ret (pf_lst (pad_cons (pd_name 4) pad_nil)).pd)) pss_nilD)))
    (pss_consD (psd_par 2 3 rfl sc_wrong.nd notplN notplN (pad_cons (pd_add rfl (pd_name 2).pb (pd_idx rfl (pd_name 0).pb (pd_name 4)).pb) (pad_cons (pd_sub (pd_add rfl (pd_name 3).pb (pd_idx rfl (pd_name 0).pb (pd_name 4)).pb).pb (pd_idx rfl (pd_name 1).pb (pd_name 4)).pb) pad_nil)))
    (pss_oneD (psd_if (PWd.pt (ptw_or (pt_gt (pd_name 2).pb (pd_int).pb) (ptw_or1 (pt_lt (pd_name 3).pb (pd_int).pb)))) (pss_oneD (psd_ret (pf_lst (pad_cons (pd_name 4) pad_nil)).pd)) pss_nilD)))))
    (pss_oneD (psd_ret (pf_lst pad_nil).pd))))))
/-! _law_written -/
theorem sc_written : FnScope ["_law_comes", "_law_goes", "_law_k"] ["_law_comes", "_law_goes"] (defScope s_written) := ⟨rfl, rfl, rfl, by decide +kernel, rfl, by decide +kernel, by decide +kernel⟩
def f_written : FS := (retS (mthE "str" joinD (fun _ S => R.ok (.str " ", S)) (consA (ofF (lcE [2] (rngI rng1D (consA (callE lenD (consA (nm 0) nilA)) nilA)) (nmG 2) yesT (bin2 addD (bin2 addD (callE strD (consA (bin2 idxD (nm 0) (nm 2)) nilA)) (fun _ S => R.ok (.str "/", S))) (callE strD (consA (bin2 idxD (nm 1) (nm 2)) nilA))))) nilA)))
abbrev F_written := runF 3 2 f_written
theorem ok_written {fA : Addr} {fd : FuncData} (T : Txt K mg base tb ca C xa) (F : Fun K "_law_written" "_law_written" s_written fA fd) : FnG Pg w K mg base 1 fA fd ["_law_comes", "_law_goes"] (spF K ca tb F_written) := by
  refine fn_d (N := ["_law_comes", "_law_goes", "_law_k"]) (OO := []) F sc_written fun cdv A outer s H E hr => ?_
  have hu := hr.r.units
  have hgu := hr.g
  exact (pss_oneD (psd_ret (pd_join rfl (pd_str).pb (pba_cons (pf_lc (vs := []) (own := [("_law_k", 2)]) rfl sc_written.nd (pid_range1 (T.free _ (by decide +kernel)) (pad_cons (pd_len rfl (T.free _ (by decide +kernel)) (pba_cons (pd_name 0).pb pba_nil)) pad_nil)) (blkOk_by (by rfl)) (fun _ _ _ _ _ => (pgd_name 2 sc_written.nd notplN)) (fun _ _ _ _ _ => pts_nil) evT_yes (fun _ _ _ _ _ => (pd_add rfl (pd_add rfl (pd_str1 (T.free _ (by decide +kernel)) (pba_cons (pd_idx rfl (pd_name 0).pb (pd_name 2)).pb pba_nil)).pb (pd_str).pb).pb (pd_str1 (T.free _ (by decide +kernel)) (pba_cons (pd_idx rfl (pd_name 1).pb (pd_name 2)).pb pba_nil)).pb)) (fun _ _ => notplN)).pd.pb pba_nil))))
/-! _law_field -/
theorem sc_field : FnScope ["_law_e", "_law_at"] ["_law_e", "_law_at"] (defScope s_field) := ⟨rfl, rfl, rfl, by decide +kernel, rfl, by decide +kernel, by decide +kernel⟩
def f_field : FS := (seqS (ifS (tstB (bin2 eqD (nm 1) (fun _ S => R.ok (.int 12, S)))) (retS (ofF (lstF (consA (un1 (xfD xc_word "word") (nm 0)) (consA (un1 (xfD xc_tick "tick") (nm 0)) nilA))))) nxS)
  (retS (ifE (tstB (bin2 eqD (nm 1) (fun _ S => R.ok (.int 7, S)))) (un1 (xfD xc_name "name") (nm 0)) (ifE (tstB (bin2 eqD (nm 1) (fun _ S => R.ok (.int 8, S)))) (un1 (xfD xc_length "length") (nm 0)) (un1 (xfD xc_limit "limit") (nm 0))))))
abbrev F_field := runF 2 2 f_field
theorem ok_field {fA : Addr} {fd : FuncData} (T : Txt K mg base tb ca C xa) (F : Fun K "_law_field" "_law_field" s_field fA fd) : FnA Pg w K mg base 1 fA fd ["_law_e", "_law_at"] (spF K ca tb F_field) := by
  refine fn_a (N := ["_law_e", "_law_at"]) (OO := []) F sc_field fun cdv A outer s H E hr => ?_
  have hu := hr.units
  have hgu := hr.g
  exact (pss_consD (psd_if (pt_eq rfl hu (pd_name 1).pb (pd_int).pb) (pss_oneD (psd_ret (pf_lst (pad_cons (pd_xf rfl T.xf_word (pd_name 0)) (pad_cons (pd_xf rfl T.xf_tick (pd_name 0)) pad_nil))).pd)) pss_nilD)
    (pss_oneD (psd_ret (pd_ifE (pt_eq rfl hu (pd_name 1).pb (pd_int).pb) (pd_xf rfl T.xf_name (pd_name 0)) (pd_ifE (pt_eq rfl hu (pd_name 1).pb (pd_int).pb) (pd_xf rfl T.xf_length (pd_name 0)) (pd_xf rfl T.xf_limit (pd_name 0)))))))
/-! _law_caught -/
theorem sc_caught : FnScope ["_law_act", "_law_told", "_law_e", "_law_at"] ["_law_act"] (defScope s_caught) := ⟨rfl, rfl, rfl, by decide +kernel, rfl, by decide +kernel, by decide +kernel⟩
def f_caught : R D → FS := fun r => (seqS (tryT 2 1 ct_CountError_SearchError_LimitError r (seqS (asgS (callD F_error [] (consA (nm 2) nilA)) (nmG 3))
  (seqS (ifS (tstB (bin2 (inF false) (nm 3) (ofF (lstF (consA (fun _ S => R.ok (.int 0, S)) (consA (fun _ S => R.ok (.int 2, S)) nilA)))))) (retS (ofF (lstF (consA (nm 3) (consA (callE reprXL (consA (un1 (xfD xc_tick "tick") (nm 2)) nilA)) nilA))))) nxS)
  (seqS (ifS (tstB (bin2 (inF false) (nm 3) (ofF (lstF (consA (fun _ S => R.ok (.int 1, S)) (consA (fun _ S => R.ok (.int 3, S)) (consA (fun _ S => R.ok (.int 4, S)) (consA (fun _ S => R.ok (.int 5, S)) nilA)))))))) (retS (ofF (lstF (consA (nm 3) (consA (callE reprXL (consA (ifE (tstB (bin2 eqD (nm 3) (fun _ S => R.ok (.int 1, S)))) (ofF (lstF (consA (un1 (xfD xc_value "value") (nm 2)) nilA))) (ifE (tstB (bin2 eqD (nm 3) (fun _ S => R.ok (.int 3, S)))) (ofF (lstF (consA (un1 (xfD xc_number "number") (nm 2)) nilA))) (ifE (tstB (bin2 eqD (nm 3) (fun _ S => R.ok (.int 4, S)))) (ofF (lstF (consA (un1 (xfD xc_text "text") (nm 2)) nilA))) (ofF (lstF (consA (un1 (xfD xc_index "index") (nm 2)) nilA)))))) nilA)) nilA))))) nxS)
  (seqS (ifS (tstB (bin2 (inF false) (nm 3) (ofF (lstF (consA (fun _ S => R.ok (.int 7, S)) (consA (fun _ S => R.ok (.int 8, S)) (consA (fun _ S => R.ok (.int 12, S)) (consA (fun _ S => R.ok (.int 16, S)) nilA)))))))) (retS (ofF (lstF (consA (nm 3) (consA (callE reprXL (consA (callD F_field [] (consA (nm 2) (consA (nm 3) nilA))) nilA)) nilA))))) nxS)
  (retS (ofF (lstF (consA (nm 3) (consA (fun _ S => R.ok (.str "", S)) nilA))))))))))
  (retS (ofF (lstF (consA (fun _ S => R.ok (.str "told", S)) (consA (bin2 addD (bin2 addD (bin2 addD (strC "Counts" F_str (nm 1)) (fun _ S => R.ok (.str " ", S))) (callE strX (consA (propD "Counts" F_pre (nm 1)) nilA))) (callE strD (consA (propD "Counts" F_peo (nm 1)) nilA))) nilA))))))
abbrev F_caught := runT 4 f_caught
theorem ok_caught {fA : Addr} {fd : FuncData} (T : Txt K mg base tb ca C xa) (F : Fun K "_law_caught" "_law_caught" s_caught fA fd) : FnT Pg w K mg base 3 fA fd "_law_act" ca tb F_caught := by
  obtain ⟨_, _, c_error⟩ := T.c_error
  obtain ⟨_, _, c_field⟩ := T.c_field
  obtain ⟨_, _, c_str⟩ := T.c_str
  obtain ⟨_, _, c_pre⟩ := T.c_pre
  obtain ⟨_, _, c_peo⟩ := T.c_peo
  refine fn_t (N := ["_law_act", "_law_told", "_law_e", "_law_at"]) (OO := []) F sc_caught (fun _ => rfl) (fun _ => rfl) fun m cdv A outer s H f B0 r s0 hrm hr h0 act => ?_
  have hu := hr.r.units
  have hgu := hr.g
  exact pssb_cons (psdb_tryAct 2 1 act hrm rfl rfl rfl sc_caught.nd rfl rfl rfl rfl rfl (Or.inl rfl) (by decide) (by decide) h0 (ctest_three rfl rfl rfl T.mx_CountError T.mx_SearchError T.mx_LimitError (by decide) (by decide) (by decide)) T.ct_CountError_SearchError_LimitError (by decide) (by decide) rfl
    (fun ea pn => (pss_consD (psd_set 3 sc_caught.nd (notplK (by decide)) (pd_callA (ok_error T c_error.F) ((hr.mono (by decide)).hot _) c_error.m c_error.k c_error.b .nil (fun _ => .nil) (pad_cons (pd_name 2) pad_nil)))
    (pss_consD (psd_if (pt_in rfl (pd_name 3).pb (pf_lst (pad_cons (pd_int) (pad_cons (pd_int) pad_nil))).pd.pb) (pss_oneD (psd_ret (pf_lst (pad_cons (pd_name 3) (pad_cons (pd_reprX rfl hu hgu (T.free _ (by decide +kernel)) (pba_cons (pd_xf rfl T.xf_tick (pd_name 2)).pb pba_nil)) pad_nil))).pd)) pss_nilD)
    (pss_consD (psd_if (pt_in rfl (pd_name 3).pb (pf_lst (pad_cons (pd_int) (pad_cons (pd_int) (pad_cons (pd_int) (pad_cons (pd_int) pad_nil))))).pd.pb) (pss_oneD (psd_ret (pf_lst (pad_cons (pd_name 3) (pad_cons (pd_reprX rfl hu hgu (T.free _ (by decide +kernel)) (pba_cons (pd_ifE (pt_eq rfl hu (pd_name 3).pb (pd_int).pb) (pf_lst (pad_cons (pd_xf rfl T.xf_value (pd_name 2)) pad_nil)).pd (pd_ifE (pt_eq rfl hu (pd_name 3).pb (pd_int).pb) (pf_lst (pad_cons (pd_xf rfl T.xf_number (pd_name 2)) pad_nil)).pd (pd_ifE (pt_eq rfl hu (pd_name 3).pb (pd_int).pb) (pf_lst (pad_cons (pd_xf rfl T.xf_text (pd_name 2)) pad_nil)).pd (pf_lst (pad_cons (pd_xf rfl T.xf_index (pd_name 2)) pad_nil)).pd))).pb pba_nil)) pad_nil))).pd)) pss_nilD)
    (pss_consD (psd_if (pt_in rfl (pd_name 3).pb (pf_lst (pad_cons (pd_int) (pad_cons (pd_int) (pad_cons (pd_int) (pad_cons (pd_int) pad_nil))))).pd.pb) (pss_oneD (psd_ret (pf_lst (pad_cons (pd_name 3) (pad_cons (pd_reprX rfl hu hgu (T.free _ (by decide +kernel)) (pba_cons (pd_callA (ok_field T c_field.F) ((hr.mono (by decide)).hot _) c_field.m c_field.k c_field.b .nil (fun _ => .nil) (pad_cons (pd_name 2) (pad_cons (pd_name 3) pad_nil))).pb pba_nil)) pad_nil))).pd)) pss_nilD)
    (pss_oneD (psd_ret (pf_lst (pad_cons (pd_name 3) (pad_cons (pd_str) pad_nil))).pd))))))))
    (pss_oneD (psd_ret (pf_lst (pad_cons (pd_str) (pad_cons (pd_add rfl (pd_add rfl (pd_add rfl (pd_strC (T.free _ (by decide +kernel)) T.caC c_str.at_ c_str.fn (ok_str T c_str.F) (hr.mono (by decide)) c_str.b (pd_name 1)).pb (pd_str).pb).pb (pd_strX rfl hu hgu (T.free _ (by decide +kernel)) (pba_cons (pd_prop T.caC T.clC c_pre.p.choose_spec (ok_pre T c_pre.F) (hr.mono (by decide)) c_pre.b (pd_name 1)).pb pba_nil)).pb).pb (pd_str1 (T.free _ (by decide +kernel)) (pba_cons (pd_prop T.caC T.clC c_peo.p.choose_spec (ok_peo T c_peo.F) (hr.mono (by decide)) c_peo.b (pd_name 1)).pb pba_nil)).pb) pad_nil))).pd))
/-! _law_is_number -/
theorem sc_isn : FnScope ["_law_thing_here"] ["_law_thing_here"] (defScope s_isn) := ⟨rfl, rfl, rfl, by decide +kernel, rfl, by decide +kernel, by decide +kernel⟩
def f_isn : FS := (retS (andV (un1 (isiD (tyK "int") (inst0 cs)) (nm 0)) (andV (notV (un1 (isiD (tyK "bool") (inst0 cs)) (nm 0))) (chn leD leD (fun _ S => R.ok (.int 0, S)) (nm 0) (fun _ S => R.ok (.int 999, S))))))
abbrev F_isn := runF 1 1 f_isn
theorem ok_isn {fA : Addr} {fd : FuncData} (T : Txt K mg base tb ca C xa) (F : Fun K "_law_is_number" "_law_is_number" s_isn fA fd) : FnG Pg w K mg base 1 fA fd ["_law_thing_here"] (spF K ca tb F_isn) := by
  refine fn_d (N := ["_law_thing_here"]) (OO := []) F sc_isn fun cdv A outer s H E hr => ?_
  have hu := hr.r.units
  have hgu := hr.g
  exact (pss_oneD (psd_ret ((pd_and rfl (pd_isB "int" (by decide) cs T.cs rfl (T.free _ (by decide +kernel)) (T.free _ (by decide +kernel)) boot_int (pd_name 0).pb) (pd_and rfl (pd_not rfl (pd_isB "bool" (by decide) cs T.cs rfl (T.free _ (by decide +kernel)) (T.free _ (by decide +kernel)) boot_bool (pd_name 0).pb).pb) (pd_one (pd_chain op_le op_le op2_le op2_le (pd_int).pb (pd_name 0).pb (pd_int).pb)))))))
/-! _law_shown -/
theorem sc_shown : FnScope ["_law_comes", "_law_goes"] ["_law_comes", "_law_goes"] (defScope s_shown) := ⟨rfl, rfl, rfl, by decide +kernel, rfl, by decide +kernel, by decide +kernel⟩
def f_shown : FS := (retS (bin2 addD (bin2 addD (bin2 addD (callD F_written [] (consA (nm 0) (consA (nm 1) nilA))) (fun _ S => R.ok (.str " ", S))) (callE strX (consA (callE tupD (consA (ofF (callN F_rest [] (consA (nm 0) (consA (nm 1) nilA)))) nilA)) nilA))) (callE strD (consA (callE sumA (consA (nm 0) nilA)) nilA))))
abbrev F_shown := runF 2 2 f_shown
theorem ok_shown {fA : Addr} {fd : FuncData} (T : Txt K mg base tb ca C xa) (F : Fun K "_law_shown" "_law_shown" s_shown fA fd) : FnG Pg w K mg base 2 fA fd ["_law_comes", "_law_goes"] (spF K ca tb F_shown) := by
  obtain ⟨_, _, c_written⟩ := T.c_written
  obtain ⟨_, _, c_rest⟩ := T.c_rest
  refine fn_d (N := ["_law_comes", "_law_goes"]) (OO := []) F sc_shown fun cdv A outer s H E hr => ?_
  have hu := hr.r.units
  have hgu := hr.g
  exact (pss_oneD (psd_ret (pd_add rfl (pd_add rfl (pd_add rfl (pd_call (ok_written T c_written.F) (hr.mono (by decide)) c_written.m c_written.k c_written.b .nil (fun _ => .nil) (pad_cons (pd_name 0) (pad_cons (pd_name 1) pad_nil))).pb (pd_str).pb).pb (pd_strX rfl hu hgu (T.free _ (by decide +kernel)) (pba_cons (pd_tuple rfl (T.free _ (by decide +kernel)) (pba_cons (pf_call (ok_rest T c_rest.F) (hr.mono (by decide)) c_rest.m c_rest.k c_rest.b .nil (fun _ => .nil) (pad_cons (pd_name 0) (pad_cons (pd_name 1) pad_nil))).pd.pb pba_nil)).pb pba_nil)).pb).pb (pd_str1 (T.free _ (by decide +kernel)) (pba_cons (pd_sumA rfl rfl (T.free _ (by decide +kernel)) (pba_cons (pd_name 0).pb pba_nil)).pb pba_nil)).pb)))
/-! _law_made -/
theorem sc_made : FnScope ["_law_comes", "_law_goes", "_law_fault"] ["_law_comes", "_law_goes"] (defScope s_made) := ⟨rfl, rfl, rfl, by decide +kernel, rfl, by decide +kernel, by decide +kernel⟩
def f_made : FS := (seqS (asgS (callD F_wrong [] (consA (nm 0) (consA (nm 1) nilA))) (nmG 2))
  (retS (ifE (tstB (bin2 neD (nm 2) (ofF (lstF nilA)))) (ofF (lstF (consA (fun _ S => R.ok (.int 0, S)) (consA (callE reprXL (consA (bin2 idxD (nm 2) (fun _ S => R.ok (.int 0, S))) nilA)) nilA)))) (ofF (lstF (consA (fun _ S => R.ok (.str "told", S)) (consA (callD F_shown [] (consA (nm 0) (consA (nm 1) nilA))) nilA)))))))
abbrev F_made := runF 3 2 f_made
theorem ok_made {fA : Addr} {fd : FuncData} (T : Txt K mg base tb ca C xa) (F : Fun K "_law_made" "_law_made" s_made fA fd) : FnG Pg w K mg base 3 fA fd ["_law_comes", "_law_goes"] (spF K ca tb F_made) := by
  obtain ⟨_, _, c_wrong⟩ := T.c_wrong
  obtain ⟨_, _, c_shown⟩ := T.c_shown
  refine fn_d (N := ["_law_comes", "_law_goes", "_law_fault"]) (OO := []) F sc_made fun cdv A outer s H E hr => ?_
  have hu := hr.r.units
  have hgu := hr.g
  exact (pss_consD (psd_set 2 sc_made.nd notplN (pd_call (ok_wrong T c_wrong.F) (hr.mono (by decide)) c_wrong.m c_wrong.k c_wrong.b .nil (fun _ => .nil) (pad_cons (pd_name 0) (pad_cons (pd_name 1) pad_nil))))
    (pss_oneD (psd_ret (pd_ifE (pt_ne rfl hu (pd_name 2).pb (pf_lst pad_nil).pd.pb) (pf_lst (pad_cons (pd_int) (pad_cons (pd_reprX rfl hu hgu (T.free _ (by decide +kernel)) (pba_cons (pd_idx rfl (pd_name 2).pb (pd_int)).pb pba_nil)) pad_nil))).pd (pf_lst (pad_cons (pd_str) (pad_cons (pd_call (ok_shown T c_shown.F) (hr.mono (by decide)) c_shown.m c_shown.k c_shown.b .nil (fun _ => .nil) (pad_cons (pd_name 0) (pad_cons (pd_name 1) pad_nil))) pad_nil))).pd))))
/-! _law_changed_due -/
theorem sc_chd : FnScope ["_law_comes", "_law_goes", "_law_at", "_law_new", "_law_gone", "_law_thing_here"] ["_law_comes", "_law_goes", "_law_at", "_law_new", "_law_gone"] (defScope s_chd) := ⟨rfl, rfl, rfl, by decide +kernel, rfl, by decide +kernel, by decide +kernel⟩
def f_chd : FS := (seqS (ifS (orT (notT (tst (un1 (isiD (tyK "int") (inst0 cs)) (nm 2)))) (orT (tst (un1 (isiD (tyK "bool") (inst0 cs)) (nm 2))) (notT (tstB (chn leD ltD (fun _ S => R.ok (.int 0, S)) (nm 2) (callE lenD (consA (nm 0) nilA))))))) (retS (ofF (lstF (consA (fun _ S => R.ok (.int 2, S)) (consA (callE reprXL (consA (nm 2) nilA)) nilA))))) nxS)
  (seqS (forS (seqI itemsL (ofF (lstF (consA (nm 3) (consA (nm 4) nilA))))) (nmG 5) (ifS (andT (tstB (bin2 isNotD (nm 5) (fun _ S => R.ok (.non, S)))) (notT (tst (callD F_isn [] (consA (nm 5) nilA))))) (retS (ofF (lstF (consA (fun _ S => R.ok (.int 3, S)) (consA (callE reprXL (consA (ofF (lstF (consA (nm 5) nilA))) nilA)) nilA))))) nxS))
  (seqS (asgS (ifE (tstB (bin2 isD (nm 3) (fun _ S => R.ok (.non, S)))) (bin2 idxD (nm 0) (nm 2)) (nm 3)) (nmG 3))
  (seqS (asgS (ifE (tstB (bin2 isD (nm 4) (fun _ S => R.ok (.non, S)))) (bin2 idxD (nm 1) (nm 2)) (nm 4)) (nmG 4))
  (retS (callD F_made [] (consA (bin2 addD (bin2 addD (slcE (nm 0) noneO (someO (nm 2))) (tupE (consA (nm 3) nilA))) (slcE (nm 0) (someO (bin2 addD (nm 2) (fun _ S => R.ok (.int 1, S)))) noneO)) (consA (bin2 addD (bin2 addD (slcE (nm 1) noneO (someO (nm 2))) (tupE (consA (nm 4) nilA))) (slcE (nm 1) (someO (bin2 addD (nm 2) (fun _ S => R.ok (.int 1, S)))) noneO)) nilA))))))))
abbrev F_chd := runF 6 5 f_chd
theorem ok_chd {fA : Addr} {fd : FuncData} (T : Txt K mg base tb ca C xa) (F : Fun K "_law_changed_due" "_law_changed_due" s_chd fA fd) : FnG Pg w K mg base 4 fA fd ["_law_comes", "_law_goes", "_law_at", "_law_new", "_law_gone"] (spF K ca tb F_chd) := by
  obtain ⟨_, _, c_isn⟩ := T.c_isn
  obtain ⟨_, _, c_made⟩ := T.c_made
  refine fn_d (N := ["_law_comes", "_law_goes", "_law_at", "_law_new", "_law_gone", "_law_thing_here"]) (OO := []) F sc_chd fun cdv A outer s H E hr => ?_
  have hu := hr.r.units
  have hgu := hr.g
  exact (pss_consD (psd_if (PWd.pt (ptw_or (ptd_not (pt_tru rfl (pd_isB "int" (by decide) cs T.cs rfl (T.free _ (by decide +kernel)) (T.free _ (by decide +kernel)) boot_int (pd_name 2).pb).pb)) (ptw_or (pt_tru rfl (pd_isB "bool" (by decide) cs T.cs rfl (T.free _ (by decide +kernel)) (T.free _ (by decide +kernel)) boot_bool (pd_name 2).pb).pb) (ptw_or1 (ptd_not (pt_chain1 op_le op_lt op2_le op2_lt (pd_int).pb (pd_name 2).pb (pd_len rfl (T.free _ (by decide +kernel)) (pba_cons (pd_name 0).pb pba_nil)).pb)))))) (pss_oneD (psd_ret (pf_lst (pad_cons (pd_int) (pad_cons (pd_reprX rfl hu hgu (T.free _ (by decide +kernel)) (pba_cons (pd_name 2).pb pba_nil)) pad_nil))).pd)) pss_nilD)
    (pss_consD (psd_for PassesOwn.never rfl (pid_list rfl (pf_lst (pad_cons (pd_name 3) (pad_cons (pd_name 4) pad_nil))).pd) (pgd_name 5 sc_chd.nd notplN) (pss_oneD (psd_if (PWd.pt (ptw_and (pt_isNot (pd_name 5).pb (pd_non).pb) (ptw_and1 (ptd_not (pt_tru rfl (pd_call (ok_isn T c_isn.F) (hr.mono (by decide)) c_isn.m c_isn.k c_isn.b .nil (fun _ => .nil) (pad_cons (pd_name 5) pad_nil)).pb))))) (pss_oneD (psd_ret (pf_lst (pad_cons (pd_int) (pad_cons (pd_reprX rfl hu hgu (T.free _ (by decide +kernel)) (pba_cons (pf_lst (pad_cons (pd_name 5) pad_nil)).pd.pb pba_nil)) pad_nil))).pd)) pss_nilD)))
    (pss_consD (psd_set 3 sc_chd.nd notplN (pd_ifE (pt_is (pd_name 3).pb (pd_non).pb) (pd_idx rfl (pd_name 0).pb (pd_name 2)) (pd_name 3)))
    (pss_consD (psd_set 4 sc_chd.nd notplN (pd_ifE (pt_is (pd_name 4).pb (pd_non).pb) (pd_idx rfl (pd_name 1).pb (pd_name 2)) (pd_name 4)))
    (pss_oneD (psd_ret (pd_call (ok_made T c_made.F) (hr.mono (by decide)) c_made.m c_made.k c_made.b .nil (fun _ => .nil) (pad_cons (pd_add rfl (pd_add rfl (pd_slc rfl (pd_name 0).pb pod_none (pod_some (pd_name 2))).pb (pd_tup (pad_cons (pd_name 3) pad_nil)).pb).pb (pd_slc rfl (pd_name 0).pb (pod_some (pd_add rfl (pd_name 2).pb (pd_int).pb)) pod_none).pb) (pad_cons (pd_add rfl (pd_add rfl (pd_slc rfl (pd_name 1).pb pod_none (pod_some (pd_name 2))).pb (pd_tup (pad_cons (pd_name 4) pad_nil)).pb).pb (pd_slc rfl (pd_name 1).pb (pod_some (pd_add rfl (pd_name 2).pb (pd_int).pb)) pod_none).pb) pad_nil)))))))))
/-! _law_extended_due -/
theorem sc_exdu : FnScope ["_law_comes", "_law_goes", "_law_new", "_law_gone", "_law_thing_here"] ["_law_comes", "_law_goes", "_law_new", "_law_gone"] (defScope s_exdu) := ⟨rfl, rfl, rfl, by decide +kernel, rfl, by decide +kernel, by decide +kernel⟩
def f_exdu : FS := (seqS (forS (seqI itemsL (ofF (lstF (consA (nm 2) (consA (nm 3) nilA))))) (nmG 4) (ifS (notT (tst (callD F_isn [] (consA (nm 4) nilA)))) (retS (ofF (lstF (consA (fun _ S => R.ok (.int 3, S)) (consA (callE reprXL (consA (ofF (lstF (consA (nm 4) nilA))) nilA)) nilA))))) nxS))
  (retS (ifE (tstB (bin2 eqD (callE lenD (consA (nm 0) nilA)) (fun _ S => R.ok (.int 60, S)))) (ofF (lstF (consA (fun _ S => R.ok (.int 16, S)) (consA (fun _ S => R.ok (.str "60", S)) nilA)))) (callD F_made [] (consA (bin2 addD (nm 0) (tupE (consA (nm 2) nilA))) (consA (bin2 addD (nm 1) (tupE (consA (nm 3) nilA))) nilA))))))
abbrev F_exdu := runF 5 4 f_exdu
theorem ok_exdu {fA : Addr} {fd : FuncData} (T : Txt K mg base tb ca C xa) (F : Fun K "_law_extended_due" "_law_extended_due" s_exdu fA fd) : FnG Pg w K mg base 4 fA fd ["_law_comes", "_law_goes", "_law_new", "_law_gone"] (spF K ca tb F_exdu) := by
  obtain ⟨_, _, c_isn⟩ := T.c_isn
  obtain ⟨_, _, c_made⟩ := T.c_made
  refine fn_d (N := ["_law_comes", "_law_goes", "_law_new", "_law_gone", "_law_thing_here"]) (OO := []) F sc_exdu fun cdv A outer s H E hr => ?_
  have hu := hr.r.units
  have hgu := hr.g
  exact (pss_consD (psd_for PassesOwn.never rfl (pid_list rfl (pf_lst (pad_cons (pd_name 2) (pad_cons (pd_name 3) pad_nil))).pd) (pgd_name 4 sc_exdu.nd notplN) (pss_oneD (psd_if (ptd_not (pt_tru rfl (pd_call (ok_isn T c_isn.F) (hr.mono (by decide)) c_isn.m c_isn.k c_isn.b .nil (fun _ => .nil) (pad_cons (pd_name 4) pad_nil)).pb)) (pss_oneD (psd_ret (pf_lst (pad_cons (pd_int) (pad_cons (pd_reprX rfl hu hgu (T.free _ (by decide +kernel)) (pba_cons (pf_lst (pad_cons (pd_name 4) pad_nil)).pd.pb pba_nil)) pad_nil))).pd)) pss_nilD)))
    (pss_oneD (psd_ret (pd_ifE (pt_eq rfl hu (pd_len rfl (T.free _ (by decide +kernel)) (pba_cons (pd_name 0).pb pba_nil)).pb (pd_int).pb) (pf_lst (pad_cons (pd_int) (pad_cons (pd_str) pad_nil))).pd (pd_call (ok_made T c_made.F) (hr.mono (by decide)) c_made.m c_made.k c_made.b .nil (fun _ => .nil) (pad_cons (pd_add rfl (pd_name 0).pb (pd_tup (pad_cons (pd_name 2) pad_nil)).pb) (pad_cons (pd_add rfl (pd_name 1).pb (pd_tup (pad_cons (pd_name 3) pad_nil)).pb) pad_nil)))))))
/-! _law_thing -/
theorem sc_thing : FnScope ["_law_pool_here", "_law_here", "_law_odd"] ["_law_pool_here", "_law_here"] (defScope s_thing) := ⟨rfl, rfl, rfl, by decide +kernel, rfl, by decide +kernel, by decide +kernel⟩
def f_thing : FS := (seqS (asgS (ofF (lstF (consA (fun _ S => R.ok (.non, S)) (consA (fun _ S => R.ok (.non, S)) (consA (fun _ S => R.ok (.int 0, S)) (consA (nm 1) (consA (bin2 addD (nm 1) (fun _ S => R.ok (.int 1, S))) (consA (fun _ S => R.ok (.int 1, S)) (consA (fun _ S => R.ok (.int 999, S)) (consA (fun _ S => R.ok (.int 1000, S)) (consA (un1 negD (fun _ S => R.ok (.int 1, S))) (consA (fun _ S => R.ok (.bl true, S)) (consA (fun _ S => R.ok (.str "1", S)) (consA (tupE (consA (fun _ S => R.ok (.int 1, S)) nilA)) (consA (ofF (lstF (consA (fun _ S => R.ok (.int 1, S)) nilA))) (consA (fun _ S => R.ok (.non, S)) (consA (bin2 powD (fun _ S => R.ok (.int 10, S)) (fun _ S => R.ok (.int 20, S))) (consA (fun _ S => R.ok (.bl false, S)) nilA)))))))))))))))))) (nmG 2))
  (retS (ifE (tstB (bin2 eqD (callP F_draw (consA (fun _ S => R.ok (.int 2, S)) nilA)) (fun _ S => R.ok (.int 0, S)))) (bin2 idxD (nm 2) (callP F_draw (consA (fun _ S => R.ok (.int 16, S)) nilA))) (callP F_draw (consA (bin2 addD (nm 1) (fun _ S => R.ok (.int 3, S))) nilA)))))
abbrev F_thing := runP 3 2 f_thing
theorem ok_thing {fA : Addr} {fd : FuncData} (T : Txt K mg base tb ca C xa) (F : Fun K "_law_thing" "_law_thing" s_thing fA fd) : FnG Pg w K mg base 2 fA fd ["_law_pool_here", "_law_here"] (spP K ca tb F_thing) := by
  obtain ⟨_, _, c_draw⟩ := T.c_draw
  refine fn_p (N := ["_law_pool_here", "_law_here", "_law_odd"]) (OO := []) F sc_thing (by decide) fun cdv A outer s H E p hr => ?_
  have hu := hr.r.units
  have hgu := hr.g
  exact (pss_consD (psd_set 2 sc_thing.nd (notpl0 (by decide)) (pf_lst (pad_cons (pd_non) (pad_cons (pd_non) (pad_cons (pd_int) (pad_cons (pd_name 1) (pad_cons (pd_add rfl (pd_name 1).pb (pd_int).pb) (pad_cons (pd_int) (pad_cons (pd_int) (pad_cons (pd_int) (pad_cons (pd_neg (pd_int).pb) (pad_cons (pd_bl) (pad_cons (pd_str) (pad_cons (pd_tup (pad_cons (pd_int) pad_nil)) (pad_cons (pf_lst (pad_cons (pd_int) pad_nil)).pd (pad_cons (pd_non) (pad_cons (pd_pow (pd_int).pb (pd_int).pb) (pad_cons (pd_bl) pad_nil))))))))))))))))).pd)
    (pss_oneD (psd_ret (pd_ifE (pt_eq rfl hu (pd_callP 0 rfl ⟨_, rfl⟩ (ok_draw T c_draw.F) (hr.mono (by decide)) c_draw.m c_draw.k c_draw.b (pad_cons (pd_int) pad_nil)).pb (pd_int).pb) (pd_idx rfl (pd_name 2).pb (pd_callP 0 rfl ⟨_, rfl⟩ (ok_draw T c_draw.F) (hr.mono (by decide)) c_draw.m c_draw.k c_draw.b (pad_cons (pd_int) pad_nil))) (pd_callP 0 rfl ⟨_, rfl⟩ (ok_draw T c_draw.F) (hr.mono (by decide)) c_draw.m c_draw.k c_draw.b (pad_cons (pd_add rfl (pd_name 1).pb (pd_int).pb) pad_nil))))))
/-! _law_turn_right -/
theorem sc_turn : FnScope ["_law_pool_here", "_law_log", "_law_comes", "_law_goes", "_law_at", "_law_here", "_law_new", "_law_gone", "_law_due"] ["_law_pool_here", "_law_log"] (defScope s_turn) := ⟨rfl, rfl, rfl, by decide +kernel, rfl, by decide +kernel, by decide +kernel⟩
def f_turn : FS := (seqS (parS 2 3 (consA (un1 (fldD "Counts" "arrivals") (nm 1)) (consA (un1 (fldD "Counts" "departures") (nm 1)) nilA)))
  (seqS (asgS (bin2 idxD (ofF (bin2F catF (ofF (bin2F repF (ofF (lstF (consA (callP F_draw (consA (callE lenD (consA (nm 2) nilA)) nilA)) nilA))) (fun _ S => R.ok (.int 6, S)))) (ofF (lstF (consA (un1 negD (fun _ S => R.ok (.int 1, S))) (consA (callE lenD (consA (nm 2) nilA)) (consA (fun _ S => R.ok (.non, S)) (consA (fun _ S => R.ok (.bl true, S)) (consA (fun _ S => R.ok (.str "0", S)) (consA (fun _ S => R.ok (.int 60, S)) nilA)))))))))) (callP F_draw (consA (fun _ S => R.ok (.int 12, S)) nilA))) (nmG 4))
  (seqS (asgS (ifE (tst (un1 (isiD (tyK "int") (inst0 cs)) (nm 4))) (bin2 idxD (nm 2) (bin2 modDx (nm 4) (callE lenD (consA (nm 2) nilA)))) (fun _ S => R.ok (.int 3, S))) (nmG 5))
  (seqS (asgS (tupE (consA (callP F_thing (consA (nm 5) nilA)) (consA (callP F_thing (consA (nm 5) nilA)) nilA))) (tupG 2 (consG (nmG 6) (consG (nmG 7) nilG))))
  (seqS (asgS (callD F_chd [] (consA (nm 2) (consA (nm 3) (consA (nm 4) (consA (nm 6) (consA (nm 7) nilA)))))) (nmG 8))
  (seqS (ifS (tstB (bin2 neD (lamE [0] F_caught (mthN "Counts" "changed" F_cha 2 2 [0, 1, 3, 2] [] (nm 1) (consA (nm 4) nilA) (consA (nm 7) (consA (nm 6) nilA)))) (nm 8))) (retS (fun _ S => R.ok (.bl false, S))) nxS)
  (seqS (ifS (andT (tstB (bin2 isD (nm 6) (fun _ S => R.ok (.non, S)))) (tstB (bin2 neD (lamE [0] F_caught (mthN "Counts" "changed" F_cha 1 2 [0, 2, 1, 3] [.non] (nm 1) nilA (consA (nm 4) (consA (nm 7) nilA)))) (nm 8)))) (retS (fun _ S => R.ok (.bl false, S))) nxS)
  (seqS (ifS (andT (tstB (bin2 isD (nm 7) (fun _ S => R.ok (.non, S)))) (tstB (bin2 neD (lamE [0] F_caught (mthN "Counts" "changed" F_cha 2 1 [0, 1, 3, 2] [.non] (nm 1) (consA (nm 4) nilA) (consA (nm 6) nilA))) (nm 8)))) (retS (fun _ S => R.ok (.bl false, S))) nxS)
  (seqS (asgS (callD F_exdu [] (consA (nm 2) (consA (nm 3) (consA (nm 6) (consA (nm 7) nilA))))) (nmG 8))
  (seqS (ifS (tstB (bin2 neD (lamE [0] F_caught (mthN "Counts" "extended" F_exd 3 0 [0, 1, 2] [] (nm 1) (consA (nm 6) (consA (nm 7) nilA)) nilA)) (nm 8))) (retS (fun _ S => R.ok (.bl false, S))) nxS)
  (retS (bin2 eqD (lamE [0] F_caught (mthN "Counts" "extended" F_exd 1 2 [0, 2, 1] [] (nm 1) nilA (consA (nm 7) (consA (nm 6) nilA)))) (nm 8)))))))))))))
abbrev F_turn := runP 9 2 f_turn
theorem ok_turn {fA : Addr} {fd : FuncData} (T : Txt K mg base tb ca C xa) (F : Fun K "_law_turn_right" "_law_turn_right" s_turn fA fd) (M : MkAt base mg tb fd (("_law_turn_right" : Str) ++ ".<locals>." ++ "<lambda>")) : FnG Pg w K mg base 10 fA fd ["_law_pool_here", "_law_log"] (spP K ca tb F_turn) := by
  obtain ⟨_, _, c_draw⟩ := T.c_draw
  obtain ⟨_, _, c_thing⟩ := T.c_thing
  obtain ⟨_, _, c_chd⟩ := T.c_chd
  obtain ⟨_, _, c_caught⟩ := T.c_caught
  obtain ⟨_, _, c_cha⟩ := T.c_cha
  obtain ⟨_, _, c_exdu⟩ := T.c_exdu
  obtain ⟨_, _, c_exd⟩ := T.c_exd
  obtain ⟨cc, cP, mc, mt, mm, mu⟩ := M.ex
  refine fn_pC (N := ["_law_pool_here", "_law_log", "_law_comes", "_law_goes", "_law_at", "_law_here", "_law_new", "_law_gone", "_law_due"]) (OO := []) F sc_turn (by decide) fun cdv hcd A outer s H E p hr => ?_
  obtain rfl : cdv = .ref cc := hcd.symm.trans mc
  have hu := hr.r.units
  have hgu := hr.g
  exact (pss_consD (psd_par 2 3 rfl sc_turn.nd (notpl0 (by decide)) (notpl0 (by decide)) (pad_cons (pd_fld rfl T.caC T.clC T.na_arrivals (pd_name 1)) (pad_cons (pd_fld rfl T.caC T.clC T.na_departures (pd_name 1)) pad_nil)))
    (pss_consD (psd_set 4 sc_turn.nd (notpl0 (by decide)) (pd_idx rfl (pf_cat (pf_rep (pf_lst (pad_cons (pd_callP 0 rfl ⟨_, rfl⟩ (ok_draw T c_draw.F) (hr.mono (by decide)) c_draw.m c_draw.k c_draw.b (pad_cons (pd_len rfl (T.free _ (by decide +kernel)) (pba_cons (pd_name 2).pb pba_nil)) pad_nil)) pad_nil)).pd.pb (pd_int).pb).pd.pb (pf_lst (pad_cons (pd_neg (pd_int).pb) (pad_cons (pd_len rfl (T.free _ (by decide +kernel)) (pba_cons (pd_name 2).pb pba_nil)) (pad_cons (pd_non) (pad_cons (pd_bl) (pad_cons (pd_str) (pad_cons (pd_int) pad_nil))))))).pd.pb).pd.pb (pd_callP 0 rfl ⟨_, rfl⟩ (ok_draw T c_draw.F) (hr.mono (by decide)) c_draw.m c_draw.k c_draw.b (pad_cons (pd_int) pad_nil))))
    (pss_consD (psd_set 5 sc_turn.nd (notpl0 (by decide)) (pd_ifE (pt_tru rfl (pd_isB "int" (by decide) cs T.cs rfl (T.free _ (by decide +kernel)) (T.free _ (by decide +kernel)) boot_int (pd_name 4).pb).pb) (pd_idx rfl (pd_name 2).pb (pd_modx (pd_name 4).pb (pd_len rfl (T.free _ (by decide +kernel)) (pba_cons (pd_name 2).pb pba_nil)).pb)) (pd_int)))
    (pss_consD (psd_asg (pd_tup (pad_cons (pd_callP 0 rfl ⟨_, rfl⟩ (ok_thing T c_thing.F) (hr.mono (by decide)) c_thing.m c_thing.k c_thing.b (pad_cons (pd_name 5) pad_nil)) (pad_cons (pd_callP 0 rfl ⟨_, rfl⟩ (ok_thing T c_thing.F) (hr.mono (by decide)) c_thing.m c_thing.k c_thing.b (pad_cons (pd_name 5) pad_nil)) pad_nil))) (pgd_tup rfl rfl (pgsd_cons (pgd_name 6 sc_turn.nd (notpl0 (by decide))) (pgsd_cons (pgd_name 7 sc_turn.nd (notpl0 (by decide))) pgsd_nil))))
    (pss_consD (psd_set 8 sc_turn.nd (notpl0 (by decide)) (pd_call (ok_chd T c_chd.F) (hr.mono (by decide)) c_chd.m c_chd.k c_chd.b .nil (fun _ => .nil) (pad_cons (pd_name 2) (pad_cons (pd_name 3) (pad_cons (pd_name 4) (pad_cons (pd_name 6) (pad_cons (pd_name 7) pad_nil)))))))
    (pss_consD (psd_if (pt_ne rfl hu (PD.pb (pd_lamcall (c := cc) (P := cP) (k := 3) (m := 7) [0] rfl (ok_caught T c_caught.F) (by decide) (hr.mono (by decide)) c_caught.m c_caught.k c_caught.b mt rfl mm mu (LamX.lamS_by (sc := defScope s_turn) (by decide +kernel)) rfl (fun _ _ _ _ _ => rfl) (by decide) (fun A2 up2 s2 H2 E2 f2 c2 bs2 s02 EX2 hr tk => (have hu := hr.r.units; have hgu := hr.g; (pd_mN (ks := ["departures", "arrivals"]) (n := 2) (ix := [0, 1, 3, 2]) tk T.caC T.clC c_cha.meth (ok_cha T c_cha.F) (hr.mono (by decide)) c_cha.kp_2_departures_arrivals (fun _ => .nil) (pd_name 1) (pad_cons (pd_name 4) pad_nil) (pkd_cons (pd_name 7) (pkd_cons (pd_name 6) pkd_nil))))))) (pd_name 8).pb) (pss_oneD (psd_ret (pd_bl))) pss_nilD)
    (pss_consD (psd_if (PWd.pt (ptw_and (pt_is (pd_name 6).pb (pd_non).pb) (ptw_and1 (pt_ne rfl hu (PD.pb (pd_lamcall (c := cc) (P := cP) (k := 3) (m := 7) [0] rfl (ok_caught T c_caught.F) (by decide) (hr.mono (by decide)) c_caught.m c_caught.k c_caught.b mt rfl mm mu (LamX.lamS_by (sc := defScope s_turn) (by decide +kernel)) rfl (fun _ _ _ _ _ => rfl) (by decide) (fun A2 up2 s2 H2 E2 f2 c2 bs2 s02 EX2 hr tk => (have hu := hr.r.units; have hgu := hr.g; (pd_mN0 (ks := ["tick", "departures"]) (n := 1) (ix := [0, 2, 1, 3]) tk T.caC T.clC c_cha.meth (ok_cha T c_cha.F) (hr.mono (by decide)) c_cha.kp_1_tick_departures (fun _ => .cons .non <| .nil) (pd_name 1)  (pkd_cons (pd_name 4) (pkd_cons (pd_name 7) pkd_nil))))))) (pd_name 8).pb)))) (pss_oneD (psd_ret (pd_bl))) pss_nilD)
    (pss_consD (psd_if (PWd.pt (ptw_and (pt_is (pd_name 7).pb (pd_non).pb) (ptw_and1 (pt_ne rfl hu (PD.pb (pd_lamcall (c := cc) (P := cP) (k := 3) (m := 7) [0] rfl (ok_caught T c_caught.F) (by decide) (hr.mono (by decide)) c_caught.m c_caught.k c_caught.b mt rfl mm mu (LamX.lamS_by (sc := defScope s_turn) (by decide +kernel)) rfl (fun _ _ _ _ _ => rfl) (by decide) (fun A2 up2 s2 H2 E2 f2 c2 bs2 s02 EX2 hr tk => (have hu := hr.r.units; have hgu := hr.g; (pd_mN (ks := ["arrivals"]) (n := 2) (ix := [0, 1, 3, 2]) tk T.caC T.clC c_cha.meth (ok_cha T c_cha.F) (hr.mono (by decide)) c_cha.kp_2_arrivals (fun _ => .cons .non <| .nil) (pd_name 1) (pad_cons (pd_name 4) pad_nil) (pkd_cons (pd_name 6) pkd_nil)))))) (pd_name 8).pb)))) (pss_oneD (psd_ret (pd_bl))) pss_nilD)
    (pss_consD (psd_set 8 sc_turn.nd (notpl0 (by decide)) (pd_call (ok_exdu T c_exdu.F) (hr.mono (by decide)) c_exdu.m c_exdu.k c_exdu.b .nil (fun _ => .nil) (pad_cons (pd_name 2) (pad_cons (pd_name 3) (pad_cons (pd_name 6) (pad_cons (pd_name 7) pad_nil))))))
    (pss_consD (psd_if (pt_ne rfl hu (PD.pb (pd_lamcall (c := cc) (P := cP) (k := 3) (m := 7) [0] rfl (ok_caught T c_caught.F) (by decide) (hr.mono (by decide)) c_caught.m c_caught.k c_caught.b mt rfl mm mu (LamX.lamS_by (sc := defScope s_turn) (by decide +kernel)) rfl (fun _ _ _ _ _ => rfl) (by decide) (fun A2 up2 s2 H2 E2 f2 c2 bs2 s02 EX2 hr tk => (have hu := hr.r.units; have hgu := hr.g; (pd_mN (ks := []) (n := 3) (ix := [0, 1, 2]) tk T.caC T.clC c_exd.meth (ok_exd T c_exd.F) (hr.mono (by decide)) c_exd.kp_3 (fun _ => .nil) (pd_name 1) (pad_cons (pd_name 6) (pad_cons (pd_name 7) pad_nil)) pkd_nil))))) (pd_name 8).pb) (pss_oneD (psd_ret (pd_bl))) pss_nilD)
    (pss_oneD (psd_ret (pd_eq rfl hu (PD.pb (pd_lamcall (c := cc) (P := cP) (k := 3) (m := 7) [0] rfl (ok_caught T c_caught.F) (by decide) (hr.mono (by decide)) c_caught.m c_caught.k c_caught.b mt rfl mm mu (LamX.lamS_by (sc := defScope s_turn) (by decide +kernel)) rfl (fun _ _ _ _ _ => rfl) (by decide) (fun A2 up2 s2 H2 E2 f2 c2 bs2 s02 EX2 hr tk => (have hu := hr.r.units; have hgu := hr.g; (pd_mN0 (ks := ["departures", "arrivals"]) (n := 1) (ix := [0, 2, 1]) tk T.caC T.clC c_exd.meth (ok_exd T c_exd.F) (hr.mono (by decide)) c_exd.kp_1_departures_arrivals (fun _ => .nil) (pd_name 1)  (pkd_cons (pd_name 7) (pkd_cons (pd_name 6) pkd_nil))))))) (pd_name 8).pb)))))))))))))
/-! _law_whole -/
theorem sc_whole : FnScope ["_law_log", "_law_comes", "_law_goes"] ["_law_log", "_law_comes", "_law_goes"] (defScope s_whole) := ⟨rfl, rfl, rfl, by decide +kernel, rfl, by decide +kernel, by decide +kernel⟩
def f_whole : FS := (retS (bin2 eqD (ofF (lstF (consA (un1 (fldD "Counts" "arrivals") (nm 0)) (consA (un1 (fldD "Counts" "departures") (nm 0)) (consA (propD "Counts" F_pre (nm 0)) nilA))))) (ofF (lstF (consA (nm 1) (consA (nm 2) (consA (callE tupD (consA (ofF (callN F_rest [] (consA (nm 1) (consA (nm 2) nilA)))) nilA)) nilA)))))))
abbrev F_whole := runF 3 3 f_whole
theorem ok_whole {fA : Addr} {fd : FuncData} (T : Txt K mg base tb ca C xa) (F : Fun K "_law_whole" "_law_whole" s_whole fA fd) : FnG Pg w K mg base 4 fA fd ["_law_log", "_law_comes", "_law_goes"] (spF K ca tb F_whole) := by
  obtain ⟨_, _, c_pre⟩ := T.c_pre
  obtain ⟨_, _, c_rest⟩ := T.c_rest
  refine fn_d (N := ["_law_log", "_law_comes", "_law_goes"]) (OO := []) F sc_whole fun cdv A outer s H E hr => ?_
  have hu := hr.r.units
  have hgu := hr.g
  exact (pss_oneD (psd_ret (pd_eq rfl hu (pf_lst (pad_cons (pd_fld rfl T.caC T.clC T.na_arrivals (pd_name 0)) (pad_cons (pd_fld rfl T.caC T.clC T.na_departures (pd_name 0)) (pad_cons (pd_prop T.caC T.clC c_pre.p.choose_spec (ok_pre T c_pre.F) (hr.mono (by decide)) c_pre.b (pd_name 0)) pad_nil)))).pd.pb (pf_lst (pad_cons (pd_name 1) (pad_cons (pd_name 2) (pad_cons (pd_tuple rfl (T.free _ (by decide +kernel)) (pba_cons (pf_call (ok_rest T c_rest.F) (hr.mono (by decide)) c_rest.m c_rest.k c_rest.b .nil (fun _ => .nil) (pad_cons (pd_name 1) (pad_cons (pd_name 2) pad_nil))).pd.pb pba_nil)) pad_nil)))).pd.pb)))
/-! _law_right -/
theorem sc_right : FnScope ["_law_pool_here", "_law_comes", "_law_goes", "_law_log", "_law_turn", "_law_at", "_law_again", "_law_longer"] ["_law_pool_here"] (defScope s_right) := ⟨rfl, rfl, rfl, by decide +kernel, rfl, by decide +kernel, by decide +kernel⟩
def f_right : FS := (seqS (asgS (callP F_any nilA) (lstG 2 (consG (nmG 1) (consG (nmG 2) nilG))))
  (seqS (asgS (mkI "Counts" nm_ini F_ini 2 0 [0, 1] (consA (nm 1) (consA (nm 2) nilA)) nilA) (nmG 3))
  (seqS (ifS (notT (tst (callE allD (consA (ofF (lcE [4] (rngI rng1D (consA (fun _ S => R.ok (.int 12, S)) nilA)) (nmG 4) yesT (callP F_turn (consA (nm 3) nilA)))) nilA)))) (retS (fun _ S => R.ok (.bl false, S))) nxS)
  (seqS (asgS (callP F_draw (consA (callE lenD (consA (nm 1) nilA)) nilA)) (nmG 5))
  (seqS (asgS (mthNC "Counts" "changed" F_cha 2 2 [0, 1, 2, 3] [] (nm 3) (consA (nm 5) nilA) (consA (bin2 idxD (nm 1) (nm 5)) (consA (bin2 idxD (nm 2) (nm 5)) nilA))) (nmG 6))
  (seqS (asgS (ifE (tstB (bin2 ltD (callE lenD (consA (nm 1) nilA)) (fun _ S => R.ok (.int 60, S)))) (mthNC "Counts" "extended" F_exd 3 0 [0, 1, 2] [] (nm 3) (consA (fun _ S => R.ok (.int 0, S)) (consA (bin2 idxD (propD "Counts" F_pre (nm 3)) (un1 negD (fun _ S => R.ok (.int 1, S)))) nilA)) nilA) (nm 3)) (nmG 7))
  (seqS (ifS (andT (tstB (bin2 ltD (callE lenD (consA (nm 1) nilA)) (fun _ S => R.ok (.int 60, S)))) (notT (tst (callD F_whole [] (consA (nm 7) (consA (bin2 addD (nm 1) (tupE (consA (fun _ S => R.ok (.int 0, S)) nilA))) (consA (bin2 addD (nm 2) (tupE (consA (bin2 idxD (propD "Counts" F_pre (nm 3)) (un1 negD (fun _ S => R.ok (.int 1, S)))) nilA))) nilA))))))) (retS (fun _ S => R.ok (.bl false, S))) nxS)
  (retS (andV (eqC false "Counts" F_eq (nm 6) (nm 3)) (andV (eqC false "Counts" F_eq (mthNC "Counts" "changed" F_cha 2 0 [0, 1, 2, 3] [.non, .non] (nm 3) (consA (nm 5) nilA) nilA) (nm 3)) (callD F_whole [] (consA (nm 3) (consA (nm 1) (consA (nm 2) nilA))))))))))))))
abbrev F_right := runP 8 1 f_right
theorem ok_right {fA : Addr} {fd : FuncData} (T : Txt K mg base tb ca C xa) (F : Fun K "_law_right" "_law_right" s_right fA fd) : FnG Pg w K mg base 11 fA fd ["_law_pool_here"] (spP K ca tb F_right) := by
  obtain ⟨_, _, c_any⟩ := T.c_any
  obtain ⟨_, _, c_ini⟩ := T.c_ini
  obtain ⟨_, _, c_turn⟩ := T.c_turn
  obtain ⟨_, _, c_draw⟩ := T.c_draw
  obtain ⟨_, _, c_cha⟩ := T.c_cha
  obtain ⟨_, _, c_exd⟩ := T.c_exd
  obtain ⟨_, _, c_pre⟩ := T.c_pre
  obtain ⟨_, _, c_whole⟩ := T.c_whole
  obtain ⟨_, _, c_eq⟩ := T.c_eq
  refine fn_p (N := ["_law_pool_here", "_law_comes", "_law_goes", "_law_log", "_law_turn", "_law_at", "_law_again", "_law_longer"]) (OO := []) F sc_right (by decide) fun cdv A outer s H E p hr => ?_
  have hu := hr.r.units
  have hgu := hr.g
  exact (pss_consD (psd_asg (pd_callP 0 rfl ⟨_, rfl⟩ (ok_any T c_any.F) (hr.mono (by decide)) c_any.m c_any.k c_any.b pad_nil) (pgd_lst rfl rfl (pgsd_cons (pgd_name 1 sc_right.nd (notpl0 (by decide))) (pgsd_cons (pgd_name 2 sc_right.nd (notpl0 (by decide))) pgsd_nil))))
    (pss_consD (psd_set 3 sc_right.nd (notpl0 (by decide)) (pd_make (n := 2) (ix := [0, 1]) T.caC c_ini.makes (ok_ini T c_ini.F).toGI (hr.mono (by decide)) T.mgC c_ini.kb (pad_cons (pd_name 1) (pad_cons (pd_name 2) pad_nil))))
    (pss_consD (psd_if (ptd_not (pt_tru rfl (pd_all rfl rfl (T.free _ (by decide +kernel)) (pba_cons (pf_lc (vs := []) (own := [("_law_turn", 4)]) rfl sc_right.nd (pid_range1 (T.free _ (by decide +kernel)) (pad_cons (pd_int) pad_nil)) (blkOk_by (by rfl)) (fun _ _ _ _ _ => (pgd_name 4 sc_right.nd (notpl0 (by decide)))) (fun _ _ _ _ _ => pts_nil) evT_yes (fun _ _ _ _ _ => (pd_callP 0 rfl ⟨_, rfl⟩ (ok_turn T c_turn.F c_turn.M) (hr.mono (by decide)) c_turn.m c_turn.k c_turn.b (pad_cons (pd_name 3) pad_nil))) (fun i hi => notpl0 (by revert i hi; decide))).pd.pb pba_nil)).pb)) (pss_oneD (psd_ret (pd_bl))) pss_nilD)
    (pss_consD (psd_set 5 sc_right.nd (notpl0 (by decide)) (pd_callP 0 rfl ⟨_, rfl⟩ (ok_draw T c_draw.F) (hr.mono (by decide)) c_draw.m c_draw.k c_draw.b (pad_cons (pd_len rfl (T.free _ (by decide +kernel)) (pba_cons (pd_name 1).pb pba_nil)) pad_nil)))
    (pss_consD (psd_set 6 sc_right.nd (notpl0 (by decide)) (pd_mNC (ks := ["arrivals", "departures"]) (n := 2) (ix := [0, 1, 2, 3]) T.caC T.clC c_cha.meth (ok_cha T c_cha.F).toG (hr.mono (by decide)) c_cha.kp_2_arrivals_departures (fun _ => .nil) (pd_name 3) (pad_cons (pd_name 5) pad_nil) (pkd_cons (pd_idx rfl (pd_name 1).pb (pd_name 5)) (pkd_cons (pd_idx rfl (pd_name 2).pb (pd_name 5)) pkd_nil))))
    (pss_consD (psd_set 7 sc_right.nd (notpl0 (by decide)) (pd_ifE (pt_lt (pd_len rfl (T.free _ (by decide +kernel)) (pba_cons (pd_name 1).pb pba_nil)).pb (pd_int).pb) (pd_mNC (ks := []) (n := 3) (ix := [0, 1, 2]) T.caC T.clC c_exd.meth (ok_exd T c_exd.F).toG (hr.mono (by decide)) c_exd.kp_3 (fun _ => .nil) (pd_name 3) (pad_cons (pd_int) (pad_cons (pd_idx rfl (pd_prop T.caC T.clC c_pre.p.choose_spec (ok_pre T c_pre.F) (hr.mono (by decide)) c_pre.b (pd_name 3)).pb (pd_neg (pd_int).pb)) pad_nil)) pkd_nil) (pd_name 3)))
    (pss_consD (psd_if (PWd.pt (ptw_and (pt_lt (pd_len rfl (T.free _ (by decide +kernel)) (pba_cons (pd_name 1).pb pba_nil)).pb (pd_int).pb) (ptw_and1 (ptd_not (pt_tru rfl (pd_call (ok_whole T c_whole.F) (hr.mono (by decide)) c_whole.m c_whole.k c_whole.b .nil (fun _ => .nil) (pad_cons (pd_name 7) (pad_cons (pd_add rfl (pd_name 1).pb (pd_tup (pad_cons (pd_int) pad_nil)).pb) (pad_cons (pd_add rfl (pd_name 2).pb (pd_tup (pad_cons (pd_idx rfl (pd_prop T.caC T.clC c_pre.p.choose_spec (ok_pre T c_pre.F) (hr.mono (by decide)) c_pre.b (pd_name 3)).pb (pd_neg (pd_int).pb)) pad_nil)).pb) pad_nil)))).pb))))) (pss_oneD (psd_ret (pd_bl))) pss_nilD)
    (pss_oneD (psd_ret ((pd_and rfl (pd_eqC rfl T.caC T.oCC.ik c_eq.q (ok_eq T c_eq.F) (hr.mono (by decide)) c_eq.b (pd_name 6) (pd_name 3)) (pd_and rfl (pd_eqC rfl T.caC T.oCC.ik c_eq.q (ok_eq T c_eq.F) (hr.mono (by decide)) c_eq.b (pd_mNC (ks := []) (n := 2) (ix := [0, 1, 2, 3]) T.caC T.clC c_cha.meth (ok_cha T c_cha.F).toG (hr.mono (by decide)) c_cha.kp_2 (fun _ => .cons .non <| .cons .non <| .nil) (pd_name 3) (pad_cons (pd_name 5) pad_nil) pkd_nil) (pd_name 3)) (pd_one (pd_call (ok_whole T c_whole.F) (hr.mono (by decide)) c_whole.m c_whole.k c_whole.b .nil (fun _ => .nil) (pad_cons (pd_name 3) (pad_cons (pd_name 1) (pad_cons (pd_name 2) pad_nil)))))))))))))))))
/-! _law_by_hand -/
theorem sc_hand : FnScope ["_law_log", "_law_told", "_law_due"] [] (defScope s_hand) := ⟨rfl, rfl, rfl, by decide +kernel, rfl, by decide +kernel, by decide +kernel⟩
def f_hand : FS := (seqS (asgS (mkI "Counts" nm_ini F_ini 2 0 [0, 1] (consA (bin2 addD (tupE (consA (fun _ S => R.ok (.int 500, S)) nilA)) (bin2 mulD (tupE (consA (fun _ S => R.ok (.int 0, S)) nilA)) (fun _ S => R.ok (.int 59, S)))) (consA (bin2 addD (bin2 mulD (tupE (consA (fun _ S => R.ok (.int 0, S)) nilA)) (fun _ S => R.ok (.int 59, S))) (tupE (consA (fun _ S => R.ok (.int 500, S)) nilA))) nilA)) nilA) (nmG 0))
  (seqS (ownS 1 (lstF (consA (lamE [] F_caught (mthN "Counts" "changed" F_cha 2 1 [0, 1, 3, 2] [.non] (nm 0) (consA (fun _ S => R.ok (.int 3, S)) nilA) (consA (fun _ S => R.ok (.int 499, S)) nilA))) nilA)))
  (seqS (appS 1 (lamE [1] F_caught (mthN "Counts" "changed" F_cha 2 1 [0, 1, 3, 2] [.non] (nm 0) (consA (fun _ S => R.ok (.int 3, S)) nilA) (consA (fun _ S => R.ok (.int 500, S)) nilA))))
  (seqS (appS 1 (lamE [1] F_caught (mthN "Counts" "changed" F_cha 2 1 [0, 1, 2, 3] [.non] (nm 0) (consA (fun _ S => R.ok (.int 3, S)) nilA) (consA (fun _ S => R.ok (.int 1, S)) nilA))))
  (seqS (appS 1 (lamE [1] F_caught (mthN "Counts" "extended" F_exd 3 0 [0, 1, 2] [] (nm 0) (consA (fun _ S => R.ok (.int 0, S)) (consA (fun _ S => R.ok (.int 0, S)) nilA)) nilA)))
  (seqS (appS 1 (lamE [1] F_caught (mthN "Counts" "extended" F_exd 3 0 [0, 1, 2] [] (nm 0) (consA (fun _ S => R.ok (.int 1000, S)) (consA (fun _ S => R.ok (.non, S)) nilA)) nilA)))
  (seqS (appS 1 (lamE [1] F_caught (mthN "Counts" "extended" F_exd 3 0 [0, 1, 2] [] (cmX "Counts" F_qui (consA (fun _ S => R.ok (.int 59, S)) nilA)) (consA (fun _ S => R.ok (.int 2, S)) (consA (fun _ S => R.ok (.int 1, S)) nilA)) nilA)))
  (seqS (asgS (ofF (lstF (consA (ofF (lstF (consA (fun _ S => R.ok (.int 0, S)) (consA (fun _ S => R.ok (.str "3", S)) nilA)))) (consA (ofF (lstF (consA (fun _ S => R.ok (.int 0, S)) (consA (fun _ S => R.ok (.str "59", S)) nilA)))) (consA (ofF (lstF (consA (fun _ S => R.ok (.int 16, S)) (consA (fun _ S => R.ok (.str "60", S)) nilA)))) (consA (ofF (lstF (consA (fun _ S => R.ok (.int 3, S)) (consA (fun _ S => R.ok (.str "[1000]", S)) nilA)))) (consA (ofF (lstF (consA (fun _ S => R.ok (.str "told", S)) (consA (callD F_shown [] (consA (bin2 addD (bin2 mulD (tupE (consA (fun _ S => R.ok (.int 0, S)) nilA)) (fun _ S => R.ok (.int 59, S))) (tupE (consA (fun _ S => R.ok (.int 2, S)) nilA))) (consA (bin2 addD (bin2 mulD (tupE (consA (fun _ S => R.ok (.int 0, S)) nilA)) (fun _ S => R.ok (.int 59, S))) (tupE (consA (fun _ S => R.ok (.int 1, S)) nilA))) nilA))) nilA)))) nilA))))))) (nmG 2))
  (retS (andV (bin2 eqD (slcE (nm 1) (someO (fun _ S => R.ok (.int 1, S))) noneO) (nm 2)) (bin2 eqD (bin2 idxD (bin2 idxD (nm 1) (fun _ S => R.ok (.int 0, S))) (fun _ S => R.ok (.int 0, S))) (fun _ S => R.ok (.str "told", S)))))))))))))
abbrev F_hand := runF 3 0 f_hand
theorem ok_hand {fA : Addr} {fd : FuncData} (T : Txt K mg base tb ca C xa) (F : Fun K "_law_by_hand" "_law_by_hand" s_hand fA fd) (M : MkAt base mg tb fd (("_law_by_hand" : Str) ++ ".<locals>." ++ "<lambda>")) : FnG Pg w K mg base 10 fA fd [] (spF K ca tb F_hand) := by
  obtain ⟨_, _, c_ini⟩ := T.c_ini
  obtain ⟨_, _, c_caught⟩ := T.c_caught
  obtain ⟨_, _, c_cha⟩ := T.c_cha
  obtain ⟨_, _, c_exd⟩ := T.c_exd
  obtain ⟨_, _, c_qui⟩ := T.c_qui
  obtain ⟨_, _, c_shown⟩ := T.c_shown
  obtain ⟨cc, cP, mc, mt, mm, mu⟩ := M.ex
  refine fn_dC (N := ["_law_log", "_law_told", "_law_due"]) (OO := []) F sc_hand fun cdv hcd A outer s H E hr => ?_
  obtain rfl : cdv = .ref cc := hcd.symm.trans mc
  have hu := hr.r.units
  have hgu := hr.g
  exact (pss_consD (psd_set 0 sc_hand.nd notplN (pd_make (n := 2) (ix := [0, 1]) T.caC c_ini.makes (ok_ini T c_ini.F).toGI (hr.mono (by decide)) T.mgC c_ini.kb (pad_cons (pd_add rfl (pd_tup (pad_cons (pd_int) pad_nil)).pb (pd_mul rfl (pd_tup (pad_cons (pd_int) pad_nil)).pb (pd_int).pb).pb) (pad_cons (pd_add rfl (pd_mul rfl (pd_tup (pad_cons (pd_int) pad_nil)).pb (pd_int).pb).pb (pd_tup (pad_cons (pd_int) pad_nil)).pb) pad_nil))))
    (pss_consD (psd_own 1 sc_hand.nd notplN (pf_lst (pad_cons (by exact pd_lamcall (c := cc) (P := cP) (k := 3) (m := 7) [] rfl (ok_caught T c_caught.F) (by decide) (hr.mono (by decide)) c_caught.m c_caught.k c_caught.b mt rfl mm mu (LamX.lamS_by (sc := defScope s_hand) (by decide +kernel)) rfl (fun _ _ _ _ _ => rfl) (by decide) (fun A2 up2 s2 H2 E2 f2 c2 bs2 s02 EX2 hr tk => (have hu := hr.r.units; have hgu := hr.g; (pd_mN (ks := ["arrivals"]) (n := 2) (ix := [0, 1, 3, 2]) tk T.caC T.clC c_cha.meth (ok_cha T c_cha.F) (hr.mono (by decide)) c_cha.kp_2_arrivals (fun _ => .cons .non <| .nil) (pd_name 0) (pad_cons (pd_int) pad_nil) (pkd_cons (pd_int) pkd_nil))))) pad_nil)))
    (pss_consD (psd_append 1 rfl (by exact pd_lamcall (c := cc) (P := cP) (k := 3) (m := 7) [1] rfl (ok_caught T c_caught.F) (by decide) (hr.mono (by decide)) c_caught.m c_caught.k c_caught.b mt rfl mm mu (LamX.lamS_by (sc := defScope s_hand) (by decide +kernel)) rfl (fun _ _ _ _ _ => rfl) (by decide) (fun A2 up2 s2 H2 E2 f2 c2 bs2 s02 EX2 hr tk => (have hu := hr.r.units; have hgu := hr.g; (pd_mN (ks := ["arrivals"]) (n := 2) (ix := [0, 1, 3, 2]) tk T.caC T.clC c_cha.meth (ok_cha T c_cha.F) (hr.mono (by decide)) c_cha.kp_2_arrivals (fun _ => .cons .non <| .nil) (pd_name 0) (pad_cons (pd_int) pad_nil) (pkd_cons (pd_int) pkd_nil))))))
    (pss_consD (psd_append 1 rfl (by exact pd_lamcall (c := cc) (P := cP) (k := 3) (m := 7) [1] rfl (ok_caught T c_caught.F) (by decide) (hr.mono (by decide)) c_caught.m c_caught.k c_caught.b mt rfl mm mu (LamX.lamS_by (sc := defScope s_hand) (by decide +kernel)) rfl (fun _ _ _ _ _ => rfl) (by decide) (fun A2 up2 s2 H2 E2 f2 c2 bs2 s02 EX2 hr tk => (have hu := hr.r.units; have hgu := hr.g; (pd_mN (ks := ["departures"]) (n := 2) (ix := [0, 1, 2, 3]) tk T.caC T.clC c_cha.meth (ok_cha T c_cha.F) (hr.mono (by decide)) c_cha.kp_2_departures (fun _ => .cons .non <| .nil) (pd_name 0) (pad_cons (pd_int) pad_nil) (pkd_cons (pd_int) pkd_nil))))))
    (pss_consD (psd_append 1 rfl (by exact pd_lamcall (c := cc) (P := cP) (k := 3) (m := 7) [1] rfl (ok_caught T c_caught.F) (by decide) (hr.mono (by decide)) c_caught.m c_caught.k c_caught.b mt rfl mm mu (LamX.lamS_by (sc := defScope s_hand) (by decide +kernel)) rfl (fun _ _ _ _ _ => rfl) (by decide) (fun A2 up2 s2 H2 E2 f2 c2 bs2 s02 EX2 hr tk => (have hu := hr.r.units; have hgu := hr.g; (pd_mN (ks := []) (n := 3) (ix := [0, 1, 2]) tk T.caC T.clC c_exd.meth (ok_exd T c_exd.F) (hr.mono (by decide)) c_exd.kp_3 (fun _ => .nil) (pd_name 0) (pad_cons (pd_int) (pad_cons (pd_int) pad_nil)) pkd_nil)))))
    (pss_consD (psd_append 1 rfl (by exact pd_lamcall (c := cc) (P := cP) (k := 3) (m := 7) [1] rfl (ok_caught T c_caught.F) (by decide) (hr.mono (by decide)) c_caught.m c_caught.k c_caught.b mt rfl mm mu (LamX.lamS_by (sc := defScope s_hand) (by decide +kernel)) rfl (fun _ _ _ _ _ => rfl) (by decide) (fun A2 up2 s2 H2 E2 f2 c2 bs2 s02 EX2 hr tk => (have hu := hr.r.units; have hgu := hr.g; (pd_mN (ks := []) (n := 3) (ix := [0, 1, 2]) tk T.caC T.clC c_exd.meth (ok_exd T c_exd.F) (hr.mono (by decide)) c_exd.kp_3 (fun _ => .nil) (pd_name 0) (pad_cons (pd_int) (pad_cons (pd_non) pad_nil)) pkd_nil)))))
    (pss_consD (psd_append 1 rfl (by exact pd_lamcall (c := cc) (P := cP) (k := 3) (m := 7) [1] rfl (ok_caught T c_caught.F) (by decide) (hr.mono (by decide)) c_caught.m c_caught.k c_caught.b mt rfl mm mu (LamX.lamS_by (sc := defScope s_hand) (by decide +kernel)) rfl (fun _ _ _ _ _ => rfl) (by decide) (fun A2 up2 s2 H2 E2 f2 c2 bs2 s02 EX2 hr tk => (have hu := hr.r.units; have hgu := hr.g; (pd_mN (ks := []) (n := 3) (ix := [0, 1, 2]) tk T.caC T.clC c_exd.meth (ok_exd T c_exd.F) (hr.mono (by decide)) c_exd.kp_3 (fun _ => .nil) (pd_cmethX tk T.caC T.mgC T.rdC c_qui.cm.choose_spec (ok_qui T c_qui.F) (hr.mono (by decide)) c_qui.b (pad_cons (pd_int) pad_nil)) (pad_cons (pd_int) (pad_cons (pd_int) pad_nil)) pkd_nil)))))
    (pss_consD (psd_set 2 sc_hand.nd notplN (pf_lst (pad_cons (pf_lst (pad_cons (pd_int) (pad_cons (pd_str) pad_nil))).pd (pad_cons (pf_lst (pad_cons (pd_int) (pad_cons (pd_str) pad_nil))).pd (pad_cons (pf_lst (pad_cons (pd_int) (pad_cons (pd_str) pad_nil))).pd (pad_cons (pf_lst (pad_cons (pd_int) (pad_cons (pd_str) pad_nil))).pd (pad_cons (pf_lst (pad_cons (pd_str) (pad_cons (pd_call (ok_shown T c_shown.F) (hr.mono (by decide)) c_shown.m c_shown.k c_shown.b .nil (fun _ => .nil) (pad_cons (pd_add rfl (pd_mul rfl (pd_tup (pad_cons (pd_int) pad_nil)).pb (pd_int).pb).pb (pd_tup (pad_cons (pd_int) pad_nil)).pb) (pad_cons (pd_add rfl (pd_mul rfl (pd_tup (pad_cons (pd_int) pad_nil)).pb (pd_int).pb).pb (pd_tup (pad_cons (pd_int) pad_nil)).pb) pad_nil))) pad_nil))).pd pad_nil)))))).pd)
    (pss_oneD (psd_ret ((pd_and rfl (pd_eq rfl hu (pd_slc rfl (pb_own 1) (pod_some (pd_int)) pod_none).pb (pd_name 2).pb) (pd_one (pd_eq rfl hu (pd_idx rfl (pd_idx rfl (pb_own 1) (pd_int)).pb (pd_int)).pb (pd_str).pb))))))))))))))
/-! law -/
theorem sc_law : FnScope ["_law_cells", "_law_k"] ["_law_cells"] (defScope s_law) := ⟨rfl, rfl, rfl, by decide +kernel, rfl, by decide +kernel, by decide +kernel⟩
def f_law : FS := (seqS (ifS (notT (tst (callD F_hand [] nilA))) (retS (fun _ S => R.ok (.bl false, S))) nxS)
  (retS (callE allD (consA (ofF (lcE [1] (rngI rng1D (consA (callE max2D (consA (fun _ S => R.ok (.int 2, S)) (consA (callE min2D (consA (callE lenD (consA (nm 0) nilA)) (consA (fun _ S => R.ok (.int 6, S)) nilA))) nilA))) nilA)) (nmG 1) yesT (callPN F_right (callN F_pool [] (consA (callD F_cell [] (consA (nm 0) (consA (nm 1) nilA))) nilA))))) nilA))))
abbrev F_law := runF 2 1 f_law
theorem ok_law {fA : Addr} {fd : FuncData} (T : Txt K mg base tb ca C xa) (F : Fun K "law" "law" s_law fA fd) : FnG Pg w K mg base 12 fA fd ["_law_cells"] (spF K ca tb F_law) := by
  obtain ⟨_, _, c_hand⟩ := T.c_hand
  obtain ⟨_, _, c_right⟩ := T.c_right
  obtain ⟨_, _, c_pool⟩ := T.c_pool
  obtain ⟨_, _, c_cell⟩ := T.c_cell
  refine fn_d (N := ["_law_cells", "_law_k"]) (OO := []) F sc_law fun cdv A outer s H E hr => ?_
  have hu := hr.r.units
  have hgu := hr.g
  exact (pss_consD (psd_if (ptd_not (pt_tru rfl (pd_call0 (ok_hand T c_hand.F c_hand.M) (hr.mono (by decide)) c_hand.m c_hand.k c_hand.b .nil (fun _ => .nil)).pb)) (pss_oneD (psd_ret (pd_bl))) pss_nilD)
    (pss_oneD (psd_ret (pd_all rfl rfl (T.free _ (by decide +kernel)) (pba_cons (pf_lc (vs := []) (own := [("_law_k", 1)]) rfl sc_law.nd (pid_range1 (T.free _ (by decide +kernel)) (pad_cons (pd_max2 rfl (T.free _ (by decide +kernel)) (pba_cons (pd_int).pb (pba_cons (pd_min2 rfl (T.free _ (by decide +kernel)) (pba_cons (pd_len rfl (T.free _ (by decide +kernel)) (pba_cons (pd_name 0).pb pba_nil)).pb (pba_cons (pd_int).pb pba_nil))).pb pba_nil))) pad_nil)) (blkOk_by (by rfl)) (fun _ _ _ _ _ => (pgd_name 1 sc_law.nd notplN)) (fun _ _ _ _ _ => pts_nil) evT_yes (fun _ _ _ _ _ => (pd_callPN (ok_right T c_right.F) (hr.mono (by decide)) c_right.m c_right.k c_right.b (pf_call (ok_pool T c_pool.F) (hr.mono (by decide)) c_pool.m c_pool.k c_pool.b .nil (fun _ => .nil) (pad_cons (pd_call (ok_cell T c_cell.F) (hr.mono (by decide)) c_cell.m c_cell.k c_cell.b .nil (fun _ => .nil) (pad_cons (pd_name 0) (pad_cons (pd_name 1) pad_nil))) pad_nil)))) (fun _ _ => notplN)).pd.pb pba_nil)))))
end
end K05
set_option Elab.async false
set_option linter.all false
set_option maxRecDepth 100000
set_option maxHeartbeats 4000000
namespace K05
open PySem PySem.Spec PyProof.Rows L2 ClX PL
open LW (PoolOk Flow intL atI3 rng_at pre cnt)
theorem draw_spec {S : List D} {n : Int} (hS : PoolOk S) (h0 : 0 < n) (h1 : n < 1073741824) : Sat (F_draw S [.int n]) (fun r => ∃ v : Int, r.1 = .int v ∧ 0 ≤ v ∧ v < n ∧ PoolOk r.2) EX0 := LW.draw_spec hS h0 h1
theorem flows_spec {S : List D} {n most m : Int} (hS : PoolOk S) (h0 : 0 ≤ n) (h1 : n ≤ 1000) (hm0 : 0 ≤ most) (hm1 : most < 1000000) (hp0 : 0 ≤ m) (hp1 : m < 1000000) :
    Sat (F_flows S [.int n, .int most, .int m]) (fun r => ∃ a b : List Int, r.1 = .lst [.tup (intL a), .tup (intL b)] ∧ (a.length : Int) = n ∧ Flow a b m ∧ PoolOk r.2) EX0 := LW.flows_spec hS h0 h1 hm0 hm1 hp0 hp1
/-- what the drawn logs are -/
def Drawn (S : List D) (r : D × List D) : Prop := ∃ a b : List Int, r.1 = .lst [.tup (intL a), .tup (intL b)] ∧ 1 ≤ a.length ∧ a.length ≤ 60 ∧ Flow a b 999 ∧ PoolOk r.2
theorem Flow.up {a b : List Int} {m m' : Int} (f : Flow a b m) (h : m ≤ m') : Flow a b m' := ⟨f.len, f.ca, f.cb, f.le, Int.le_trans f.top h⟩
theorem small_spec {S : List D} (hS : PoolOk S) : Sat (F_small S []) (Drawn S) EX0 := by
  refine (wp_runP rfl).mpr ?_
  unfold f_small
  simp [startP, startE]
  refine (draw_spec hS (by omega) (by omega)).imp ?_
  rintro ⟨_, S1⟩ ⟨v, rfl, h0, h1, hS1⟩
  simp
  refine (flows_spec hS1 (by omega) (by omega) (by omega) (by omega) (by omega) (by omega)).imp ?_
  rintro ⟨_, S2⟩ ⟨a, b, rfl, hl, f, hS2⟩
  exact ⟨a, b, rfl, by omega, by omega, Flow.up f (by omega), hS2⟩
theorem great_spec {S : List D} (hS : PoolOk S) : Sat (F_great S []) (Drawn S) EX0 := by
  refine (wp_runP rfl).mpr ?_
  unfold f_great
  simp [startP, startE]
  refine (draw_spec hS (by omega) (by omega)).imp ?_
  rintro ⟨_, S1⟩ ⟨v, rfl, h0, h1, hS1⟩
  simp
  split
  · refine (draw_spec (n := 60) hS1 (by decide) (by decide)).imp ?_
    rintro ⟨_, S2⟩ ⟨v2, rfl, h20, h21, hS2⟩
    simp
    refine ⟨by simp [LINE], ?_⟩
    refine (draw_spec (n := 3) hS2 (by decide) (by decide)).imp ?_
    rintro ⟨_, S3⟩ ⟨v3, rfl, h30, h31, hS3⟩
    simp
    obtain ⟨x0, e0, hm, _⟩ := atI_of (xs := [D.int 1, D.int 40, D.int 999]) (i := v3) h30 (by simpa using h31)
    obtain ⟨x, rfl, hx0, hx1⟩ : ∃ x : Int, x0 = .int x ∧ 0 ≤ x ∧ x ≤ 999 := by
      simp at hm
      rcases hm with rfl | rfl | rfl <;> exact ⟨_, rfl, by omega, by omega⟩
    rw [e0]
    simp
    refine (flows_spec hS3 (by omega) (by omega) (by omega) (by omega) (by omega) (by omega)).imp ?_
    rintro ⟨_, S4⟩ ⟨a, b, rfl, hl, f, hS4⟩
    exact ⟨a, b, rfl, by omega, by omega, f, hS4⟩
  · refine (draw_spec hS1 (by omega) (by omega)).imp ?_
    rintro ⟨_, S2⟩ ⟨v2, rfl, h0, h1, hS2⟩
    simp
    refine (flows_spec hS2 (by omega) (by omega) (by omega) (by omega) (by omega) (by omega)).imp ?_
    rintro ⟨_, S4⟩ ⟨a, b, rfl, hl, f, hS4⟩
    exact ⟨a, b, rfl, by omega, by omega, Flow.up f (by omega), hS4⟩
theorem any_spec {S : List D} (hS : PoolOk S) : Sat (F_any S []) (Drawn S) EX0 := by
  refine (wp_runP rfl).mpr ?_
  unfold f_any
  simp [startP, startE]
  refine (draw_spec hS (by omega) (by omega)).imp ?_
  rintro ⟨_, S1⟩ ⟨v, rfl, h0, h1, hS1⟩
  simp
  split
  · refine (small_spec hS1).imp ?_
    rintro ⟨_, S2⟩ h
    exact h
  · refine (great_spec hS1).imp ?_
    rintro ⟨_, S2⟩ h
    exact h
theorem cell_spec (ns : List Int) (k : Int) (h0 : 0 ≤ k) (h1 : k < 1000) : Sat (F_cell [.scr ns, .int k]) (fun d => ∃ v : Int, d = .int v) EX0 := by
  refine (wp_runF rfl).mpr ?_
  unfold f_cell
  simp [startE, slcD]
  split
  · rename_i h
    obtain ⟨d, e, _⟩ := atI_of h0 h
    rw [e]
    exact ⟨d, rfl⟩
  · refine ⟨by omega, ?_⟩
    refine wp_for _ (fun i ρ S => ∃ (v : Int) (o : Option D), ρ = [some (D.scr ns), some (D.int k), some (.int v), o] ∧ S = []) ?_ ?_ ⟨_, none, rfl, rfl⟩
    · rintro i d ρ S hd ⟨v, o, rfl, rfl⟩
      obtain ⟨x, _, rfl⟩ := List.mem_map.mp (List.mem_of_getElem? hd)
      simp
    · rintro ρ S ⟨v, o, rfl, rfl⟩
      simp
theorem pool_spec (v : Int) : Sat (F_pool [.int v]) PoolOk EX0 := by
  refine (wp_runN rfl).mpr ?_
  unfold f_pool
  simp [startE, LINE]
  have h0 : 0 ≤ v % 2147483179 := Int.emod_nonneg _ (by decide)
  have h1 : v % 2147483179 < 2147483179 := Int.emod_lt_of_pos _ (by decide)
  split
  · exact ⟨_, _, _, rfl, h0, h1, by omega, by omega⟩
  · split
    · exact ⟨_, _, _, rfl, h0, h1, by omega, by omega⟩
    · exact ⟨_, _, _, rfl, h0, h1, by omega, by omega⟩
theorem atI_int {a : List Int} {i : Nat} (h : i < a.length) : L2.atI (intL a) (i : Int) = some (.int a[i]) := by
  have h2 : i < (intL a).length := by simpa using h
  unfold L2.atI ixN
  rw [if_pos (Int.natCast_nonneg i), if_pos (by exact_mod_cast h2)]
  rw [Option.bind_some, Int.toNat_natCast, List.getElem?_map, List.getElem?_eq_getElem h]
  rfl
end K05
set_option Elab.async false
set_option linter.all false
set_option maxRecDepth 100000
set_option maxHeartbeats 4000000
namespace K05
open PySem PySem.Spec PyProof.Rows L2 ClX PL
open LW (PoolOk Flow intL atI3 rng_at pre cnt)
/-! texts -/
def part (x y : Int) : Str := (toString x : String) ++ ("/" : Str) ++ ((toString y : String) : Str)
def parts (a b : List Int) : List Str := (List.range a.length).map fun i => part (a.getD i 0) (b.getD i 0)
def txt (a b : List Int) : Str := Txt.join " " (parts a b)
/-- numbers of people -/
def Ok3 (a : List Int) : Prop := ∀ x ∈ a, 0 ≤ x ∧ x < 1000
theorem Flow.ok3 {a b : List Int} (f : Flow a b 999) : Ok3 a ∧ Ok3 b := by
  have key : ∀ {l : List Int}, (∀ x ∈ l, 0 ≤ x) → ∀ x ∈ l, x ≤ l.sum := by
    intro l
    induction l with
    | nil => intro _ x hx; cases hx
    | cons y r ih =>
      intro h x hx
      have hy := h y (by simp)
      have hr := LW.sum_nn (l := r) fun z hz => h z (by simp [hz])
      rcases List.mem_cons.mp hx with rfl | hx
      · simp; omega
      · have := ih (fun z hz => h z (by simp [hz])) x hx
        simp; omega
  have hb := f.le a.length (Nat.le_refl _)
  rw [LW.pre_all a (Nat.le_refl _), LW.pre_all b (by have := f.len; omega)] at hb
  have ht := f.top
  refine ⟨fun x hx => ⟨f.ca x hx, ?_⟩, fun x hx => ⟨f.cb x hx, ?_⟩⟩
  · have := key f.ca x hx; omega
  · have := key f.cb x hx; omega
theorem Ok3.getD {a : List Int} (h : Ok3 a) (i : Nat) : 0 ≤ a.getD i 0 ∧ a.getD i 0 < 1000 := by
  rw [List.getD_eq_getElem?_getD]
  cases e : a[i]? with
  | none => simp
  | some x => exact h x (List.mem_of_getElem? e)
theorem nice_part {x y : Int} (hx : 0 ≤ x ∧ x < 1000) (hy : 0 ≤ y ∧ y < 1000) : Nice 9 (part x y) :=
  (((nice_int hx.1 hx.2).append (show Nice 1 ("/" : String) from nice_of (by decide))).append (nice_int hy.1 hy.2)).mono (by omega)
theorem nice_join1 : ∀ {ts : List Str}, (∀ t ∈ ts, Nice 9 t) → Nice (10 * ts.length) (Str.join " " ts)
  | [], _ => nice_empty
  | [t], h => (h t (by simp)).mono (by simp)
  | t :: u :: r, h => (((h t (by simp)).append (show Nice 1 (" " : String) from nice_of (by decide))).append (nice_join1 (ts := u :: r) fun z hz => h z (List.mem_cons_of_mem _ hz))).mono (by simp; omega)
theorem nice_txt {a b : List Int} (ha : Ok3 a) (hb : Ok3 b) (hl : a.length ≤ 60) : Nice 600 (txt a b) := by
  unfold txt
  rw [show Txt.join " " (parts a b) = Str.join " " (parts a b) from StrLaws.glued_eq_join _ _]
  refine (nice_join1 ?_).mono ?_
  · intro t ht
    obtain ⟨i, _, rfl⟩ := List.mem_map.mp ht
    exact nice_part (ha.getD i) (hb.getD i)
  · simp [parts]; omega
theorem log_int {x : Int} (h : 0 ≤ x ∧ x < 1000) : x.natAbs.log2 < 1920 := log_small h.1 h.2
theorem int_len {x : Int} (h : 0 ≤ x ∧ x < 1000) : ((toString x : String) : Str).length ≤ 4 := (nice_int h.1 h.2).2
theorem part_fit {x y : Int} (hx : 0 ≤ x ∧ x < 1000) (hy : 0 ≤ y ∧ y < 1000) : (part x y).length ≤ 9 := (nice_part hx hy).2
theorem sum_le9 : ∀ {ts : List Str}, (∀ t ∈ ts, Nice 9 t) → (ts.map (·.length)).sum ≤ 9 * ts.length
  | [], _ => by simp
  | t :: r, h => by
    have h1 := (h t (by simp)).2
    have h2 := sum_le9 (ts := r) fun z hz => h z (List.mem_cons_of_mem _ hz)
    simp
    omega
theorem join_txt {a b : List Int} (ha : Ok3 a) (hb : Ok3 b) (hl : a.length ≤ 60) : joinD (.str " ") [.lst ((parts a b).map D.str)] = some (.str (txt a b)) := by
  rw [joinD_map, if_pos]
  · rfl
  · have h1 := sum_le9 (ts := parts a b) (fun t ht => by
      obtain ⟨i, _, rfl⟩ := List.mem_map.mp ht
      exact nice_part (ha.getD i) (hb.getD i))
    have h2 : (parts a b).length = a.length := by simp [parts]
    have h3 : ((" " : String) : Str).length = 1 := by rfl
    rw [h3]
    simp only [LINE]
    omega
theorem getD_int {a : List Int} {i : Nat} (h : i < a.length) : (intL a).getD i D.non = D.int (a.getD i 0) := by
  simp [List.getElem?_eq_getElem h]
theorem rows_eq {a b : List Int} (hl : a.length = b.length) : rows [intL a, intL b] b.length = (List.range a.length).map fun i => D.tup [.int (a.getD i 0), .int (b.getD i 0)] := by
  unfold rows
  rw [hl]
  refine List.map_congr_left fun i hi => ?_
  have hi : i < b.length := by simpa using hi
  simp only [List.map_cons, List.map_nil]
  rw [getD_int (a := a) (by omega), getD_int hi]
def partD : D → D | .tup [.int x, .int y] => .str (part x y) | _ => .non
theorem str_ok {a b : List Int} (hl : a.length = b.length) (ha : Ok3 a) (hb : Ok3 b) (h6 : a.length ≤ 60) : F_str [cnt (intL a) (intL b)] = R.ok (.str (txt a b)) := by
  refine eq_sat ((wp_runF rfl).mpr ?_)
  unfold f_str
  simp [startE, fldD, lookF, zip2D, hl, LINE, kindD_str]
  rw [rows_eq hl]
  refine wp_lc (fun S => S = []) (fun d y => y = partD d) _ (by simp [LINE]; omega) ?_ ?_ rfl
  · intro d hd S hS
    subst hS
    obtain ⟨i, _, rfl⟩ := List.mem_map.mp hd
    have h1 := ha.getD i
    have h2 := hb.getD i
    have l1 := int_len h1
    have l2 := int_len h2
    have e1 := log_int h1
    have e2 := log_int h2
    simp only [List.getD_eq_getElem?_getD] at h1 h2 l1 l2 e1 e2
    have l3 := part_fit h1 h2
    unfold part at l3
    rw [len_append, len_append] at l3
    have l4 : ((("/" : String)) : Str).length = 1 := by rfl
    simp [-Int.toString_eq_repr, wipeE, LINE, e1, e2, append_empty, len_append, partD, part, l4]
    omega
  · intro rs S hS h
    subst hS
    rw [h.eq_map, List.map_map]
    have : (List.range a.length).map (partD ∘ fun i => D.tup [.int (a.getD i 0), .int (b.getD i 0)]) = (parts a b).map D.str := by
      unfold parts
      rw [List.map_map]
      rfl
    rw [this]
    simp [join_txt ha hb h6]
theorem wri_ok {a b : List Int} (hl : a.length = b.length) (ha : Ok3 a) (hb : Ok3 b) (h6 : a.length ≤ 60) : F_written [.tup (intL a), .tup (intL b)] = R.ok (.str (txt a b)) := by
  generalize hd : D.tup (intL a) = d
  generalize he : D.tup (intL b) = e
  refine eq_sat ((wp_runF rfl).mpr ?_)
  unfold f_written
  simp [← hd, ← he, startE, kindD_str]
  refine ⟨by omega, ?_⟩
  refine wp_lc (fun S => S = []) (fun d y => y = (match d with | .int i => D.str (part (a.getD i.toNat 0) (b.getD i.toNat 0)) | _ => .non)) _ (by simp [LINE]; omega) ?_ ?_ rfl
  · intro d hd S hS
    subst hS
    obtain ⟨i, hi, rfl⟩ := List.mem_map.mp hd
    have hi : i < a.length := by simpa using hi
    have h1 := ha.getD i
    have h2 := hb.getD i
    have l1 := int_len h1
    have l2 := int_len h2
    have e1 := log_int h1
    have e2 := log_int h2
    have q1 := atI_int (a := a) (i := i) (by omega)
    have q2 := atI_int (a := b) (i := i) (by omega)
    have g1 : a.getD i 0 = a[i] := by simp [List.getElem?_eq_getElem hi]
    have g2 : b.getD i 0 = b[i]'(by omega) := by simp [List.getElem?_eq_getElem (show i < b.length by omega)]
    rw [g1] at h1 l1 e1
    rw [g2] at h2 l2 e2
    have l4 : ((("/" : String)) : Str).length = 1 := by rfl

    simp [-Int.toString_eq_repr, wipeE, LINE, q1, q2, e1, e2, len_append, part, l4, List.getElem?_eq_getElem hi, List.getElem?_eq_getElem (show i < b.length by omega)]
    omega
  · intro rs S hS h
    subst hS
    rw [h.eq_map, List.map_map]
    have : ∀ f, f = (fun i : Nat => D.str (part (a.getD i 0) (b.getD i 0))) → (List.range a.length).map f = (parts a b).map D.str := by
      rintro f rfl
      unfold parts
      rw [List.map_map]
      rfl
    dsimp only
    rw [this _ (by funext i; simp)]
    simp [join_txt ha hb h6]
end K05
set_option Elab.async false
set_option linter.all false
set_option maxRecDepth 100000
set_option maxHeartbeats 4000000
namespace K05
open PySem PySem.Spec PyProof.Rows L2 ClX PL
open LW (PoolOk Flow intL atI3 rng_at pre cnt)
/-! what is wrong with numbers -/
def Pl : D → Prop | .ins _ _ _ => False | .cls _ => False | .exn _ _ _ => False | _ => True
def numB : D → Bool | .int i => decide (0 ≤ i) && decide (i ≤ 999) | _ => false
def iv : D → Int | .int i => i | _ => 0
theorem numB_int {d : D} (h : numB d = true) : ∃ i : Int, d = .int i ∧ 0 ≤ i ∧ i ≤ 999 := by
  cases d <;> simp [numB] at h
  exact ⟨_, rfl, h.1, h.2⟩
theorem inu_D (d : D) (h : Pl d) : F_inu [d] = R.ok (.bl (numB d)) := by
  refine eq_sat ((wp_runF rfl).mpr ?_)
  have e : F_ii [d, .int 0, .int 999] = R.ok (.bl (numB d)) := by
    cases d with
    | int i => exact LW.ii_int i 0 999
    | ins => exact h.elim
    | cls => exact h.elim
    | exn => exact h.elim
    | _ =>
      refine eq_sat ((wp_runF rfl).mpr ?_)
      unfold f_ii
      simp [startE, tyK, known, tyB, numB]
  unfold f_inu
  simp [startE]
  rw [e]
  simp
/-- the first wrong tick -/
def scan : Int → Int → Int → List D → List D → Option Int
  | t, p, h, x :: xs, y :: ys => if (numB x && numB y) = true then (if 999 < p + iv x ∨ h + iv x - iv y < 0 then some t else scan (t + 1) (p + iv x) (h + iv x - iv y) xs ys) else some t
  | _, _, _, _, _ => none
def okLen (xs ys : List D) : Prop := xs.length = ys.length ∧ 1 ≤ xs.length ∧ xs.length ≤ 60
instance (xs ys : List D) : Decidable (okLen xs ys) := by unfold okLen; infer_instance
def fault : D → D → Option (Option Int)
  | .tup xs, .tup ys => if okLen xs ys then (scan 0 0 0 xs ys).map some else some none
  | _, _ => some none
def tkD : Option Int → D | none => .non | some t => .int t
/-- rows of plain things -/
def PlR : D → Prop | .tup xs => (∀ x ∈ xs, Pl x) ∧ xs.length ≤ 1000 | d => Pl d
theorem PlR.pl {d : D} (h : PlR d) : Pl d := by
  cases d <;> first | exact h | exact True.intro
theorem isT (d : D) (h : Pl d) : isiD (tyK "tuple") (inst0 cs) d = some (.bl (match d with | .tup _ => true | _ => false)) := by
  cases d <;> first | exact h.elim | (simp [tyK, known, tyB])
theorem cl_spec {x y : D} (hx : Pl x) (hy : Pl y) : F_cl [x, y] = RX .non (match x, y with
    | .tup xs, .tup ys => if okLen xs ys then none else some ("InvalidCounts", ["tick"], [D.non])
    | _, _ => some ("InvalidCounts", ["tick"], [.non])) := by
  refine eq_rx ((wp_runF rfl).mpr ?_)
  have ex := isT x hx
  have ey := isT y hy
  unfold f_cl
  simp [startE]
  rw [ex, ey]
  cases x with
  | tup xs =>
    cases y with
    | tup ys =>
      simp
      have e : okLen xs ys ↔ (xs.length = ys.length ∧ 1 ≤ xs.length ∧ xs.length ≤ 60) := Iff.rfl
      by_cases h1 : xs.length = ys.length
      · by_cases h2 : 1 ≤ xs.length
        · by_cases h3 : xs.length ≤ 60
          · simp [e, h1, h2, h3]
            rw [h1] at h2 h3
            simp [h2, h3]
            split <;> omega
          · simp [e, h1, h2, h3]
            rw [h1] at h2 h3
            simp [h2, h3]
            split <;> omega
        · simp [e, h1, h2]
          rw [h1] at h2
          simp [h2]
          omega
      · simp [e, h1]
        omega
    | _ => simp
  | _ => simp
theorem scan_int {t p h a b : Int} {xs ys : List D} (ha : numB (.int a) = true) (hb : numB (.int b) = true) : scan t p h (.int a :: xs) (.int b :: ys) = if 999 < p + a ∨ h + a - b < 0 then some t else scan (t + 1) (p + a) (h + a - b) xs ys := by
  show (if (numB (.int a) && numB (.int b)) = true then (if 999 < p + a ∨ h + a - b < 0 then some t else scan (t + 1) (p + a) (h + a - b) xs ys) else some t) = _
  rw [ha, hb]
  rfl
theorem scan_nil {t p h : Int} : scan t p h [] [] = none := rfl
theorem cn_spec {xs ys : List D} (hx : ∀ x ∈ xs, Pl x) (hy : ∀ y ∈ ys, Pl y) (hl : xs.length = ys.length) : F_cn [.tup xs, .tup ys] = RX .non ((scan 0 0 0 xs ys).map fun t => ("InvalidCounts", ["tick"], [D.int t])) := by
  generalize hX : D.tup xs = X
  generalize hY : D.tup ys = Y
  refine eq_rx ((wp_runF rfl).mpr ?_)
  unfold f_cn
  simp [← hX, ← hY, startE, zip2D, hl]
  refine wp_for _ (fun i ρ S => ∃ (p h : Int) (o1 o2 o3 : Option D), ρ = [some (.tup xs), some (.tup ys), some (.int p), some (.int h), o1, o2, o3] ∧ S = [] ∧ scan 0 0 0 xs ys = scan (i : Nat) p h (xs.drop i) (ys.drop i)) ?_ ?_ ⟨0, 0, none, none, none, rfl, rfl, rfl⟩
  · rintro i d ρ S hd ⟨p, h, o1, o2, o3, rfl, rfl, hs⟩
    obtain ⟨x, hx', rfl⟩ := LW.enD_at hd
    obtain ⟨hi, rfl⟩ := LW.rows2_at hx'
    have hi1 : i < xs.length := by omega
    have ex : xs.getD i .non = xs[i] := by simp [List.getElem?_eq_getElem hi1]
    have ey : ys.getD i .non = ys[i] := by simp [List.getElem?_eq_getElem hi]
    rw [ex, ey]
    have e1 := inu_D xs[i] (hx _ (List.getElem_mem _))
    have e2 := inu_D ys[i] (hy _ (List.getElem_mem _))
    rw [List.drop_eq_getElem_cons hi1, List.drop_eq_getElem_cons hi] at hs
    generalize hu : xs[i] = u
    generalize hv : ys[i] = v
    rw [hu] at e1 hs
    rw [hv] at e2 hs
    simp
    rw [e1]
    simp
    cases b1 : numB u with
    | false => simp [hs, scan, b1]
    | true =>
      rw [e2]
      simp
      cases b2 : numB v with
      | false => simp [hs, scan, b1, b2]
      | true =>
        obtain ⟨a, rfl, ha⟩ := numB_int b1
        obtain ⟨b, rfl, hb⟩ := numB_int b2
        simp
        rw [scan_int b1 b2] at hs
        by_cases c1 : 999 < p + a
        · simp [c1] at hs
          simp [c1, hs]
        · by_cases c2 : h + a - b < 0
          · simp [c2] at hs
            simp [c1, c2, hs]
          · rw [if_neg (by omega)] at hs
            simp [c1, c2, hs]
            exact ⟨_, _, ⟨rfl, rfl⟩, rfl⟩
  · rintro ρ S ⟨p, h, o1, o2, o3, rfl, rfl, hs⟩
    simp only [rows, enD, List.length_mapIdx, List.length_map, List.length_range] at hs
    rw [List.drop_eq_nil_of_le (by omega), List.drop_eq_nil_of_le (by omega), scan_nil] at hs
    simp [hs]
theorem ini_spec {x y : D} (hx : PlR x) (hy : PlR y) : F_ini [x, y] = RX [x, y] ((fault x y).map fun o => ("InvalidCounts", ["tick"], [tkD o])) := by
  have e1 := cl_spec hx.pl hy.pl
  refine eq_rx ((wp_runI rfl).mpr ?_)
  unfold f_ini
  simp [startP, startE]
  rw [e1]
  cases x with
  | tup xs =>
    cases y with
    | tup ys =>
      by_cases ho : okLen xs ys
      · have e2 := cn_spec (xs := xs) (ys := ys) hx.1 hy.1 ho.1
        simp [ho, RX, fault]
        rw [e2]
        cases es : scan 0 0 0 xs ys with
        | none =>
          simp [RX, nm_ini]
          decide +kernel
        | some t => simp [RX, tkD]
      · simp [ho, RX, fault, tkD]
    | _ => simp [RX, fault, tkD]
  | _ => simp [RX, fault, tkD]
def partF : FS := (ifS (orT (tst (un1 (isiD (tyK "bool") (inst0 cs)) (nm 5))) (orT (notT (tst (un1 (isiD (tyK "int") (inst0 cs)) (nm 5)))) (notT (tstB (chn leD leD (fun _ S => R.ok (.int 0, S)) (nm 5) (fun _ S => R.ok (.int 999, S))))))) (retS (ofF (lstF (consA (nm 4) nilA)))) nxS)
theorem part_spec {u : D} (hu : Pl u) {o0 o1 o2 o3 : Option D} {t : Int} {S : List D} {Q : Ctl × PL.Env × List D → Prop} {EX : EXT}
    (h : if numB u = true then Q (.nx, [o0, o1, o2, o3, some (.int t), some u], S) else Q (.rt (.lst [.int t]), [o0, o1, o2, o3, some (.int t), some u], S)) : Sat (partF [o0, o1, o2, o3, some (.int t), some u] S) Q EX := by
  unfold partF
  cases u with
  | ins => exact hu.elim
  | cls => exact hu.elim
  | exn => exact hu.elim
  | int i =>
    simp [numB] at h
    simp [tyK, known, tyB, LINE]
    by_cases h1 : 0 ≤ i
    · by_cases h2 : i ≤ 999
      · simpa [h1, h2] using h
      · simpa [h1, h2] using h
    · simpa [h1] using h
  | _ =>
    simp [numB] at h
    simpa [tyK, known, tyB, LINE] using h
theorem two_spec {u v : D} (hu : Pl u) (hv : Pl v) {o0 o1 o2 o3 o5 : Option D} {t : Int} {S : List D} {Q : Ctl × PL.Env × List D → Prop} {EX : EXT}
    (h1 : numB u = true → numB v = true → Q (.nx, [o0, o1, o2, o3, some (.int t), some v], S)) (h2 : ∀ o, (numB u && numB v) = false → Q (.rt (.lst [.int t]), [o0, o1, o2, o3, some (.int t), o], S)) : Sat (forL (nmG 5) partF [u, v] [o0, o1, o2, o3, some (.int t), o5] S) Q EX := by
  rw [wp_for_cons]
  simp only [wp_nmG, wp_bind, wp_setS, wp_set0, wp_ok]
  refine part_spec hu ?_
  cases b1 : numB u with
  | false =>
    simp only [Bool.false_eq_true, if_false, wp_lpK_rt]
    exact h2 _ (by rw [b1]; rfl)
  | true =>
    simp only [if_true, wp_lpK_nx]
    rw [wp_for_cons]
    simp only [wp_nmG, wp_bind, wp_setS, wp_set0, wp_ok]
    refine part_spec hv ?_
    cases b2 : numB v with
    | false =>
      simp only [Bool.false_eq_true, if_false, wp_lpK_rt]
      exact h2 _ (by rw [b1, b2]; rfl)
    | true =>
      simp only [if_true, wp_lpK_nx, wp_for_nil]
      exact h1 b1 b2
def fl : Option (Option Int) → List D | none => [] | some o => [tkD o]
theorem wrong_ok {x y : D} (hx : PlR x) (hy : PlR y) : F_wrong [x, y] = R.ok (.lst (fl (fault x y))) := by
  refine eq_sat ((wp_runF rfl).mpr ?_)
  have ex := isT x hx.pl
  have ey := isT y hy.pl
  unfold f_wrong
  simp [startE]
  rw [ex, ey]
  cases x with
  | tup xs =>
    cases y with
    | tup ys =>
      simp
      by_cases h1 : xs.length = ys.length
      · by_cases h2 : okLen xs ys
        · obtain ⟨_, h3, h4⟩ := h2
          have h5 : 0 < ys.length := by omega
          have h6 : ((ys.length : Nat) : Int) < 61 := by omega
          have h7 : (ys.length : Int) < 2 ^ 62 := by omega
          simp [h1, h5, h6, LINE]
          refine ⟨by omega, ?_⟩
          have hf : fault (.tup xs) (.tup ys) = (scan 0 0 0 xs ys).map some := if_pos ⟨h1, h3, h4⟩
          generalize hX : D.tup xs = X
          generalize hY : D.tup ys = Y
          rw [hX, hY] at hf
          rw [hf]
          refine wp_for _ (fun i ρ S => ∃ (p h : Int) (o4 o5 : Option D), ρ = [some X, some Y, some (.int p), some (.int h), o4, o5] ∧ S = [] ∧ scan 0 0 0 xs ys = scan (i : Nat) p h (xs.drop i) (ys.drop i)) ?_ ?_ ⟨0, 0, none, none, rfl, rfl, rfl⟩
          · rintro i d ρ S hd ⟨p, h, o4, o5, rfl, rfl, hs⟩
            obtain ⟨hi, rfl⟩ := rng_at (lo := 0) (by simpa using hd)
            have hi1 : i < xs.length := by omega
            have e1 : L2.atI xs (i : Int) = some xs[i] := by
              obtain ⟨d, e1, _, e2⟩ := atI_of (xs := xs) (i := (i : Int)) (by omega) (by omega)
              rw [e1, ← e2, Int.toNat_natCast, List.getElem?_eq_getElem hi1]
            have e2 : L2.atI ys (i : Int) = some ys[i] := by
              obtain ⟨d, e1, _, e2⟩ := atI_of (xs := ys) (i := (i : Int)) (by omega) (by omega)
              rw [e1, ← e2, Int.toNat_natCast, List.getElem?_eq_getElem hi]
            rw [List.drop_eq_getElem_cons hi1, List.drop_eq_getElem_cons hi] at hs
            have pu := hx.1 _ (List.getElem_mem hi1)
            have pv := hy.1 _ (List.getElem_mem hi)
            generalize hu : xs[i] = u
            generalize hv : ys[i] = v
            rw [hu] at hs e1 pu
            rw [hv] at hs e2 pv
            simp [← hX, ← hY, e1, e2, LINE]
            rw [hX, hY]
            refine two_spec pu pv (fun b1 b2 => ?_) (fun o b1 => ?_)
            · obtain ⟨a, rfl, ha⟩ := numB_int b1
              obtain ⟨b, rfl, hb⟩ := numB_int b2
              rw [scan_int b1 b2] at hs
              simp [← hX, ← hY, e1, e2, LINE]
              by_cases c1 : 999 < p + a
              · simp [c1] at hs
                simp [c1, hs, fl, tkD]
              · by_cases c2 : h + a - b < 0
                · simp [c2] at hs
                  simp [c1, c2, hs, fl, tkD]
                · rw [if_neg (by omega)] at hs
                  simp [c1, c2, hs]
                  exact ⟨_, _, ⟨rfl, rfl⟩, rfl⟩
            · simp only [scan, b1] at hs
              simp [hs, fl, tkD]
          · rintro ρ S ⟨p, h, o4, o5, rfl, rfl, hs⟩
            simp only [List.length_map, List.length_range] at hs
            rw [List.drop_eq_nil_of_le (by omega), List.drop_eq_nil_of_le (by omega), scan_nil] at hs
            simp [hs, fl, LINE]
        · have h3 : fault (.tup xs) (.tup ys) = some none := if_neg h2
          rw [h3]
          unfold okLen at h2
          simp [h1, LINE, fl, tkD]
          omega
      · have h3 : fault (.tup xs) (.tup ys) = some none := if_neg fun h => h1 h.1
        rw [h3]
        simp [LINE, fl, tkD]
        omega
    | _ => simp [LINE, fault, fl, tkD]
  | _ => simp [LINE, fault, fl, tkD]
end K05
set_option Elab.async false
set_option linter.all false
set_option maxRecDepth 100000
set_option maxHeartbeats 4000000
namespace K05
open PySem PySem.Spec PyProof.Rows L2 ClX PL
open LW (PoolOk Flow intL atI3 rng_at pre cnt)
theorem scan_none : ∀ (xs ys : List D) (t p h : Int), xs.length = ys.length → scan t p h xs ys = none → (∃ a, xs = intL a ∧ Ok3 a) ∧ (∃ b, ys = intL b ∧ Ok3 b)
  | [], [], _, _, _, _, _ => ⟨⟨[], rfl, fun x hx => nomatch hx⟩, ⟨[], rfl, fun x hx => nomatch hx⟩⟩
  | [], _ :: _, _, _, _, hl, _ => by simp at hl
  | _ :: _, [], _, _, _, hl, _ => by simp at hl
  | x :: xs, y :: ys, t, p, h, hl, hs => by
    cases b1 : numB x with
    | false => simp [scan, b1] at hs
    | true =>
      cases b2 : numB y with
      | false => simp [scan, b1, b2] at hs
      | true =>
        obtain ⟨a, rfl, ha⟩ := numB_int b1
        obtain ⟨b, rfl, hb⟩ := numB_int b2
        rw [scan_int b1 b2] at hs
        by_cases c : 999 < p + a ∨ h + a - b < 0
        · rw [if_pos c] at hs; cases hs
        · rw [if_neg c] at hs
          obtain ⟨⟨as, rfl, h1⟩, ⟨bs, rfl, h2⟩⟩ := scan_none xs ys _ _ _ (by simpa using hl) hs
          refine ⟨⟨a :: as, rfl, fun z hz => ?_⟩, ⟨b :: bs, rfl, fun z hz => ?_⟩⟩
          · rcases List.mem_cons.mp hz with rfl | hz
            · omega
            · exact h1 z hz
          · rcases List.mem_cons.mp hz with rfl | hz
            · omega
            · exact h2 z hz
theorem scan_le : ∀ (xs ys : List D) (t p h u : Int), scan t p h xs ys = some u → t ≤ u ∧ u < t + xs.length
  | [], [], _, _, _, _, hs => by cases hs
  | [], _ :: _, _, _, _, _, hs => by cases hs
  | _ :: _, [], _, _, _, _, hs => by cases hs
  | x :: xs, y :: ys, t, p, h, u, hs => by
    simp only [scan] at hs
    have base : t ≤ t ∧ t < t + ((x :: xs).length : Nat) := by simp; omega
    split at hs
    · split at hs
      · cases hs; exact base
      · have := scan_le xs ys _ _ _ _ hs
        simp
        omega
    · cases hs; exact base
theorem fault_none {x y : D} (h : fault x y = none) : ∃ a b : List Int, x = .tup (intL a) ∧ y = .tup (intL b) ∧ a.length = b.length ∧ Ok3 a ∧ Ok3 b ∧ 1 ≤ a.length ∧ a.length ≤ 60 := by
  unfold fault at h
  split at h
  · split at h
    · rename_i xs ys w
      simp only [Option.map_eq_none_iff] at h
      obtain ⟨⟨a, rfl, h1⟩, ⟨b, rfl, h2⟩⟩ := scan_none _ _ _ _ _ w.1 h
      obtain ⟨w1, w2, w3⟩ := w
      simp at w1 w2 w3
      exact ⟨a, b, rfl, rfl, w1, h1, h2, by omega, w3⟩
    · cases h
  · cases h
theorem fault_tick {x y : D} {t : Int} (h : fault x y = some (some t)) : 0 ≤ t ∧ t < 60 := by
  unfold fault at h
  split at h
  · split at h
    · rename_i xs ys w
      simp only [Option.map_eq_some_iff, Option.some.injEq] at h
      obtain ⟨u, e, rfl⟩ := h
      have := scan_le _ _ _ _ _ _ e
      have := w.2.2
      omega
    · cases h
  · cases h
def rpt : Option Int → Str | none => "None" | some t => (toString t : String)
theorem rpt_ok {x y : D} {o : Option Int} (h : fault x y = some o) : reprXL [tkD o] = some (.str (rpt o)) ∧ Nice 4 (rpt o) := by
  cases o with
  | none => exact ⟨rfl, (show Nice 4 ("None" : String) from nice_of (by decide))⟩
  | some t =>
    have := fault_tick h
    exact ⟨if_pos (log_small this.1 (by omega)), nice_int this.1 (by omega)⟩
end K05
set_option Elab.async false
set_option linter.all false
set_option maxRecDepth 100000
set_option maxHeartbeats 4000000
namespace K05
open PySem PySem.Spec PyProof.Rows L2 ClX PL
open LW (PoolOk Flow intL atI3 rng_at pre cnt)
theorem ad_ne : ¬ (Str.ofString "arrivals" = Str.ofString "departures") := by decide +kernel
theorem da_ne : ¬ (Str.ofString "departures" = Str.ofString "arrivals") := by decide +kernel
def ctr (x y : D) : D := .ins "Counts" nm_ini [x, y]
theorem fld_a (x y : D) : fldD "Counts" "arrivals" (ctr x y) = some x := by simp [ctr, fldD, lookF, nm_ini]
theorem fld_d (x y : D) : fldD "Counts" "departures" (ctr x y) = some y := by simp [ctr, fldD, lookF, nm_ini, ad_ne, da_ne]
/-! people present -/
def dd (a b : List Int) (i : Nat) : Int := pre a i - pre b i
def prs (a b : List Int) : List Int := (List.range a.length).map fun i => dd a b (i + 1)
theorem pa_ok {a b : List Int} (hab : a.length = b.length) (hl : a.length ≤ 60) : F_pra [.tup (intL a), .tup (intL b)] = R.ok (.tup (intL (prs a b))) := by
  refine eq_sat ((wp_runF rfl).mpr ?_)
  unfold f_pra
  simp [startE, zip2D, hab, LINE]
  refine wp_for _ (fun i ρ S => ∃ (o1 o2 : Option D), ρ = [some (.tup (intL a)), some (.tup (intL b)), some (.int (dd a b i)), some (.lst (intL ((List.range i).map fun t => dd a b (t + 1)))), o1, o2] ∧ S = []) ?_ ?_ ⟨none, none, by simp [dd, LW.pre_zero], rfl⟩
  · rintro i d ρ S hd ⟨o1, o2, rfl, rfl⟩
    obtain ⟨hi, rfl⟩ := LW.rows2_at hd
    have ha : a[i]? = some a[i] := List.getElem?_eq_getElem (by omega)
    have hb : b[i]? = some b[i] := List.getElem?_eq_getElem hi
    have ea : (intL a).getD i .non = .int a[i] := by simp [ha]
    have eb : (intL b).getD i .non = .int b[i] := by simp [hb]
    rw [ea, eb]
    have h1 := LW.pre_succ ha
    have h2 := LW.pre_succ hb
    have e : dd a b i + a[i] - b[i] = dd a b (i + 1) := by unfold dd; omega
    simp [LINE, e]
    refine ⟨by omega, ?_⟩
    rw [List.range_succ, List.map_append]
    simp
  · rintro ρ S ⟨o1, o2, rfl, rfl⟩
    have hr : (rows [intL a, intL b] b.length).length = b.length := by simp [rows]
    simp [prs, hab, hr]
theorem pres_ok {a b : List Int} (hab : a.length = b.length) (hl : a.length ≤ 60) : F_pre [ctr (.tup (intL a)) (.tup (intL b))] = R.ok (.tup (intL (prs a b))) := by
  have e := pa_ok hab hl
  have f1 := fld_a (.tup (intL a)) (.tup (intL b))
  have f2 := fld_d (.tup (intL a)) (.tup (intL b))
  refine eq_sat ((wp_runF rfl).mpr ?_)
  unfold f_pre
  generalize ctr (.tup (intL a)) (.tup (intL b)) = c at *
  simp [startE, f1, f2, e]
theorem rest_sat {a b : List Int} (hab : a.length = b.length) (hl : a.length ≤ 60) (x y : D) (p : List D) (hx : D.tup (intL a) = x) (hy : D.tup (intL b) = y) (hp : intL (prs a b) = p) : Sat (f_rest (startE 5 [x, y]) []) (fun r => r.1 = p) EX0 := by
  subst hx
  subst hy
  subst hp
  unfold f_rest
  simp [startE, LINE]
  refine ⟨by omega, ?_⟩
  refine wp_for _ (fun i ρ S => ∃ (o1 : Option D), ρ = [some (.tup (intL a)), some (.tup (intL b)), some (.lst (intL ((List.range i).map fun t => dd a b (t + 1)))), some (.int (dd a b i)), o1] ∧ S = []) ?_ ?_ ⟨none, by simp [dd, LW.pre_zero], rfl⟩
  · rintro i d ρ S hd ⟨o1, rfl, rfl⟩
    obtain ⟨hi, rfl⟩ := rng_at (lo := 0) (by simpa using hd)
    have ha : a[i]? = some (a[i]'(by omega)) := List.getElem?_eq_getElem (by omega)
    have hb : b[i]? = some (b[i]'(by omega)) := List.getElem?_eq_getElem (by omega)
    have q1 := atI_int (a := a) (i := i) (by omega)
    have q2 := atI_int (a := b) (i := i) (by omega)
    have h1 := LW.pre_succ ha
    have h2 := LW.pre_succ hb
    have e : dd a b i + (a[i]'(by omega)) - (b[i]'(by omega)) = dd a b (i + 1) := by unfold dd; omega
    simp [LINE, q1, q2, e]
    refine ⟨by omega, ?_⟩
    rw [List.range_succ, List.map_append]
    simp
  · rintro ρ S ⟨o1, rfl, rfl⟩
    simp [prs]
theorem rest_ok {a b : List Int} (hab : a.length = b.length) (hl : a.length ≤ 60) : F_rest [.tup (intL a), .tup (intL b)] = R.ok (intL (prs a b)) := by
  generalize hx : D.tup (intL a) = x
  generalize hy : D.tup (intL b) = y
  generalize hp : intL (prs a b) = p
  have key := rest_sat hab hl x y p hx hy hp
  have e1 : F_rest [x, y] = (f_rest (startE 5 [x, y]) [] >>= fun r => R.ok r.1) := if_pos (show [x, y].length = 2 from rfl)
  rw [e1]
  cases e : f_rest (startE 5 [x, y]) [] with
  | ok r => rw [e] at key; exact congrArg R.ok key
  | exc _ _ _ => rw [e] at key; exact key.elim
  | bad => rw [e] at key; exact key.elim
theorem peo_ok (a : List Int) (y : D) : F_peo [ctr (.tup (intL a)) y] = R.ok (.int a.sum) := by
  have f1 := fld_a (.tup (intL a)) y
  refine eq_sat ((wp_runF rfl).mpr ?_)
  unfold f_peo
  generalize ctr (.tup (intL a)) y = c at *
  simp [startE, f1]
/-! counts are flows -/
theorem scan_bd : ∀ (a b : List Int) (t p h : Int), a.length = b.length → p ≤ 999 → 0 ≤ h → scan t p h (intL a) (intL b) = none → (∀ k, k ≤ a.length → 0 ≤ h + pre a k - pre b k) ∧ p + a.sum ≤ 999
  | [], [], t, p, h, _, hp, hh, _ => ⟨fun k hk => by
      have : k = 0 := by simpa using hk
      subst this
      simp [LW.pre_zero]; exact hh, by simpa using hp⟩
  | [], _ :: _, _, _, _, hl, _, _, _ => by simp at hl
  | _ :: _, [], _, _, _, hl, _, _, _ => by simp at hl
  | x :: a, y :: b, t, p, h, hl, hp, hh, hs => by
    have hs : (if (numB (.int x) && numB (.int y)) = true then (if 999 < p + x ∨ h + x - y < 0 then some t else scan (t + 1) (p + x) (h + x - y) (intL a) (intL b)) else some t) = none := hs
    split at hs
    · split at hs
      · cases hs
      · rename_i c
        obtain ⟨h1, h2⟩ := scan_bd a b _ _ _ (by simpa using hl) (by omega) (by omega) hs
        refine ⟨fun k hk => ?_, by simp; omega⟩
        cases k with
        | zero => simp [LW.pre_zero]; exact hh
        | succ k =>
          have := h1 k (by simpa using hk)
          have e1 : pre (x :: a) (k + 1) = x + pre a k := by simp [pre]
          have e2 : pre (y :: b) (k + 1) = y + pre b k := by simp [pre]
          rw [e1, e2]
          omega
    · cases hs
theorem fault_flow {x y : D} (h : fault x y = none) : ∃ a b : List Int, x = .tup (intL a) ∧ y = .tup (intL b) ∧ Flow a b 999 ∧ 1 ≤ a.length ∧ a.length ≤ 60 := by
  obtain ⟨a, b, rfl, rfl, hl, oa, ob, h1, h2⟩ := fault_none h
  have hs : scan 0 0 0 (intL a) (intL b) = none := by
    have : fault (.tup (intL a)) (.tup (intL b)) = (scan 0 0 0 (intL a) (intL b)).map some := if_pos ⟨by simpa using hl, by simpa using h1, by simpa using h2⟩
    rw [this] at h
    simpa using h
  obtain ⟨b1, b2⟩ := scan_bd a b 0 0 0 hl (by omega) (by omega) hs
  exact ⟨a, b, rfl, rfl, ⟨hl, fun x hx => (oa x hx).1, fun x hx => (ob x hx).1, fun k hk => by have := b1 k hk; omega, by omega⟩, h1, h2⟩
theorem scan_flow : ∀ (a b : List Int) (t p h : Int), a.length = b.length → Ok3 a → Ok3 b → (∀ k, k ≤ a.length → 0 ≤ h + pre a k - pre b k) → p + a.sum ≤ 999 → scan t p h (intL a) (intL b) = none
  | [], [], _, _, _, _, _, _, _, _ => rfl
  | [], _ :: _, _, _, _, hl, _, _, _, _ => by simp at hl
  | _ :: _, [], _, _, _, hl, _, _, _, _ => by simp at hl
  | x :: a, y :: b, t, p, h, hl, oa, ob, hk, hs => by
    have hx := oa x (by simp)
    have hy := ob y (by simp)
    have nx : numB (.int x) = true := by simp [numB]; omega
    have ny : numB (.int y) = true := by simp [numB]; omega
    have oa' : Ok3 a := fun z hz => oa z (by simp [hz])
    have ob' : Ok3 b := fun z hz => ob z (by simp [hz])
    have sa := LW.sum_nn (l := a) fun z hz => (oa' z hz).1
    have e1 : ∀ k, pre (x :: a) (k + 1) = x + pre a k := fun k => by simp [pre]
    have e2 : ∀ k, pre (y :: b) (k + 1) = y + pre b k := fun k => by simp [pre]
    simp at hs hl
    have h1 := hk 1 (by simp)
    rw [e1, e2, LW.pre_zero, LW.pre_zero] at h1
    show scan t p h (.int x :: intL a) (.int y :: intL b) = none
    rw [scan_int nx ny, if_neg (by omega)]
    refine scan_flow a b _ _ _ hl oa' ob' (fun k hk' => ?_) (by omega)
    have := hk (k + 1) (by simpa using hk')
    rw [e1, e2] at this
    omega
theorem flow_fault {a b : List Int} (f : Flow a b 999) (h1 : 1 ≤ a.length) (h2 : a.length ≤ 60) : fault (.tup (intL a)) (.tup (intL b)) = none := by
  obtain ⟨oa, ob⟩ := Flow.ok3 f
  have hl := f.len
  have hs := scan_flow a b 0 0 0 hl oa ob (fun k hk => by have := f.le k hk; omega) (by have := f.top; omega)
  have : fault (.tup (intL a)) (.tup (intL b)) = (scan 0 0 0 (intL a) (intL b)).map some := if_pos ⟨by simpa using hl, by simpa using h1, by simpa using h2⟩
  rw [this, hs]
  rfl
theorem prs_ok {a b : List Int} (f : Flow a b 999) : Ok3 (prs a b) := by
  intro x hx
  obtain ⟨i, hi, rfl⟩ := List.mem_map.mp hx
  have hi : i < a.length := by simpa using hi
  have h1 := f.le (i + 1) (by omega)
  have h2 := LW.pre_le f.ca (i + 1)
  have h3 := LW.pre_nn f.cb (i + 1)
  have h4 := f.top
  unfold dd
  omega
/-! what is told of counts -/
def ttx (ds : List D) : Str := match reprX (.tup ds) with | some (.str t) => t | _ => Str.empty
theorem strX_tx {n k : Nat} {ds : List D} (h : TxA n k ds) (hn : n + 3 ≤ LINE) (hk : k + 1 ≤ 60) : strX [.tup ds] = some (.str (ttx ds)) ∧ Nice (n + 3) (ttx ds) := by
  obtain ⟨t, e, nt⟩ := reprX_tup h hn hk
  have : ttx ds = t := by unfold ttx; rw [e]
  rw [this]
  exact ⟨e, nt⟩
def told (a b : List Int) : Str := ((txt a b ++ (" " : Str)) ++ ttx (intL (prs a b))) ++ ((toString a.sum : String) : Str)
structure ToldF (a b : List Int) : Prop where
  t1 : strX [.tup (intL (prs a b))] = some (.str (ttx (intL (prs a b))))
  n1 : Nice 500 (ttx (intL (prs a b)))
  t2 : strD [.int a.sum] = some (.str ((toString a.sum : String) : Str))
  n2 : Nice 4 ((toString a.sum : String) : Str)
  n3 : Nice 600 (txt a b)
theorem told_f {a b : List Int} (f : Flow a b 999) (h2 : a.length ≤ 60) : ToldF a b := by
  obtain ⟨oa, ob⟩ := Flow.ok3 f
  have op := prs_ok f
  have tx : TxA ((4 + 2) * (intL (prs a b)).length) 0 (intL (prs a b)) := TxA.all fun d hd => by
    obtain ⟨i, hi, rfl⟩ := List.mem_map.mp hd
    exact TxR.i3 (op i hi).1 (op i hi).2
  have lp : (intL (prs a b)).length = a.length := by simp [prs]
  obtain ⟨e, n⟩ := strX_tx tx (by rw [lp]; simp only [LINE]; omega) (by omega)
  have s0 := LW.sum_nn f.ca
  have s1 := f.top
  exact ⟨e, n.mono (by rw [lp]; omega), if_pos (log_small s0 (by omega)), nice_int s0 (by omega), nice_txt oa ob h2⟩
theorem nice_told {a b : List Int} (h : ToldF a b) : Nice 1200 (told a b) := by
  unfold told
  exact (((h.n3.append (show Nice 1 (" " : String) from nice_of (by decide))).append h.n1).append h.n2).mono (by omega)
theorem shown_ok {a b : List Int} (f : Flow a b 999) (h2 : a.length ≤ 60) : F_shown [.tup (intL a), .tup (intL b)] = R.ok (.str (told a b)) := by
  obtain ⟨oa, ob⟩ := Flow.ok3 f
  have hl := f.len
  have w := wri_ok hl oa ob h2
  have r := rest_ok hl h2
  have s : sumA [.tup (intL a)] = some (.int a.sum) := sumA_tup a
  have h := told_f f h2
  obtain ⟨t1, n1, t2, n2, n3⟩ := h
  have l1 := n1.2
  have l2 := n2.2
  have l3 := n3.2
  have k1 : ((" " : String) : Str).length = 1 := by rfl
  unfold told
  generalize D.tup (intL a) = x at *
  generalize D.tup (intL b) = y at *
  refine eq_sat ((wp_runF rfl).mpr ?_)
  unfold f_shown
  generalize ttx (intL (prs a b)) = s1 at *
  generalize ((toString a.sum : String) : Str) = s2 at *
  generalize txt a b = s3 at *
  simp [startE, w, r, s, t1, t2, len_append, k1, LINE, -strD_int]
  omega
theorem caught_log {a b : List Int} (f : Flow a b 999) (h2 : a.length ≤ 60) : F_caught (R.ok (ctr (.tup (intL a)) (.tup (intL b)))) = R.ok (.lst [.str "told", .str (told a b)]) := by
  obtain ⟨oa, ob⟩ := Flow.ok3 f
  have hl := f.len
  have w : F_str [ctr (.tup (intL a)) (.tup (intL b))] = R.ok (.str (txt a b)) := str_ok hl oa ob h2
  have p := pres_ok hl h2
  have q := peo_ok a (.tup (intL b))
  obtain ⟨t1, n1, t2, n2, n3⟩ := told_f f h2
  have l1 := n1.2
  have l2 := n2.2
  have l3 := n3.2
  have k1 : ((" " : String) : Str).length = 1 := by rfl
  unfold told
  generalize hc : ctr (.tup (intL a)) (.tup (intL b)) = c at *
  obtain ⟨ns, vs, rfl⟩ : ∃ ns vs, c = .ins "Counts" ns vs := ⟨_, _, hc.symm⟩
  refine eq_sat (wp_runT.mpr ?_)
  unfold f_caught
  generalize D.tup (intL (prs a b)) = x at *
  generalize ttx (intL (prs a b)) = s1 at *
  generalize ((toString a.sum : String) : Str) = s2 at *
  generalize txt a b = s3 at *
  simp [List.replicate, w, p, q, t1, t2, len_append, k1, LINE, -strD_int]
  omega
end K05
set_option Elab.async false
set_option linter.all false
set_option maxRecDepth 100000
set_option maxHeartbeats 4000000
namespace K05
open PySem PySem.Spec PyProof.Rows L2 ClX PL
open LW (PoolOk Flow intL atI3 rng_at pre cnt)
/-- what stands in a row -/
def El (d : D) : Prop := Pl d ∧ TxR 30 2 d
def Ra (xs : List D) : Prop := (∀ x ∈ xs, El x) ∧ xs.length ≤ 150
def Va (d : D) : Prop := PlR d ∧ TxQ 5000 4 d
theorem Ra.tx {xs : List D} (h : Ra xs) : TxA ((30 + 2) * xs.length) 2 xs := TxA.all fun d hd => (h.1 d hd).2
theorem va_tup {xs : List D} (h : Ra xs) : Va (.tup xs) := ⟨⟨fun x hx => (h.1 x hx).1, by have := h.2; omega⟩, (TxR.tup h.tx).q.mono (by have := h.2; omega) (by omega)⟩
theorem el_int {i : Int} (h0 : -999 ≤ i) (h1 : i ≤ 1002) : El (.int i) := by
  refine ⟨True.intro, ?_⟩
  by_cases h : i < 1000
  · exact (TxR.iZ (k := 2) h0 h).mono (by omega) (by omega)
  · have : i = 1000 ∨ i = 1001 ∨ i = 1002 := by omega
    rcases this with rfl | rfl | rfl
    · exact .int (show Nice 30 ((toString (1000 : Int) : String) : Str) from nice_of (by decide +kernel)) (by decide)
    · exact .int (show Nice 30 ((toString (1001 : Int) : String) : Str) from nice_of (by decide +kernel)) (by decide)
    · exact .int (show Nice 30 ((toString (1002 : Int) : String) : Str) from nice_of (by decide +kernel)) (by decide)
theorem cutG_mem {α : Type} {x : α} {xs : List α} {lo hi : Option Int} (h : x ∈ cutG xs lo hi) : x ∈ xs := by
  unfold cutG at h
  first
    | exact List.mem_of_mem_take (List.mem_of_mem_drop h)
    | exact List.mem_of_mem_drop (List.mem_of_mem_take h)
theorem cutG_len {α : Type} {xs : List α} {lo hi : Option Int} : (cutG xs lo hi).length ≤ xs.length := by
  unfold cutG
  simp
  omega
theorem ra_int {a : List Int} (h : Ok3 a) (l : a.length ≤ 60) : Ra (intL a) := by
  refine ⟨fun x hx => ?_, by simp; omega⟩
  obtain ⟨i, hi, rfl⟩ := List.mem_map.mp hx
  have := h i hi
  exact el_int (by omega) (by omega)
/-! what comes out -/
inductive Out where
  | tick (d : D) | num (d : D) | many | cnt (o : Option Int) | fine
def rp1 (d : D) : Str := match reprX d with | some (.str t) => t | _ => Str.empty
def rpl (d : D) : Str := match reprXL [.lst [d]] with | some (.str t) => t | _ => Str.empty
def toldD : D → D → Str | .tup xs, .tup ys => told (xs.map iv) (ys.map iv) | _, _ => Str.empty
theorem toldD_int (a b : List Int) : toldD (.tup (intL a)) (.tup (intL b)) = told a b := by
  show told ((intL a).map iv) ((intL b).map iv) = _
  have e : ∀ l : List Int, (intL l).map iv = l := fun l => by
    unfold intL
    rw [List.map_map]
    exact List.map_id _
  rw [e, e]
def Out.r (X Y : D) : Out → R D
  | .tick d => R.exc "InvalidTick" ["tick"] [d]
  | .num d => R.exc "InvalidNumber" ["number"] [d]
  | .many => R.exc "TooMany" ["limit"] [.int 60]
  | .cnt o => R.exc "InvalidCounts" ["tick"] [tkD o]
  | .fine => R.ok (ctr X Y)
def Out.due (X Y : D) : Out → D
  | .tick d => .lst [.int 2, .str (rp1 d)]
  | .num d => .lst [.int 3, .str (rpl d)]
  | .many => .lst [.int 16, .str "60"]
  | .cnt o => .lst [.int 0, .str (rpt o)]
  | .fine => .lst [.str "told", .str (toldD X Y)]
def At (d : D) : Prop := Pl d ∧ reprX d = some (.str (rp1 d)) ∧ Nice 40 (rp1 d)
theorem at_of {d : D} (h : Pl d) {t : Str} (e : reprX d = some (.str t)) (n : Nice 40 t) : At d := by
  have : rp1 d = t := by unfold rp1; rw [e]
  exact ⟨h, by rw [this]; exact e, by rw [this]; exact n⟩
theorem el_rpl {d : D} (h : El d) : reprXL [.lst [d]] = some (.str (rpl d)) ∧ Nice 40 (rpl d) := by
  obtain ⟨t, e, n⟩ := repr_tx (TxQA.cons h.2.q TxQA.nil) (by simp only [LINE]; omega) (by omega)
  have : rpl d = t := by unfold rpl; rw [e]
  exact ⟨by rw [this]; exact e, by rw [this]; exact n.mono (by omega)⟩
/-- an outcome that can be -/
def OutOk (X Y : D) : Out → Prop
  | .tick d => At d
  | .num d => El d
  | .many => True
  | .cnt o => fault X Y = some o
  | .fine => fault X Y = none
theorem error_tick (d : D) : F_error [.exn "InvalidTick" ["tick"] [d]] = R.ok (.int 2) := by kernel_rfl
theorem error_num (d : D) : F_error [.exn "InvalidNumber" ["number"] [d]] = R.ok (.int 3) := by kernel_rfl
theorem error_cnt (d : D) : F_error [.exn "InvalidCounts" ["tick"] [d]] = R.ok (.int 0) := by kernel_rfl
theorem error_many (d : D) : F_error [.exn "TooMany" ["limit"] [d]] = R.ok (.int 16) := by kernel_rfl
theorem field_many (d : D) : F_field [.exn "TooMany" ["limit"] [d], .int 16] = R.ok d := by kernel_rfl
theorem in_a : inF false (.int 2) (.lst [.int 0, .int 2]) = some (.bl true) ∧ inF false (.int 0) (.lst [.int 0, .int 2]) = some (.bl true) ∧ inF false (.int 3) (.lst [.int 0, .int 2]) = some (.bl false) ∧ inF false (.int 3) (.lst [.int 1, .int 3, .int 4, .int 5]) = some (.bl true) := ⟨by kernel_rfl, by kernel_rfl, by kernel_rfl, by kernel_rfl⟩
theorem in_b : inF false (.int 16) (.lst [.int 0, .int 2]) = some (.bl false) ∧ inF false (.int 16) (.lst [.int 1, .int 3, .int 4, .int 5]) = some (.bl false) ∧ inF false (.int 16) (.lst [.int 7, .int 8, .int 12, .int 16]) = some (.bl true) := ⟨by kernel_rfl, by kernel_rfl, by kernel_rfl⟩
theorem caught_tick {d : D} {t : Str} (ht : reprXL [d] = some (.str t)) : F_caught (R.exc "InvalidTick" ["tick"] [d]) = R.ok (.lst [.int 2, .str t]) := by
  have q := error_tick d
  have hct : ct_CountError_SearchError_LimitError "InvalidTick" = some true := by decide +kernel
  have hxc : (("InvalidTick" : String) : Str) ∈ xc_tick := by decide +kernel
  generalize (("InvalidTick" : String) : Str) = cc at *
  generalize hE : D.exn cc ["tick"] [d] = E at *
  have q3 : xfD xc_tick "tick" E = some d := by subst hE; simp [xfD, hxc, lookF]
  obtain ⟨i1, i2, i3, i4⟩ := in_a
  refine eq_sat (wp_runT.mpr ?_)
  unfold f_caught
  rw [wp_seqS, wp_tryT_exc hct, hE]
  simp [List.replicate, q, q3, i1, ht, LINE]
theorem caught_cnt {d : D} {t : Str} (ht : reprXL [d] = some (.str t)) : F_caught (R.exc "InvalidCounts" ["tick"] [d]) = R.ok (.lst [.int 0, .str t]) := by
  have q := error_cnt d
  have hct : ct_CountError_SearchError_LimitError "InvalidCounts" = some true := by decide +kernel
  have hxc : (("InvalidCounts" : String) : Str) ∈ xc_tick := by decide +kernel
  generalize (("InvalidCounts" : String) : Str) = cc at *
  generalize hE : D.exn cc ["tick"] [d] = E at *
  have q3 : xfD xc_tick "tick" E = some d := by subst hE; simp [xfD, hxc, lookF]
  obtain ⟨i1, i2, i3, i4⟩ := in_a
  refine eq_sat (wp_runT.mpr ?_)
  unfold f_caught
  rw [wp_seqS, wp_tryT_exc hct, hE]
  simp [List.replicate, q, q3, i2, ht, LINE]
theorem caught_num {d : D} {t : Str} (ht : reprXL [.lst [d]] = some (.str t)) : F_caught (R.exc "InvalidNumber" ["number"] [d]) = R.ok (.lst [.int 3, .str t]) := by
  have q := error_num d
  have hct : ct_CountError_SearchError_LimitError "InvalidNumber" = some true := by decide +kernel
  have hxc : (("InvalidNumber" : String) : Str) ∈ xc_number := by decide +kernel
  generalize (("InvalidNumber" : String) : Str) = cc at *
  generalize hE : D.exn cc ["number"] [d] = E at *
  have q3 : xfD xc_number "number" E = some d := by subst hE; simp [xfD, hxc, lookF]
  obtain ⟨i1, i2, i3, i4⟩ := in_a
  refine eq_sat (wp_runT.mpr ?_)
  unfold f_caught
  rw [wp_seqS, wp_tryT_exc hct, hE]
  simp [List.replicate, q, q3, i3, i4, ht, LINE]
theorem caught_many {d : D} {t : Str} (ht : reprXL [d] = some (.str t)) : F_caught (R.exc "TooMany" ["limit"] [d]) = R.ok (.lst [.int 16, .str t]) := by
  have q := error_many d
  have q2 := field_many d
  have hct : ct_CountError_SearchError_LimitError "TooMany" = some true := by decide +kernel
  generalize (("TooMany" : String) : Str) = cc at *
  generalize hE : D.exn cc ["limit"] [d] = E at *
  obtain ⟨i1, i2, i3⟩ := in_b
  refine eq_sat (wp_runT.mpr ?_)
  unfold f_caught
  rw [wp_seqS, wp_tryT_exc hct, hE]
  simp [List.replicate, q, q2, i1, i2, i3, ht, LINE]
theorem repr60 : reprXL [.int 60] = some (.str "60") := by
  have e : ((toString (60 : Int) : String) : Str) = "60" := by decide +kernel
  rw [reprXL_int, if_pos (by decide), e]
theorem caught_out {X Y : D} {o : Out} (h : OutOk X Y o) : F_caught (o.r X Y) = R.ok (o.due X Y) := by
  cases o with
  | tick d => exact caught_tick h.2.1
  | num d => exact caught_num (el_rpl h).1
  | many => exact caught_many (t := "60") repr60
  | cnt o => exact caught_cnt (rpt_ok h).1
  | fine =>
    obtain ⟨a, b, rfl, rfl, f, h1, h2⟩ := fault_flow h
    have q := caught_log f h2
    show F_caught (R.ok (ctr (.tup (intL a)) (.tup (intL b)))) = R.ok (.lst [.str "told", .str (toldD (.tup (intL a)) (.tup (intL b)))])
    rw [toldD_int]
    exact q
def fo (X Y : D) : Out := match fault X Y with | none => .fine | some o => .cnt o
theorem fo_ok (X Y : D) : OutOk X Y (fo X Y) := by
  unfold fo
  cases h : fault X Y with
  | none => exact h
  | some o => exact h
theorem due_nd {X Y : D} {o : Out} (h : OutOk X Y o) : Nd 2600 2 (o.due X Y) := by
  have nk : ∀ (k : Nat), k < 1000 → Nd 4 0 (.int (k : Nat)) := fun k hk => .int (by omega) (by omega) (by omega)
  have ns : ∀ {t : Str} {n : Nat}, Nice n t → n ≤ 1200 → Nd 2500 0 (.str t) := fun h hn => .str (h.mono hn) (by omega)
  have two : ∀ {x : D} {t : Str} {n : Nat}, Nd 10 0 x → Nice n t → n ≤ 1200 → Nd 2600 2 (.lst [x, .str t]) := fun h1 h2 hn => .lst (.cons h1 (.cons (ns h2 hn) .nil)) (by omega) (by omega)
  have up : ∀ (k : Nat), k < 1000 → Nd 10 0 (.int (k : Nat)) := fun k hk => .int (by omega) (by omega) (by omega)
  cases o with
  | tick d => exact two (up 2 (by omega)) h.2.2 (by omega)
  | num d => exact two (up 3 (by omega)) (el_rpl h).2 (by omega)
  | many => exact two (up 16 (by omega)) (show Nice 2 ("60" : String) from nice_of (by decide)) (by omega)
  | cnt o => exact two (up 0 (by omega)) (rpt_ok h).2 (by omega)
  | fine =>
    obtain ⟨a, b, rfl, rfl, f, h1, h2⟩ := fault_flow h
    show Nd 2600 2 (.lst [.str "told", .str (toldD (.tup (intL a)) (.tup (intL b)))])
    rw [toldD_int]
    exact two (.str (show Nice 4 ("told" : String) from nice_of (by decide)) (by omega)) (nice_told (told_f f h2)) (by omega)
theorem made_ok {X Y : D} (hx : PlR X) (hy : PlR Y) : F_made [X, Y] = R.ok ((fo X Y).due X Y) := by
  have e := wrong_ok hx hy
  refine eq_sat ((wp_runF rfl).mpr ?_)
  unfold f_made fo
  cases hf : fault X Y with
  | none =>
    obtain ⟨a, b, rfl, rfl, f, h1, h2⟩ := fault_flow hf
    have s := shown_ok f h2
    rw [hf] at e
    have e : F_wrong [.tup (intL a), .tup (intL b)] = R.ok (.lst []) := e
    have nn : neD (.lst []) (.lst []) = some (.bl false) := by kernel_rfl
    show Sat _ (fun r => Sat (endD r) (fun x => x = .lst [.str "told", .str (toldD (.tup (intL a)) (.tup (intL b)))]) EX0) EX0
    rw [toldD_int]
    generalize D.tup (intL a) = x at *
    generalize D.tup (intL b) = y at *
    simp [startE, e, nn, s, LINE]
  | some o =>
    have r1 := (rpt_ok hf).1
    rw [hf] at e
    have e : F_wrong [X, Y] = R.ok (.lst [tkD o]) := e
    have nn : neD (.lst [tkD o]) (.lst []) = some (.bl true) := by cases o <;> kernel_rfl
    have ia : L2.atI [tkD o] 0 = some (tkD o) := rfl
    generalize tkD o = oo at *
    simp [startE, e, nn, ia, r1, LINE, Out.due]
end K05
set_option Elab.async false
set_option linter.all false
set_option maxRecDepth 100000
set_option maxHeartbeats 4000000
namespace K05
open PySem PySem.Spec PyProof.Rows L2 ClX PL
open LW (PoolOk Flow intL atI3 rng_at pre cnt)
def repl (xs : List D) (i : Int) (v : D) : List D := if isNoneD v = true then xs else cutG xs none (some i) ++ v :: cutG xs (some (i + 1)) none
theorem isNone_non {v : D} (h : isNoneD v = true) : v = .non := by cases v <;> first | rfl | cases h
theorem rep_ok (xs : List D) (i : Int) (v : D) (hl : xs.length ≤ 60) : F_rep [.tup xs, .int i, v] = R.ok (.tup (repl xs i v)) := by
  have l1 := cutG_len (xs := xs) (lo := none) (hi := some i)
  have l2 := cutG_len (xs := xs) (lo := some (i + 1)) (hi := none)
  have e : bin2 isD (nm 2) (fun _ S => R.ok (.non, S)) [some (.tup xs), some (.int i), some v] [] = R.ok (.bl (isNoneD v), []) := rfl
  unfold repl
  refine eq_sat ((wp_runF rfl).mpr ?_)
  unfold f_rep
  simp [startE, isD, slcD, LINE]
  cases h : isNoneD v with
  | true => simp
  | false =>
    simp
    omega
theorem cut_put {xs : List D} {i : Nat} (h : i < xs.length) : cutG xs none (some (i : Int)) ++ xs[i] :: cutG xs (some ((i : Int) + 1)) none = xs := by
  have e1 : cutG xs none (some (i : Int)) = xs.take i := by
    show (xs.drop 0).take ((if (i : Int) < 0 then ((i : Int) + (xs.length : Int)).toNat else min (i : Int).toNat xs.length) - 0) = _
    rw [if_neg (by omega), List.drop_zero, Int.toNat_natCast, Nat.min_eq_left (by omega), Nat.sub_zero]
  have e2 : cutG xs (some ((i : Int) + 1)) none = xs.drop (i + 1) := by
    show (xs.drop (if ((i : Int) + 1) < 0 then ((i : Int) + 1 + (xs.length : Int)).toNat else min ((i : Int) + 1).toNat xs.length)).take (xs.length - (if ((i : Int) + 1) < 0 then ((i : Int) + 1 + (xs.length : Int)).toNat else min ((i : Int) + 1).toNat xs.length)) = _
    rw [if_neg (by omega), show ((i : Int) + 1).toNat = i + 1 by omega, Nat.min_eq_left (by omega)]
    exact List.take_of_length_le (by simp)
  rw [e1, e2]
  have e := List.take_append_drop i xs
  rw [List.drop_eq_getElem_cons h] at e
  exact e
/-! the checks -/
def inB (d : D) (lo hi : Int) : Bool := match d with | .int i => decide (lo ≤ i) && decide (i ≤ hi) | _ => false
theorem ii_D (d : D) (h : Pl d) (lo hi : Int) : F_ii [d, .int lo, .int hi] = R.ok (.bl (inB d lo hi)) := by
  cases d with
  | int i => exact LW.ii_int i lo hi
  | ins => exact h.elim
  | cls => exact h.elim
  | exn => exact h.elim
  | _ =>
    refine eq_sat ((wp_runF rfl).mpr ?_)
    unfold f_ii
    simp [startE, tyK, known, tyB, inB]
theorem ct_spec (d : D) (h : Pl d) (lo hi : Int) : F_ct [d, .int lo, .int hi] = RX .non (if inB d lo hi = true then none else some ("InvalidTick", ["tick"], [d])) := by
  have e := ii_D d h lo hi
  refine eq_rx ((wp_runF rfl).mpr ?_)
  unfold f_ct
  cases hb : inB d lo hi <;> simp [startE, e, hb]
theorem cnu_spec (d : D) (h : Pl d) : F_cnu [d, .int 0, .int 999] = RX .non (if numB d = true then none else some ("InvalidNumber", ["number"], [d])) := by
  have e := ii_D d h 0 999
  have en : inB d 0 999 = numB d := by cases d <;> rfl
  rw [en] at e
  refine eq_rx ((wp_runF rfl).mpr ?_)
  unfold f_cnu
  cases hb : numB d <;> simp [startE, e, hb]
def okN (v : D) : Bool := isNoneD v || numB v
def chO (xs ys : List D) (at_ new gone : D) : Out := if inB at_ 0 ((xs.length : Int) - 1) = true then (if okN new = true then (if okN gone = true then fo (.tup (repl xs (iv at_) new)) (.tup (repl ys (iv at_) gone)) else .num gone) else .num new) else .tick at_
theorem plR_repl {xs : List D} (h : ∀ x ∈ xs, Pl x) (hl : xs.length ≤ 60) {v : D} (hv : Pl v) (i : Int) : PlR (.tup (repl xs i v)) := by
  unfold repl
  have l1 := cutG_len (xs := xs) (lo := none) (hi := some i)
  have l2 := cutG_len (xs := xs) (lo := some (i + 1)) (hi := none)
  split
  · exact ⟨h, by omega⟩
  · refine ⟨fun x hx => ?_, by simp; omega⟩
    rcases List.mem_append.mp hx with hx | hx
    · exact h x (cutG_mem hx)
    · rcases List.mem_cons.mp hx with rfl | hx
      · exact hv
      · exact h x (cutG_mem hx)
theorem ini_fo {X Y : D} (hx : PlR X) (hy : PlR Y) {Q : List D → Prop} {EX : EXT} (h : Sat ((fo X Y).r X Y) (fun d => d = ctr X Y ∧ Q [X, Y]) EX) : Sat (F_ini [X, Y]) Q EX := by
  rw [ini_spec hx hy]
  unfold fo at h
  cases hf : fault X Y with
  | none => rw [hf] at h; exact h.2
  | some o => rw [hf] at h; exact h
theorem eq_out {r : R D} {X Y : D} {o : Out} (h : Sat r (fun x => o = .fine ∧ x = ctr X Y) fun c ns ws => o.r X Y = R.exc c ns ws) : r = o.r X Y := by
  cases r with
  | ok x =>
    obtain ⟨rfl, rfl⟩ := h
    rfl
  | exc c ns ws => exact (show o.r X Y = R.exc c ns ws from h).symm
  | bad => exact h.elim
theorem fo_sat {X Y : D} : Sat ((fo X Y).r X Y) (fun d => d = ctr X Y ∧ fo X Y = .fine) (fun c ns ws => (fo X Y).r X Y = R.exc c ns ws) := by
  unfold fo
  cases hf : fault X Y with
  | none => exact ⟨rfl, rfl⟩
  | some o => exact rfl
theorem cha_eq {xs ys : List D} (hx : ∀ x ∈ xs, Pl x) (hy : ∀ y ∈ ys, Pl y) (hl : xs.length = ys.length) (h6 : xs.length ≤ 60) {at_ new gone : D} (pa : Pl at_) (pn : Pl new) (pg : Pl gone) :
    F_cha [ctr (.tup xs) (.tup ys), at_, new, gone] = (chO xs ys at_ new gone).r (.tup (repl xs (iv at_) new)) (.tup (repl ys (iv at_) gone)) := by
  have e1 := ct_spec at_ pa 0 ((xs.length : Int) - 1)
  have e2 := cnu_spec new pn
  have e3 := cnu_spec gone pg
  have fa := fld_a (.tup xs) (.tup ys)
  have fd := fld_d (.tup xs) (.tup ys)
  have lx : lenD [.tup xs] = some (.int (xs.length : Int)) := by simp
  refine eq_out ((wp_runF rfl).mpr ?_)
  unfold f_cha
  cases hb : inB at_ 0 ((xs.length : Int) - 1) with
  | false =>
    rw [hb] at e1
    have ho : chO xs ys at_ new gone = .tick at_ := if_neg (by rw [hb]; decide)
    rw [ho]
    generalize ctr (.tup xs) (.tup ys) = c at *
    generalize D.tup xs = X at *
    generalize D.tup ys = Y at *
    simp [startE, fa, lx, e1, RX, Out.r]
  | true =>
    rw [hb] at e1
    obtain ⟨i, rfl⟩ : ∃ i : Int, at_ = .int i := by cases at_ <;> first | exact ⟨_, rfl⟩ | cases hb
    have r1 := rep_ok xs i new h6
    have r2 := rep_ok ys i gone (by omega)
    have q1 := plR_repl hx h6 pn i
    have q2 := plR_repl hy (by omega) pg i
    have i0 := fun (Q : List D → Prop) (EX : EXT) => ini_fo (Q := Q) (EX := EX) q1 q2
    have fs := fo_sat (X := .tup (repl xs i new)) (Y := .tup (repl ys i gone))
    have p : ∀ x y : D, pick [0, 1] [x, y] = [x, y] := fun _ _ => rfl
    unfold chO
    rw [if_pos hb]
    show Sat _ (fun r => Sat (endD r) (fun x => (if okN new = true then (if okN gone = true then fo (.tup (repl xs i new)) (.tup (repl ys i gone)) else .num gone) else .num new) = Out.fine ∧ x = ctr (.tup (repl xs i new)) (.tup (repl ys i gone))) fun c ns ws => Out.r (.tup (repl xs i new)) (.tup (repl ys i gone)) (if okN new = true then (if okN gone = true then fo (.tup (repl xs i new)) (.tup (repl ys i gone)) else .num gone) else .num new) = R.exc c ns ws) fun c ns ws => Out.r (.tup (repl xs i new)) (.tup (repl ys i gone)) (if okN new = true then (if okN gone = true then fo (.tup (repl xs i new)) (.tup (repl ys i gone)) else .num gone) else .num new) = R.exc c ns ws
    generalize ctr (.tup xs) (.tup ys) = c at *
    generalize D.tup (repl xs i new) = U at *
    generalize D.tup (repl ys i gone) = V at *
    generalize D.tup xs = X at *
    generalize D.tup ys = Y at *
    have fin : ∀ {Q : D → Prop} {EX : EXT} (ho : fo U V = fo U V), Sat ((fo U V).r U V) (fun d => d = ctr U V ∧ fo U V = .fine) EX → (fo U V = .fine → Q (.ins "Counts" nm_ini [U, V])) → Sat (F_ini [U, V]) (fun es => Q (.ins "Counts" nm_ini es)) EX := fun _ h k => i0 _ _ (h.imp fun d hd => ⟨hd.1, k hd.2⟩)
    have tail : okN new = true → okN gone = true → Sat (F_ini [U, V]) (fun es => (fo U V = Out.fine ∧ D.ins "Counts" nm_ini es = ctr U V)) (fun c ns ws => (fo U V).r U V = R.exc c ns ws) := fun _ _ => fin (Q := fun d => fo U V = .fine ∧ d = ctr U V) rfl fs fun h => ⟨h, rfl⟩
    cases hn : isNoneD new with
    | true =>
      have on : okN new = true := by unfold okN; rw [hn]; rfl
      cases hg : isNoneD gone with
      | true =>
        have og : okN gone = true := by unfold okN; rw [hg]; rfl
        have t := tail on og
        simp [startE, fa, fd, lx, e1, RX, isNotD, hn, hg, r1, r2, p, on, og]
        exact t
      | false =>
        cases ng : numB gone with
        | true =>
          have og : okN gone = true := by unfold okN; rw [ng]; simp
          rw [ng] at e3
          have t := tail on og
          simp [startE, fa, fd, lx, e1, e3, RX, isNotD, hn, hg, r1, r2, p, on, og]
          exact t
        | false =>
          have og : okN gone = false := by unfold okN; rw [ng, hg]; rfl
          rw [ng] at e3
          simp [startE, fa, fd, lx, e1, e3, RX, isNotD, hn, hg, on, og, Out.r]
    | false =>
      cases nn : numB new with
      | false =>
        have on : okN new = false := by unfold okN; rw [nn, hn]; rfl
        rw [nn] at e2
        simp [startE, fa, fd, lx, e1, e2, RX, isNotD, hn, on, Out.r]
      | true =>
        have on : okN new = true := by unfold okN; rw [nn]; simp
        rw [nn] at e2
        cases hg : isNoneD gone with
        | true =>
          have og : okN gone = true := by unfold okN; rw [hg]; rfl
          have t := tail on og
          simp [startE, fa, fd, lx, e1, e2, RX, isNotD, hn, hg, r1, r2, p, on, og]
          exact t
        | false =>
          cases ng : numB gone with
          | true =>
            have og : okN gone = true := by unfold okN; rw [ng]; simp
            rw [ng] at e3
            have t := tail on og
            simp [startE, fa, fd, lx, e1, e2, e3, RX, isNotD, hn, hg, r1, r2, p, on, og]
            exact t
          | false =>
            have og : okN gone = false := by unfold okN; rw [ng, hg]; rfl
            rw [ng] at e3
            simp [startE, fa, fd, lx, e1, e2, e3, RX, isNotD, hn, hg, on, og, Out.r]
end K05
set_option Elab.async false
set_option linter.all false
set_option maxRecDepth 100000
set_option maxHeartbeats 4000000
namespace K05
open PySem PySem.Spec PyProof.Rows L2 ClX PL
open LW (PoolOk Flow intL atI3 rng_at pre cnt)
theorem isI (d : D) (h : Pl d) : isiD (tyK "int") (inst0 cs) d = some (.bl (match d with | .int _ => true | .bl _ => true | _ => false)) := by
  cases d <;> first | exact h.elim | (simp [tyK, known, tyB])
theorem isB (d : D) (h : Pl d) : isiD (tyK "bool") (inst0 cs) d = some (.bl (match d with | .bl _ => true | _ => false)) := by
  cases d <;> first | exact h.elim | (simp [tyK, known, tyB])
theorem isn_ok (d : D) (h : Pl d) : F_isn [d] = R.ok (.bl (numB d)) := by
  have ei := isI d h
  have eb := isB d h
  refine eq_sat ((wp_runF rfl).mpr ?_)
  unfold f_isn
  cases d with
  | int i =>
    simp [startE, ei, eb, numB]
    split <;> simp_all <;> omega
  | ins => exact h.elim
  | cls => exact h.elim
  | exn => exact h.elim
  | _ => simp [startE, ei, eb, numB]
def p1F : FS := (ifS (andT (tstB (bin2 isNotD (nm 5) (fun _ S => R.ok (.non, S)))) (notT (tst (callD F_isn [] (consA (nm 5) nilA))))) (retS (ofF (lstF (consA (fun _ S => R.ok (.int 3, S)) (consA (callE reprXL (consA (ofF (lstF (consA (nm 5) nilA))) nilA)) nilA))))) nxS)
theorem p1_spec {u : D} (hu : Pl u) (eu : El u) {o0 o1 o2 o3 o4 : Option D} {S : List D} {Q : Ctl × PL.Env × List D → Prop} {EX : EXT}
    (h : if okN u = true then Q (.nx, [o0, o1, o2, o3, o4, some u], S) else Q (.rt (.lst [.int 3, .str (rpl u)]), [o0, o1, o2, o3, o4, some u], S)) : Sat (p1F [o0, o1, o2, o3, o4, some u] S) Q EX := by
  have e1 := isn_ok u hu
  have e2 := (el_rpl eu).1
  unfold p1F
  unfold okN at h
  cases hn : isNoneD u with
  | true =>
    rw [hn] at h
    simp [isNotD, hn]
    simpa using h
  | false =>
    rw [hn] at h
    simp [isNotD, hn, e1]
    cases nb : numB u with
    | true =>
      rw [nb] at h
      simpa using h
    | false =>
      rw [nb] at h
      simp [e2, LINE]
      simpa using h
theorem two1 {u v : D} (hu : Pl u) (eu : El u) (hv : Pl v) (ev : El v) {o0 o1 o2 o3 o4 o5 : Option D} {S : List D} {Q : Ctl × PL.Env × List D → Prop} {EX : EXT}
    (h1 : okN u = true → okN v = true → Q (.nx, [o0, o1, o2, o3, o4, some v], S)) (h2 : okN u = false → Q (.rt (.lst [.int 3, .str (rpl u)]), [o0, o1, o2, o3, o4, some u], S)) (h3 : okN u = true → okN v = false → Q (.rt (.lst [.int 3, .str (rpl v)]), [o0, o1, o2, o3, o4, some v], S)) :
    Sat (forL (nmG 5) p1F [u, v] [o0, o1, o2, o3, o4, o5] S) Q EX := by
  rw [wp_for_cons]
  simp only [wp_nmG, wp_bind, wp_setS, wp_set0, wp_ok]
  refine p1_spec hu eu ?_
  cases b1 : okN u with
  | false =>
    simp only [Bool.false_eq_true, if_false, wp_lpK_rt]
    exact h2 b1
  | true =>
    simp only [if_true, wp_lpK_nx]
    rw [wp_for_cons]
    simp only [wp_nmG, wp_bind, wp_setS, wp_set0, wp_ok]
    refine p1_spec hv ev ?_
    cases b2 : okN v with
    | false =>
      simp only [Bool.false_eq_true, if_false, wp_lpK_rt]
      exact h3 b1 b2
    | true =>
      simp only [if_true, wp_lpK_nx, wp_for_nil]
      exact h1 b1 b2
def p2F : FS := (ifS (notT (tst (callD F_isn [] (consA (nm 4) nilA)))) (retS (ofF (lstF (consA (fun _ S => R.ok (.int 3, S)) (consA (callE reprXL (consA (ofF (lstF (consA (nm 4) nilA))) nilA)) nilA))))) nxS)
theorem p2_spec {u : D} (hu : Pl u) (eu : El u) {o0 o1 o2 o3 : Option D} {S : List D} {Q : Ctl × PL.Env × List D → Prop} {EX : EXT}
    (h : if numB u = true then Q (.nx, [o0, o1, o2, o3, some u], S) else Q (.rt (.lst [.int 3, .str (rpl u)]), [o0, o1, o2, o3, some u], S)) : Sat (p2F [o0, o1, o2, o3, some u] S) Q EX := by
  have e1 := isn_ok u hu
  have e2 := (el_rpl eu).1
  unfold p2F
  cases nb : numB u with
  | true =>
    rw [nb] at h e1
    simp [e1]
    simpa using h
  | false =>
    rw [nb] at h e1
    simp [e1, e2, LINE]
    simpa using h
theorem two2 {u v : D} (hu : Pl u) (eu : El u) (hv : Pl v) (ev : El v) {o0 o1 o2 o3 o5 : Option D} {S : List D} {Q : Ctl × PL.Env × List D → Prop} {EX : EXT}
    (h1 : numB u = true → numB v = true → Q (.nx, [o0, o1, o2, o3, some v], S)) (h2 : numB u = false → Q (.rt (.lst [.int 3, .str (rpl u)]), [o0, o1, o2, o3, some u], S)) (h3 : numB u = true → numB v = false → Q (.rt (.lst [.int 3, .str (rpl v)]), [o0, o1, o2, o3, some v], S)) :
    Sat (forL (nmG 4) p2F [u, v] [o0, o1, o2, o3, o5] S) Q EX := by
  rw [wp_for_cons]
  simp only [wp_nmG, wp_bind, wp_setS, wp_set0, wp_ok]
  refine p2_spec hu eu ?_
  cases b1 : numB u with
  | false =>
    simp only [Bool.false_eq_true, if_false, wp_lpK_rt]
    exact h2 b1
  | true =>
    simp only [if_true, wp_lpK_nx]
    rw [wp_for_cons]
    simp only [wp_nmG, wp_bind, wp_setS, wp_set0, wp_ok]
    refine p2_spec hv ev ?_
    cases b2 : numB v with
    | false =>
      simp only [Bool.false_eq_true, if_false, wp_lpK_rt]
      exact h3 b1 b2
    | true =>
      simp only [if_true, wp_lpK_nx, wp_for_nil]
      exact h1 b1 b2
theorem pl_int {a : List Int} : ∀ x ∈ intL a, Pl x := fun x hx => by
  obtain ⟨i, _, rfl⟩ := List.mem_map.mp hx
  exact True.intro
theorem chd_eq {a b : List Int} (hl : a.length = b.length) (h6 : a.length ≤ 60) {at_ new gone : D} (pa : At at_) (pn : El new) (pg : El gone) :
    F_chd [.tup (intL a), .tup (intL b), at_, new, gone] = R.ok ((chO (intL a) (intL b) at_ new gone).due (.tup (repl (intL a) (iv at_) new)) (.tup (repl (intL b) (iv at_) gone))) := by
  have ei := isI at_ pa.1
  have eb := isB at_ pa.1
  have er : reprXL [at_] = some (.str (rp1 at_)) := pa.2.1
  cases hb : inB at_ 0 (((intL a).length : Int) - 1) with
  | false =>
    have ho : chO (intL a) (intL b) at_ new gone = .tick at_ := if_neg (by rw [hb]; decide)
    rw [ho]
    have lx : lenD [.tup (intL a)] = some (.int (a.length : Int)) := by simp
    generalize D.tup (intL a) = X at *
    generalize D.tup (intL b) = Y at *
    refine eq_sat ((wp_runF rfl).mpr ?_)
    unfold f_chd
    show Sat _ (fun r => Sat (endD r) (fun x => x = .lst [.int 2, .str (rp1 at_)]) EX0) EX0
    obtain ⟨t, ht⟩ : ∃ t, rp1 at_ = t := ⟨_, rfl⟩
    rw [ht] at er ⊢
    clear ht
    cases at_ with
    | int i =>
      simp [inB] at hb
      simp [startE, ei, eb, lx, er, -reprXL_int]
      by_cases h1 : 0 ≤ i
      · have h2 : ¬ i < (a.length : Int) := by have := hb h1; omega
        simp [h1, h2, er, LINE, -reprXL_int]
      · simp [h1, er, LINE, -reprXL_int]
    | ins => exact pa.1.elim
    | cls => exact pa.1.elim
    | exn => exact pa.1.elim
    | _ => simp [startE, ei, eb, er, LINE]
  | true =>
    obtain ⟨n, rfl, hn⟩ : ∃ n : Nat, at_ = .int n ∧ n < a.length := by
      cases at_ with
      | int i =>
        simp [inB] at hb
        exact ⟨i.toNat, by rw [Int.toNat_of_nonneg hb.1], by omega⟩
      | _ => cases hb
    have hnb : n < b.length := by omega
    have ho : chO (intL a) (intL b) (.int n) new gone = (if okN new = true then (if okN gone = true then fo (.tup (repl (intL a) n new)) (.tup (repl (intL b) n gone)) else .num gone) else .num new) := if_pos hb
    rw [ho]
    have q1 := plR_repl (pl_int (a := a)) (by simpa using h6) pn.1 (n : Int)
    have q2 := plR_repl (pl_int (a := b)) (by simpa using (show b.length ≤ 60 by omega)) pg.1 (n : Int)
    have mk := made_ok q1 q2
    have i1 := atI_int (a := a) (i := n) hn
    have i2 := atI_int (a := b) (i := n) hnb
    have c1 : cutG (intL a) none (some (n : Int)) ++ (.int a[n]) :: cutG (intL a) (some ((n : Int) + 1)) none = intL a := by
      have := cut_put (xs := intL a) (i := n) (by simpa using hn)
      simpa using this
    have c2 : cutG (intL b) none (some (n : Int)) ++ (.int b[n]) :: cutG (intL b) (some ((n : Int) + 1)) none = intL b := by
      have := cut_put (xs := intL b) (i := n) (by simpa using hnb)
      simpa using this
    have z1 := cutG_len (xs := intL a) (lo := none) (hi := some (n : Int))
    have z2 := cutG_len (xs := intL a) (lo := some ((n : Int) + 1)) (hi := none)
    have z3 := cutG_len (xs := intL b) (lo := none) (hi := some (n : Int))
    have z4 := cutG_len (xs := intL b) (lo := some ((n : Int) + 1)) (hi := none)
    have la : (intL a).length = a.length := by simp
    have lb : (intL b).length = b.length := by simp
    rw [la] at z1 z2
    rw [lb] at z3 z4
    have k1 : ((n : Int) < (a.length : Int)) := by omega
    refine eq_sat ((wp_runF rfl).mpr ?_)
    unfold f_chd
    show Sat _ (fun r => Sat (endD r) (fun x => x = Out.due (.tup (repl (intL a) n new)) (.tup (repl (intL b) n gone)) (if okN new = true then (if okN gone = true then fo (.tup (repl (intL a) n new)) (.tup (repl (intL b) n gone)) else .num gone) else .num new)) EX0) EX0
    simp [startE, tyK, known, tyB, hn, LINE]
    refine two1 pn.1 pn pg.1 pg (fun b1 b2 => ?_) (fun b1 => ?_) (fun b1 b2 => ?_)
    · have r1 : ∀ v : D, isNoneD v = true → repl (intL a) n v = intL a := fun v h => if_pos h
      have r2 : ∀ v : D, isNoneD v = true → repl (intL b) n v = intL b := fun v h => if_pos h
      have r3 : ∀ v : D, isNoneD v = false → repl (intL a) n v = cutG (intL a) none (some (n : Int)) ++ v :: cutG (intL a) (some ((n : Int) + 1)) none := fun v h => if_neg (by rw [h]; decide)
      have r4 : ∀ v : D, isNoneD v = false → repl (intL b) n v = cutG (intL b) none (some (n : Int)) ++ v :: cutG (intL b) (some ((n : Int) + 1)) none := fun v h => if_neg (by rw [h]; decide)
      cases h1 : isNoneD new with
      | true =>
        rw [r1 new h1] at *
        cases h2 : isNoneD gone with
        | true =>
          rw [r2 gone h2] at *
          simp [isD, h1, h2, i1, i2, slcD, LINE, c1, c2, mk, b1, b2]
          omega
        | false =>
          rw [r4 gone h2] at *
          simp [isD, h1, h2, i1, i2, slcD, LINE, c1, mk, b1, b2]
          omega
      | false =>
        rw [r3 new h1] at *
        cases h2 : isNoneD gone with
        | true =>
          rw [r2 gone h2] at *
          simp [isD, h1, h2, i1, i2, slcD, LINE, c2, mk, b1, b2]
          omega
        | false =>
          rw [r4 gone h2] at *
          simp [isD, h1, h2, i1, i2, slcD, LINE, mk, b1, b2]
          omega
    · simp [b1, Out.due]
    · simp [b1, b2, Out.due]
end K05
set_option Elab.async false
set_option linter.all false
set_option maxRecDepth 100000
set_option maxHeartbeats 4000000
namespace K05
open PySem PySem.Spec PyProof.Rows L2 ClX PL
open LW (PoolOk Flow intL atI3 rng_at pre cnt)
def exO (xs ys : List D) (new gone : D) : Out := if numB new = true then (if numB gone = true then (if 60 ≤ xs.length then .many else fo (.tup (xs ++ [new])) (.tup (ys ++ [gone]))) else .num gone) else .num new
theorem plR_app {xs : List D} (h : ∀ x ∈ xs, Pl x) (hl : xs.length ≤ 60) {v : D} (hv : Pl v) : PlR (.tup (xs ++ [v])) := ⟨fun x hx => by
  rcases List.mem_append.mp hx with hx | hx
  · exact h x hx
  · rw [List.mem_singleton.mp hx]; exact hv, by simp; omega⟩
theorem exd_eq {xs ys : List D} (hx : ∀ x ∈ xs, Pl x) (hy : ∀ y ∈ ys, Pl y) (hl : xs.length = ys.length) (h6 : xs.length ≤ 60) {new gone : D} (pn : Pl new) (pg : Pl gone) :
    F_exd [ctr (.tup xs) (.tup ys), new, gone] = (exO xs ys new gone).r (.tup (xs ++ [new])) (.tup (ys ++ [gone])) := by
  have e2 := cnu_spec new pn
  have e3 := cnu_spec gone pg
  have fa := fld_a (.tup xs) (.tup ys)
  have fd := fld_d (.tup xs) (.tup ys)
  have lx : lenD [.tup xs] = some (.int (xs.length : Int)) := by simp
  have p : ∀ x y : D, pick [0, 1] [x, y] = [x, y] := fun _ _ => rfl
  have a1 : addD (.tup xs) (.tup [new]) = some (.tup (xs ++ [new])) := by rw [addD_tup, if_pos (by simp only [LINE, List.length_cons, List.length_nil]; omega)]
  have a2 : addD (.tup ys) (.tup [gone]) = some (.tup (ys ++ [gone])) := by rw [addD_tup, if_pos (by simp only [LINE, List.length_cons, List.length_nil]; omega)]
  have q1 := plR_app hx h6 pn
  have q2 := plR_app hy (by omega) pg
  have i0 := fun (Q : List D → Prop) (EX : EXT) => ini_fo (Q := Q) (EX := EX) q1 q2
  have fs := fo_sat (X := .tup (xs ++ [new])) (Y := .tup (ys ++ [gone]))
  refine eq_out ((wp_runF rfl).mpr ?_)
  unfold f_exd exO
  generalize ctr (.tup xs) (.tup ys) = c at *
  generalize D.tup (xs ++ [new]) = U at *
  generalize D.tup (ys ++ [gone]) = V at *
  generalize D.tup xs = X at *
  generalize D.tup ys = Y at *
  have tail : Sat (F_ini [U, V]) (fun es => (fo U V = Out.fine ∧ D.ins "Counts" nm_ini es = ctr U V)) (fun c ns ws => (fo U V).r U V = R.exc c ns ws) := i0 _ _ (fs.imp fun d hd => ⟨hd.1, hd.2, rfl⟩)
  cases nn : numB new with
  | false =>
    rw [nn] at e2
    simp [startE, e2, RX, nn, Out.r]
  | true =>
    rw [nn] at e2
    cases ng : numB gone with
    | false =>
      rw [ng] at e3
      simp [startE, e2, e3, RX, nn, ng, Out.r]
    | true =>
      rw [ng] at e3
      by_cases h : 60 ≤ xs.length
      · have h' : (60 : Int) ≤ (xs.length : Int) := by omega
        simp [startE, fa, lx, e2, e3, RX, nn, ng, h, h', Out.r]
      · have h' : ¬ (60 : Int) ≤ (xs.length : Int) := by omega
        simp [startE, fa, fd, lx, e2, e3, RX, nn, ng, h, h', a1, a2, p, LINE]
        exact tail
theorem exdu_eq {a b : List Int} (hl : a.length = b.length) (h6 : a.length ≤ 60) {new gone : D} (pn : El new) (pg : El gone) :
    F_exdu [.tup (intL a), .tup (intL b), new, gone] = R.ok ((exO (intL a) (intL b) new gone).due (.tup (intL a ++ [new])) (.tup (intL b ++ [gone]))) := by
  have q1 := plR_app (pl_int (a := a)) (by simpa using h6) pn.1
  have q2 := plR_app (pl_int (a := b)) (by simpa using (show b.length ≤ 60 by omega)) pg.1
  have mk := made_ok q1 q2
  have lx : lenD [.tup (intL a)] = some (.int (a.length : Int)) := by simp
  have a1 : addD (.tup (intL a)) (.tup [new]) = some (.tup (intL a ++ [new])) := by rw [addD_tup, if_pos (by simp only [LINE, List.length_cons, List.length_nil, List.length_map]; omega)]
  have a2 : addD (.tup (intL b)) (.tup [gone]) = some (.tup (intL b ++ [gone])) := by rw [addD_tup, if_pos (by simp only [LINE, List.length_cons, List.length_nil, List.length_map]; omega)]
  have la : (intL a).length = a.length := by simp
  refine eq_sat ((wp_runF rfl).mpr ?_)
  unfold f_exdu exO
  generalize D.tup (intL a ++ [new]) = U at *
  generalize D.tup (intL b ++ [gone]) = V at *
  rw [la]
  generalize D.tup (intL a) = X at *
  generalize D.tup (intL b) = Y at *
  simp [startE, LINE]
  refine two2 pn.1 pn pg.1 pg (fun b1 b2 => ?_) (fun b1 => ?_) (fun b1 b2 => ?_)
  · by_cases h : 60 ≤ a.length
    · have h' : a.length = 60 := by omega
      have h'' : (a.length : Int) = 60 := by omega
      simp [lx, h'', LINE, b1, b2, h, Out.due]
    · have h'' : ¬ (a.length : Int) = 60 := by omega
      simp [lx, h'', LINE, b1, b2, h, a1, a2, mk]
  · simp [b1, Out.due]
  · simp [b1, b2, Out.due]
/-! the outcomes can be -/
theorem ch_ok {xs ys : List D} {at_ new gone : D} (pa : At at_) (pn : El new) (pg : El gone) : OutOk (.tup (repl xs (iv at_) new)) (.tup (repl ys (iv at_) gone)) (chO xs ys at_ new gone) := by
  unfold chO
  split
  · split
    · split
      · exact fo_ok _ _
      · exact pg
    · exact pn
  · exact pa
theorem ex_ok {xs ys : List D} {new gone : D} (pn : El new) (pg : El gone) : OutOk (.tup (xs ++ [new])) (.tup (ys ++ [gone])) (exO xs ys new gone) := by
  unfold exO
  split
  · split
    · split
      · exact True.intro
      · exact fo_ok _ _
    · exact pg
  · exact pn
theorem cha_c {a b : List Int} (hl : a.length = b.length) (h6 : a.length ≤ 60) {at_ new gone : D} (pa : At at_) (pn : El new) (pg : El gone) :
    ∃ du : D, F_caught (F_cha [ctr (.tup (intL a)) (.tup (intL b)), at_, new, gone]) = R.ok du ∧ F_chd [.tup (intL a), .tup (intL b), at_, new, gone] = R.ok du ∧ neD du du = some (.bl false) := by
  refine ⟨_, ?_, chd_eq hl h6 pa pn pg, (eqD_self (due_nd (ch_ok pa pn pg)) (by omega)).2⟩
  rw [cha_eq pl_int pl_int (by simpa using hl) (by simpa using h6) pa.1 pn.1 pg.1]
  exact caught_out (ch_ok pa pn pg)
theorem exd_c {a b : List Int} (hl : a.length = b.length) (h6 : a.length ≤ 60) {new gone : D} (pn : El new) (pg : El gone) :
    ∃ du : D, F_caught (F_exd [ctr (.tup (intL a)) (.tup (intL b)), new, gone]) = R.ok du ∧ F_exdu [.tup (intL a), .tup (intL b), new, gone] = R.ok du ∧ neD du du = some (.bl false) ∧ eqD du du = some (.bl true) := by
  refine ⟨_, ?_, exdu_eq hl h6 pn pg, (eqD_self (due_nd (ex_ok pn pg)) (by omega)).2, (eqD_self (due_nd (ex_ok pn pg)) (by omega)).1⟩
  rw [exd_eq pl_int pl_int (by simpa using hl) (by simpa using h6) pn.1 pg.1]
  exact caught_out (ex_ok pn pg)
end K05
set_option Elab.async false
set_option linter.all false
set_option maxRecDepth 100000
set_option maxHeartbeats 4000000
namespace K05
open PySem PySem.Spec PyProof.Rows L2 ClX PL
open LW (PoolOk Flow intL atI3 rng_at pre cnt)
theorem lam_end {r : R D} {S : List D} : ((r >>= fun d => R.ok (d, S)) >>= fun x => R.ok x.1) = r := by cases r <;> rfl
theorem n_cha : nm_ini.contains ("changed" : Str) = false := by decide +kernel
theorem n_exd : nm_ini.contains ("extended" : Str) = false := by decide +kernel
section
variable {X Y at_ new gone : D} {o2 o3 o5 o8 : Option D}
abbrev envT (X Y at_ new gone : D) (o2 o3 o5 o8 : Option D) : PL.Env := [none, some (.ins "Counts" nm_ini [X, Y]), o2, o3, some at_, o5, some new, some gone, o8]
theorem lam1 : (mthN "Counts" "changed" F_cha 2 2 [0, 1, 3, 2] [] (nm 1) (consA (nm 4) nilA) (consA (nm 7) (consA (nm 6) nilA)) (wipeE (envT X Y at_ new gone o2 o3 o5 o8) [0]) [] >>= fun x => R.ok x.1) = F_cha [ctr X Y, at_, new, gone] := by
  rw [ev_mthN (S1 := []) (c := "Counts") (ns := nm_ini) (vs := [X, Y]) rfl ⟨rfl, n_cha⟩]
  exact lam_end (r := F_cha [ctr X Y, at_, new, gone]) (S := [])
theorem lam2 : (mthN "Counts" "changed" F_cha 1 2 [0, 2, 1, 3] [.non] (nm 1) nilA (consA (nm 4) (consA (nm 7) nilA)) (wipeE (envT X Y at_ new gone o2 o3 o5 o8) [0]) [] >>= fun x => R.ok x.1) = F_cha [ctr X Y, at_, .non, gone] := by
  rw [ev_mthN (S1 := []) (c := "Counts") (ns := nm_ini) (vs := [X, Y]) rfl ⟨rfl, n_cha⟩]
  exact lam_end (r := F_cha [ctr X Y, at_, .non, gone]) (S := [])
theorem lam3 : (mthN "Counts" "changed" F_cha 2 1 [0, 1, 3, 2] [.non] (nm 1) (consA (nm 4) nilA) (consA (nm 6) nilA) (wipeE (envT X Y at_ new gone o2 o3 o5 o8) [0]) [] >>= fun x => R.ok x.1) = F_cha [ctr X Y, at_, new, .non] := by
  rw [ev_mthN (S1 := []) (c := "Counts") (ns := nm_ini) (vs := [X, Y]) rfl ⟨rfl, n_cha⟩]
  exact lam_end (r := F_cha [ctr X Y, at_, new, .non]) (S := [])
theorem lam4 : (mthN "Counts" "extended" F_exd 3 0 [0, 1, 2] [] (nm 1) (consA (nm 6) (consA (nm 7) nilA)) nilA (wipeE (envT X Y at_ new gone o2 o3 o5 o8) [0]) [] >>= fun x => R.ok x.1) = F_exd [ctr X Y, new, gone] := by
  rw [ev_mthN (S1 := []) (c := "Counts") (ns := nm_ini) (vs := [X, Y]) rfl ⟨rfl, n_exd⟩]
  exact lam_end (r := F_exd [ctr X Y, new, gone]) (S := [])
theorem lam5 : (mthN "Counts" "extended" F_exd 1 2 [0, 2, 1] [] (nm 1) nilA (consA (nm 7) (consA (nm 6) nilA)) (wipeE (envT X Y at_ new gone o2 o3 o5 o8) [0]) [] >>= fun x => R.ok x.1) = F_exd [ctr X Y, new, gone] := by
  rw [ev_mthN (S1 := []) (c := "Counts") (ns := nm_ini) (vs := [X, Y]) rfl ⟨rfl, n_exd⟩]
  exact lam_end (r := F_exd [ctr X Y, new, gone]) (S := [])
end
def tailF : FS := (seqS (asgS (callD F_chd [] (consA (nm 2) (consA (nm 3) (consA (nm 4) (consA (nm 6) (consA (nm 7) nilA)))))) (nmG 8))
  (seqS (ifS (tstB (bin2 neD (lamE [0] F_caught (mthN "Counts" "changed" F_cha 2 2 [0, 1, 3, 2] [] (nm 1) (consA (nm 4) nilA) (consA (nm 7) (consA (nm 6) nilA)))) (nm 8))) (retS (fun _ S => R.ok (.bl false, S))) nxS)
  (seqS (ifS (andT (tstB (bin2 isD (nm 6) (fun _ S => R.ok (.non, S)))) (tstB (bin2 neD (lamE [0] F_caught (mthN "Counts" "changed" F_cha 1 2 [0, 2, 1, 3] [.non] (nm 1) nilA (consA (nm 4) (consA (nm 7) nilA)))) (nm 8)))) (retS (fun _ S => R.ok (.bl false, S))) nxS)
  (seqS (ifS (andT (tstB (bin2 isD (nm 7) (fun _ S => R.ok (.non, S)))) (tstB (bin2 neD (lamE [0] F_caught (mthN "Counts" "changed" F_cha 2 1 [0, 1, 3, 2] [.non] (nm 1) (consA (nm 4) nilA) (consA (nm 6) nilA))) (nm 8)))) (retS (fun _ S => R.ok (.bl false, S))) nxS)
  (seqS (asgS (callD F_exdu [] (consA (nm 2) (consA (nm 3) (consA (nm 6) (consA (nm 7) nilA))))) (nmG 8))
  (seqS (ifS (tstB (bin2 neD (lamE [0] F_caught (mthN "Counts" "extended" F_exd 3 0 [0, 1, 2] [] (nm 1) (consA (nm 6) (consA (nm 7) nilA)) nilA)) (nm 8))) (retS (fun _ S => R.ok (.bl false, S))) nxS)
  (retS (bin2 eqD (lamE [0] F_caught (mthN "Counts" "extended" F_exd 1 2 [0, 2, 1] [] (nm 1) nilA (consA (nm 7) (consA (nm 6) nilA)))) (nm 8)))))))))
theorem tail_spec {X Y at_ h new gone du du2 : D} {S : List D} (e1 : F_caught (F_cha [ctr X Y, at_, new, gone]) = R.ok du) (e2 : F_chd [X, Y, at_, new, gone] = R.ok du) (e3 : neD du du = some (.bl false))
    (e4 : F_caught (F_exd [ctr X Y, new, gone]) = R.ok du2) (e5 : F_exdu [X, Y, new, gone] = R.ok du2) (e6 : neD du2 du2 = some (.bl false)) (e7 : eqD du2 du2 = some (.bl true)) :
    Sat (tailF [none, some (.ins "Counts" nm_ini [X, Y]), some X, some Y, some at_, some h, some new, some gone, none] S) (fun r => Sat (endP r) (fun r => r.1 = .bl true ∧ r.2 = S) EX0) EX0 := by
  have l1 := fun o8 => lam1 (X := X) (Y := Y) (at_ := at_) (new := new) (gone := gone) (o2 := some X) (o3 := some Y) (o5 := some h) (o8 := o8)
  have l2 := fun o8 => lam2 (X := X) (Y := Y) (at_ := at_) (new := new) (gone := gone) (o2 := some X) (o3 := some Y) (o5 := some h) (o8 := o8)
  have l3 := fun o8 => lam3 (X := X) (Y := Y) (at_ := at_) (new := new) (gone := gone) (o2 := some X) (o3 := some Y) (o5 := some h) (o8 := o8)
  have l4 := fun o8 => lam4 (X := X) (Y := Y) (at_ := at_) (new := new) (gone := gone) (o2 := some X) (o3 := some Y) (o5 := some h) (o8 := o8)
  have l5 := fun o8 => lam5 (X := X) (Y := Y) (at_ := at_) (new := new) (gone := gone) (o2 := some X) (o3 := some Y) (o5 := some h) (o8 := o8)
  unfold tailF
  simp [e2]
  rw [l1, e1]
  simp [e3, isD]
  have fin : Sat (F_exdu [X, Y, new, gone]) (fun d => d = du2) EX0 := by
    rw [e5]; rfl
  cases hn : isNoneD new with
  | true =>
    obtain rfl := isNone_non hn
    simp
    rw [l2, e1]
    simp [e3]
    cases hg : isNoneD gone with
    | true =>
      obtain rfl := isNone_non hg
      simp
      rw [l3, e1]
      simp [e3, e5]
      rw [l4, e4]
      simp [e6]
      rw [l5, e4]
      simp [e7]
    | false =>
      simp [e5]
      rw [l4, e4]
      simp [e6]
      rw [l5, e4]
      simp [e7]
  | false =>
    simp
    cases hg : isNoneD gone with
    | true =>
      obtain rfl := isNone_non hg
      simp
      rw [l3, e1]
      simp [e3, e5]
      rw [l4, e4]
      simp [e6]
      rw [l5, e4]
      simp [e7]
    | false =>
      simp [e5]
      rw [l4, e4]
      simp [e6]
      rw [l5, e4]
      simp [e7]
end K05
set_option Elab.async false
set_option linter.all false
set_option maxRecDepth 100000
set_option maxHeartbeats 4000000
namespace K05
open PySem PySem.Spec PyProof.Rows L2 ClX PL
open LW (PoolOk Flow intL atI3 rng_at pre cnt)
def odd (h : Int) : List D := [.non, .non, .int 0, .int h, .int (h + 1), .int 1, .int 999, .int 1000, .int (-1), .bl true, .str "1", .tup [.int 1], .lst [.int 1], .non, .int 100000000000000000000, .bl false]
theorem el_odd {h : Int} (h0 : 0 ≤ h) (h1 : h ≤ 999) : ∀ d ∈ odd h, El d := by
  intro d hd
  have en : El .non := ⟨True.intro, (TxR.non (k := 2)).mono (by omega) (by omega)⟩
  simp only [odd, List.mem_cons, List.not_mem_nil, or_false] at hd
  rcases hd with rfl | rfl | rfl | rfl | rfl | rfl | rfl | rfl | rfl | rfl | rfl | rfl | rfl | rfl | rfl | rfl
  · exact en
  · exact en
  · exact el_int (by omega) (by omega)
  · exact el_int (by omega) (by omega)
  · exact el_int (by omega) (by omega)
  · exact el_int (by omega) (by omega)
  · exact el_int (by omega) (by omega)
  · exact el_int (by omega) (by omega)
  · exact el_int (by omega) (by omega)
  · exact ⟨True.intro, (TxR.bl (k := 2) true).mono (by omega) (by omega)⟩
  · exact ⟨True.intro, (TxR.str (k := 2) (show Nice 1 ("1" : String) from nice_of (by decide))).mono (by omega) (by omega)⟩
  · exact ⟨True.intro, (TxR.tup (k := 1) (.cons (TxR.i3 (i := 1) (by omega) (by omega)) .nil)).mono (by omega) (by omega)⟩
  · exact ⟨True.intro, (TxR.lst (k := 1) (.cons (TxR.i3 (i := 1) (by omega) (by omega)) .nil)).mono (by omega) (by omega)⟩
  · exact en
  · exact ⟨True.intro, .int (show Nice 30 ((toString (100000000000000000000 : Int) : String) : Str) from nice_of (by decide +kernel)) (by decide +kernel)⟩
  · exact ⟨True.intro, (TxR.bl (k := 2) false).mono (by omega) (by omega)⟩
theorem p20 : powD (.int 10) (.int 20) = some (.int 100000000000000000000) := by kernel_rfl
theorem thing_spec {S : List D} {h : Int} (hS : PoolOk S) (h0 : 0 ≤ h) (h1 : h ≤ 999) : Sat (F_thing S [.int h]) (fun r => El r.1 ∧ PoolOk r.2) EX0 := by
  refine (wp_runP rfl).mpr ?_
  unfold f_thing
  simp [startP, startE, LINE, p20]
  refine (draw_spec (n := 2) hS (by decide) (by decide)).imp ?_
  rintro ⟨_, S1⟩ ⟨v, rfl, hv0, hv1, hS1⟩
  by_cases hv : v = 0
  · subst hv
    simp
    refine (draw_spec (n := 16) hS1 (by decide) (by decide)).imp ?_
    rintro ⟨_, S2⟩ ⟨w, rfl, hw0, hw1, hS2⟩
    obtain ⟨d, e, hd, _⟩ := atI_of (xs := odd h) (i := w) hw0 (by simpa [odd] using hw1)
    have hel := el_odd h0 h1 d hd
    unfold odd at e
    simp
    rw [e]
    simp
    exact ⟨hel, hS2⟩
  · simp [hv]
    refine (draw_spec (n := h + 3) hS1 (by omega) (by omega)).imp ?_
    rintro ⟨_, S2⟩ ⟨w, rfl, hw0, hw1, hS2⟩
    simp
    exact ⟨el_int (by omega) (by omega), hS2⟩
end K05
set_option Elab.async false
set_option linter.all false
set_option maxRecDepth 100000
set_option maxHeartbeats 4000000
namespace K05
open PySem PySem.Spec PyProof.Rows L2 ClX PL
open LW (PoolOk Flow intL atI3 rng_at pre cnt)
/-! ticks -/
theorem at_int {i : Int} (h0 : -999 ≤ i) (h1 : i < 1000) : At (.int i) :=
  at_of True.intro (t := ((toString i : String) : Str)) (if_pos (log_smallZ h0 h1)) ((nice_intZ h0 h1).mono (by omega))
def odt (v n : Int) : List D := [.int v, .int v, .int v, .int v, .int v, .int v, .int (-1), .int n, .non, .bl true, .str "0", .int 60]
theorem at_odt {v n : Int} (h0 : 0 ≤ v) (h1 : v ≤ 60) (h2 : 0 ≤ n) (h3 : n ≤ 60) : ∀ d ∈ odt v n, At d := by
  intro d hd
  simp only [odt, List.mem_cons, List.not_mem_nil, or_false] at hd
  rcases hd with rfl | rfl | rfl | rfl | rfl | rfl | rfl | rfl | rfl | rfl | rfl | rfl
  · exact at_int (by omega) (by omega)
  · exact at_int (by omega) (by omega)
  · exact at_int (by omega) (by omega)
  · exact at_int (by omega) (by omega)
  · exact at_int (by omega) (by omega)
  · exact at_int (by omega) (by omega)
  · exact at_int (by omega) (by omega)
  · exact at_int (by omega) (by omega)
  · exact at_of True.intro (t := "None") rfl (show Nice 40 ("None" : String) from nice_of (by decide))
  · exact at_of True.intro (t := "True") rfl (show Nice 40 ("True" : String) from nice_of (by decide))
  · exact at_of True.intro (t := reprText "0") (by kernel_rfl) (by
      have e : reprText ("0" : Str) = (("'0'" : String) : Str) := by decide +kernel
      rw [e]
      exact nice_of (by decide))
  · exact at_int (by omega) (by omega)
theorem odt_k {v n : Int} : ∀ d ∈ odt v n, (∃ i, d = .int i) ∨ d = .non ∨ d = .bl true ∨ d = .str "0" := by
  intro d hd
  simp only [odt, List.mem_cons, List.not_mem_nil, or_false] at hd
  rcases hd with rfl | rfl | rfl | rfl | rfl | rfl | rfl | rfl | rfl | rfl | rfl | rfl <;> simp
theorem rep6 (x : D) : repF (.lst [x]) (.int 6) = some [x, x, x, x, x, x] := by
  simp [repF, LINE, List.replicate]
def hereS : FS := asgS (ifE (tst (un1 (isiD (tyK "int") (inst0 cs)) (nm 4))) (bin2 idxD (nm 2) (bin2 modDx (nm 4) (callE lenD (consA (nm 2) nilA)))) (fun _ S => R.ok (.int 3, S))) (nmG 5)
theorem mod_at {a : List Int} (oa : Ok3 a) (h0 : 1 ≤ a.length) (i : Int) : ∃ h : Int, 0 ≤ h ∧ h ≤ 999 ∧ idxD (.tup (intL a)) (.int (i % (a.length : Int))) = some (.int h) := by
  have q1 := Int.emod_nonneg i (show (a.length : Int) ≠ 0 by omega)
  have q2 := Int.emod_lt_of_pos i (show (0 : Int) < (a.length : Int) by omega)
  obtain ⟨k, hk⟩ : ∃ k : Nat, i % (a.length : Int) = k := ⟨(i % (a.length : Int)).toNat, by omega⟩
  have hkl : k < a.length := by omega
  have e := atI_int (a := a) (i := k) hkl
  have o := oa a[k] (List.getElem_mem hkl)
  refine ⟨a[k], o.1, by omega, ?_⟩
  rw [hk]
  simp [e]
theorem here_ok {a : List Int} (oa : Ok3 a) (h0 : 1 ≤ a.length) {v n : Int} {d : D} (hd : d ∈ odt v n) {c Y : D} {S : List D} {Q : Ctl × PL.Env × List D → Prop} {EX : EXT}
    (h : ∀ h : Int, 0 ≤ h → h ≤ 999 → Q (.nx, [none, some c, some (.tup (intL a)), some Y, some d, some (.int h), none, none, none], S)) : Sat (hereS [none, some c, some (.tup (intL a)), some Y, some d, none, none, none, none] S) Q EX := by
  have hp : (0 : Int) < (a.length : Int) := by omega
  have lx : lenD [.tup (intL a)] = some (.int (a.length : Int)) := by simp
  rcases odt_k d hd with ⟨i, rfl⟩ | rfl | rfl | rfl
  · obtain ⟨x, x0, x1, e⟩ := mod_at oa h0 i
    have q := h x x0 x1
    generalize D.tup (intL a) = X at *
    unfold hereS
    simp [tyK, known, tyB, hp, lx, e]
    exact ⟨h0, q⟩
  · have q := h 3 (by omega) (by omega)
    unfold hereS
    simp [tyK, known, tyB]
    exact q
  · obtain ⟨x, x0, x1, e⟩ := mod_at oa h0 1
    have q := h x x0 x1
    generalize D.tup (intL a) = X at *
    unfold hereS
    simp [tyK, known, tyB, hp, lx, e]
    exact ⟨h0, q⟩
  · have q := h 3 (by omega) (by omega)
    unfold hereS
    simp [tyK, known, tyB]
    exact q
theorem f_turn_eq : f_turn = (seqS (parS 2 3 (consA (un1 (fldD "Counts" "arrivals") (nm 1)) (consA (un1 (fldD "Counts" "departures") (nm 1)) nilA)))
  (seqS (asgS (bin2 idxD (ofF (bin2F catF (ofF (bin2F repF (ofF (lstF (consA (callP F_draw (consA (callE lenD (consA (nm 2) nilA)) nilA)) nilA))) (fun _ S => R.ok (.int 6, S)))) (ofF (lstF (consA (un1 negD (fun _ S => R.ok (.int 1, S))) (consA (callE lenD (consA (nm 2) nilA)) (consA (fun _ S => R.ok (.non, S)) (consA (fun _ S => R.ok (.bl true, S)) (consA (fun _ S => R.ok (.str "0", S)) (consA (fun _ S => R.ok (.int 60, S)) nilA)))))))))) (callP F_draw (consA (fun _ S => R.ok (.int 12, S)) nilA))) (nmG 4))
  (seqS hereS
  (seqS (asgS (tupE (consA (callP F_thing (consA (nm 5) nilA)) (consA (callP F_thing (consA (nm 5) nilA)) nilA))) (tupG 2 (consG (nmG 6) (consG (nmG 7) nilG)))) tailF)))) := rfl
theorem turn_spec {S : List D} (hS : PoolOk S) {a b : List Int} (f : Flow a b 999) (h1 : 1 ≤ a.length) (h2 : a.length ≤ 60) : Sat (F_turn S [ctr (.tup (intL a)) (.tup (intL b))]) (fun r => r.1 = .bl true ∧ PoolOk r.2) EX0 := by
  obtain ⟨oa, ob⟩ := Flow.ok3 f
  have hl := f.len
  have fa := fld_a (.tup (intL a)) (.tup (intL b))
  have fd := fld_d (.tup (intL a)) (.tup (intL b))
  have lx : lenD [.tup (intL a)] = some (.int (a.length : Int)) := by simp
  have hh := fun (d : D) (v n : Int) (hd : d ∈ odt v n) (c Y : D) (S : List D) (Q : Ctl × PL.Env × List D → Prop) => here_ok (S := S) (Q := Q) (EX := EX0) oa h1 (v := v) (n := n) hd (c := c) (Y := Y)
  have tl := fun {at_ new gone : D} (pa : At at_) (pn : El new) (pg : El gone) (h : D) (S : List D) => (by
    obtain ⟨du, x1, x2, x3⟩ := cha_c hl h2 pa pn pg
    obtain ⟨du2, y1, y2, y3, y4⟩ := exd_c hl h2 pn pg
    exact tail_spec (h := h) (S := S) x1 x2 x3 y1 y2 y3 y4 : Sat (tailF [none, some (.ins "Counts" nm_ini [.tup (intL a), .tup (intL b)]), some (.tup (intL a)), some (.tup (intL b)), some at_, some h, some new, some gone, none] S) (fun r => Sat (endP r) (fun r => r.1 = .bl true ∧ r.2 = S) EX0) EX0)
  change ∀ {at_ new gone : D} (pa : At at_) (pn : El new) (pg : El gone) (h : D) (S : List D), Sat (tailF [none, some (ctr (.tup (intL a)) (.tup (intL b))), some (.tup (intL a)), some (.tup (intL b)), some at_, some h, some new, some gone, none] S) (fun r => Sat (endP r) (fun r => r.1 = .bl true ∧ r.2 = S) EX0) EX0 at tl
  refine (wp_runP rfl).mpr ?_
  rw [f_turn_eq]
  generalize ctr (.tup (intL a)) (.tup (intL b)) = c at *
  generalize D.tup (intL a) = X at *
  generalize D.tup (intL b) = Y at *
  simp [startP, startE, LINE, fa, fd, lx, rep6, catF]
  refine (draw_spec (n := (a.length : Int)) hS (by omega) (by omega)).imp ?_
  rintro ⟨_, S1⟩ ⟨v, rfl, hv0, hv1, hS1⟩
  refine (draw_spec (n := 12) hS1 (by decide) (by decide)).imp ?_
  rintro ⟨_, S2⟩ ⟨w, rfl, hw0, hw1, hS2⟩
  obtain ⟨d, e, hd, _⟩ := atI_of (xs := odt v (a.length : Int)) (i := w) hw0 (by simpa [odt] using hw1)
  have hat := at_odt hv0 (by omega) (by omega) (by omega) d hd
  unfold odt at e
  simp
  rw [e]
  show Sat (hereS [none, some c, some X, some Y, some d, none, none, none, none] S2) _ EX0
  refine hh d v (a.length : Int) hd _ _ _ _ fun x x0 x1 => ?_
  simp
  refine (thing_spec hS2 x0 x1).imp ?_
  rintro ⟨new, S3⟩ ⟨hn, hS3⟩
  simp
  refine (thing_spec hS3 x0 x1).imp ?_
  rintro ⟨gone, S4⟩ ⟨hg, hS4⟩
  simp [LINE]
  refine Sat.imp (tl (at_ := d) (new := new) (gone := gone) hat hn hg (.int x) S4) ?_
  exact fun r hr => Sat.imp hr fun q hq => ⟨hq.1, by rw [hq.2]; exact hS4⟩
end K05
set_option Elab.async false
set_option linter.all false
set_option maxRecDepth 100000
set_option maxHeartbeats 4000000
namespace K05
open PySem PySem.Spec PyProof.Rows L2 ClX PL
open LW (PoolOk Flow intL atI3 rng_at pre cnt)
theorem nd_ints {a : List Int} (h : Ok3 a) (l : a.length ≤ 61) : Nd 500 2 (.tup (intL a)) := by
  have key : ∀ {a : List Int}, Ok3 a → NdA (6 * a.length) 0 (intL a) := by
    intro a h
    induction a with
    | nil => exact .nil
    | cons x l ih => 
      have := NdA.cons (Nd.int (n := 4) (k := 0) (h x (by simp)).1 (h x (by simp)).2 (by omega)) (ih fun y hy => h y (by simp [hy]))
      have e : 6 * (x :: l).length = 4 + 6 * l.length + 2 := by simp; omega
      rw [e]
      exact this
  exact .tup (key h) (by omega) (by omega)
theorem whole_ok {a b : List Int} (f : Flow a b 999) (h2 : a.length ≤ 60) : F_whole [ctr (.tup (intL a)) (.tup (intL b)), .tup (intL a), .tup (intL b)] = R.ok (.bl true) := by
  obtain ⟨oa, ob⟩ := Flow.ok3 f
  have hl := f.len
  have fa := fld_a (.tup (intL a)) (.tup (intL b))
  have fd := fld_d (.tup (intL a)) (.tup (intL b))
  have p := pres_ok hl h2
  have r := rest_ok hl h2
  have op := prs_ok f
  have lp : (prs a b).length = a.length := by simp [prs]
  have nd : Nd 2000 4 (.lst [.tup (intL a), .tup (intL b), .tup (intL (prs a b))]) := .lst (.cons (nd_ints oa (by omega)) (.cons (nd_ints ob (by omega)) (.cons (nd_ints op (by omega)) .nil))) (by omega) (by omega)
  have eq := (eqD_self nd (by omega)).1
  have t : tupD [.lst (intL (prs a b))] = some (.tup (intL (prs a b))) := rfl
  refine eq_sat ((wp_runF rfl).mpr ?_)
  unfold f_whole
  unfold ctr at *
  generalize D.tup (intL a) = X at *
  generalize D.tup (intL b) = Y at *
  generalize intL (prs a b) = z at *
  simp [startE, fa, fd, p, r, t, LINE, eq]
theorem eq_me {a b : List Int} (oa : Ok3 a) (ob : Ok3 b) (h1 : a.length ≤ 60) (h2 : b.length ≤ 60) : F_eq [ctr (.tup (intL a)) (.tup (intL b)), ctr (.tup (intL a)) (.tup (intL b))] = R.ok (.bl true) := by
  have fa := fld_a (.tup (intL a)) (.tup (intL b))
  have fd := fld_d (.tup (intL a)) (.tup (intL b))
  have e1 := (eqD_self (nd_ints oa (by omega)) (by omega)).1
  have e2 := (eqD_self (nd_ints ob (by omega)) (by omega)).1
  refine eq_sat ((wp_runF rfl).mpr ?_)
  unfold f_eq
  generalize D.tup (intL a) = X at *
  generalize D.tup (intL b) = Y at *
  simp [startE, ctr, fldD, lookF, nm_ini, inst1, ad_ne, da_ne, e1, e2]
end K05
set_option Elab.async false
set_option linter.all false
set_option maxRecDepth 100000
set_option maxHeartbeats 4000000
namespace K05
open PySem PySem.Spec PyProof.Rows L2 ClX PL
open LW (PoolOk Flow intL atI3 rng_at pre cnt)
theorem repl_same {a : List Int} {k : Nat} (h : k < a.length) : repl (intL a) (k : Int) (.int a[k]) = intL a := by
  have := cut_put (xs := intL a) (i := k) (by simpa using h)
  have e : repl (intL a) (k : Int) (.int a[k]) = cutG (intL a) none (some (k : Int)) ++ .int a[k] :: cutG (intL a) (some ((k : Int) + 1)) none := rfl
  rw [e]
  simpa using this
theorem fine_of {X Y : D} (h : fault X Y = none) : fo X Y = .fine := by unfold fo; rw [h]
theorem num3 {i : Int} (h0 : 0 ≤ i) (h1 : i < 1000) : numB (.int i) = true := by simp [numB]; omega
theorem cha_put {a b : List Int} (f : Flow a b 999) (h1 : 1 ≤ a.length) (h2 : a.length ≤ 60) {k : Nat} (hk : k < a.length) {x y : D} (hx : x = .non ∨ x = .int a[k]) (hy : y = .non ∨ y = .int (b[k]'(by have := f.len; omega))) :
    F_cha [ctr (.tup (intL a)) (.tup (intL b)), .int (k : Int), x, y] = R.ok (ctr (.tup (intL a)) (.tup (intL b))) := by
  obtain ⟨oa, ob⟩ := Flow.ok3 f
  have hl := f.len
  have e1 : repl (intL a) (k : Int) x = intL a := by
    rcases hx with rfl | rfl
    · rfl
    · exact repl_same hk
  have e2 : repl (intL b) (k : Int) y = intL b := by
    rcases hy with rfl | rfl
    · rfl
    · exact repl_same (a := b) (by omega)
  have ox := oa a[k] (List.getElem_mem hk)
  have oy := ob (b[k]'(by omega)) (List.getElem_mem (by omega))
  have n1 : okN x = true := by
    rcases hx with rfl | rfl
    · rfl
    · unfold okN; rw [num3 ox.1 ox.2]; simp
  have n2 : okN y = true := by
    rcases hy with rfl | rfl
    · rfl
    · unfold okN; rw [num3 oy.1 oy.2]; simp
  have p1 : Pl x := by rcases hx with rfl | rfl <;> exact True.intro
  have p2 : Pl y := by rcases hy with rfl | rfl <;> exact True.intro
  rw [cha_eq pl_int pl_int (by simpa using hl) (by simpa using h2) (show Pl (.int (k : Int)) from True.intro) p1 p2]
  show Out.r (.tup (repl (intL a) (k : Int) x)) (.tup (repl (intL b) (k : Int) y)) _ = _
  have ho : chO (intL a) (intL b) (.int (k : Int)) x y = .fine := by
    unfold chO
    rw [if_pos (by simp [inB]; omega), if_pos n1, if_pos n2]
    show fo (.tup (repl (intL a) (k : Int) x)) (.tup (repl (intL b) (k : Int) y)) = _
    rw [e1, e2]
    exact fine_of (flow_fault f h1 h2)
  rw [ho, e1, e2]
  rfl
theorem atI_last (xs : List D) (d : D) : L2.atI (xs ++ [d]) (-1) = some d := by
  have e : L2.ixN (xs ++ [d]).length (-1) = some xs.length := by
    unfold L2.ixN
    simp
    omega
  unfold L2.atI
  rw [e]
  simp
theorem last_ok {a b : List Int} (h1 : 1 ≤ a.length) : idxD (.tup (intL (prs a b))) (.int (-1)) = some (.int (dd a b a.length)) := by
  obtain ⟨n, hn⟩ : ∃ n, a.length = n + 1 := ⟨a.length - 1, by omega⟩
  have e : intL (prs a b) = intL ((List.range n).map fun i => dd a b (i + 1)) ++ [.int (dd a b (n + 1))] := by
    unfold prs
    rw [hn, List.range_succ]
    simp [intL]
  rw [e, hn]
  simp
  show L2.atI (_ ++ [D.int (dd a b (n + 1))]) (-1) = _
  exact atI_last _ _
theorem exd_put {a b : List Int} (f : Flow a b 999) (h1 : 1 ≤ a.length) (h2 : a.length < 60) : F_exd [ctr (.tup (intL a)) (.tup (intL b)), .int 0, .int (dd a b a.length)] = R.ok (ctr (.tup (intL (a ++ [0]))) (.tup (intL (b ++ [dd a b a.length])))) ∧ Flow (a ++ [0]) (b ++ [dd a b a.length]) 999 := by
  have hl := f.len
  have t := f.top
  have p0 := LW.pre_nn f.ca a.length
  have pa : pre a a.length = a.sum := by simp [pre]
  have pb : pre b a.length = b.sum := by rw [hl]; simp [pre]
  have ed : dd a b a.length = a.sum - b.sum := by unfold dd; rw [pa, pb]
  have q := f.le a.length (Nat.le_refl _)
  rw [pa, pb] at q
  have sa := LW.sum_nn f.ca
  have sb := LW.sum_nn f.cb
  have fl := Flow.snoc f (x := 0) (y := dd a b a.length) (by omega) (by omega) (by omega) (by omega)
  refine ⟨?_, fl⟩
  rw [exd_eq pl_int pl_int (by simpa using hl) (by simpa using (show a.length ≤ 60 by omega)) (show Pl (.int 0) from True.intro) (show Pl (.int (dd a b a.length)) from True.intro)]
  have e1 : intL a ++ [.int 0] = intL (a ++ [0]) := by simp [intL]
  have e2 : intL b ++ [.int (dd a b a.length)] = intL (b ++ [dd a b a.length]) := by simp [intL]
  have ho : exO (intL a) (intL b) (.int 0) (.int (dd a b a.length)) = .fine := by
    unfold exO
    rw [if_pos (num3 (by omega) (by omega)), if_pos (num3 (by omega) (by omega)), if_neg (by simp; omega), e1, e2]
    exact fine_of (flow_fault fl (by simp) (by simp; omega))
  rw [ho, e1, e2]
  rfl
theorem right_spec {S : List D} (hS : PoolOk S) : Sat (F_right S []) (fun r => r.1 = .bl true) EX0 := by
  refine (wp_runP rfl).mpr ?_
  unfold f_right
  simp [startP, startE]
  refine (any_spec hS).imp ?_
  rintro ⟨_, S1⟩ ⟨a, b, rfl, h1, h2, f, hS1⟩
  obtain ⟨oa, ob⟩ := Flow.ok3 f
  have hl := f.len
  have i0 : F_ini [.tup (intL a), .tup (intL b)] = R.ok [.tup (intL a), .tup (intL b)] := by
    rw [ini_spec (va_tup (ra_int oa h2)).1 (va_tup (ra_int ob (by omega))).1, flow_fault f h1 h2]
    rfl
  have tn : ∀ {S : List D}, PoolOk S → _ := fun h => turn_spec h f h1 h2
  have pr := pres_ok hl h2
  have la := last_ok (b := b) h1
  have wh := whole_ok f h2
  have em := eq_me oa ob h2 (by omega)
  have lx : lenD [.tup (intL a)] = some (.int (a.length : Int)) := by simp
  have ex : a.length < 60 → ∃ X2 Y2 c2 : D, addD (.tup (intL a)) (.tup [.int 0]) = some X2 ∧ addD (.tup (intL b)) (.tup [.int (dd a b a.length)]) = some Y2 ∧ F_exd [ctr (.tup (intL a)) (.tup (intL b)), .int 0, .int (dd a b a.length)] = R.ok c2 ∧ F_whole [c2, X2, Y2] = R.ok (.bl true) := fun h => by
    obtain ⟨e, fl⟩ := exd_put f h1 h
    refine ⟨_, _, _, ?_, ?_, e, whole_ok fl (by simp; omega)⟩
    · rw [addD_tup, if_pos (by simp only [LINE, List.length_cons, List.length_nil, List.length_map]; omega)]
      simp [intL]
    · rw [addD_tup, if_pos (by simp only [LINE, List.length_cons, List.length_nil, List.length_map]; omega)]
      simp [intL]
  have cp : ∀ k : Nat, k < a.length → ∃ x y : Int, idxD (.tup (intL a)) (.int (k : Int)) = some (.int x) ∧ idxD (.tup (intL b)) (.int (k : Int)) = some (.int y) ∧ F_cha [ctr (.tup (intL a)) (.tup (intL b)), .int (k : Int), .int x, .int y] = R.ok (ctr (.tup (intL a)) (.tup (intL b))) ∧ F_cha [ctr (.tup (intL a)) (.tup (intL b)), .int (k : Int), .non, .non] = R.ok (ctr (.tup (intL a)) (.tup (intL b))) := fun k hk => by
    have i1 := atI_int (a := a) (i := k) hk
    have i2 := atI_int (a := b) (i := k) (by omega)
    exact ⟨a[k], b[k]'(by omega), by simp [i1], by simp [i2], cha_put f h1 h2 hk (.inr rfl) (.inr rfl), cha_put f h1 h2 hk (.inl rfl) (.inl rfl)⟩
  unfold ctr at *
  generalize D.tup (intL a) = X at *
  generalize D.tup (intL b) = Y at *
  generalize D.tup (intL (prs a b)) = Z at *
  generalize dd a b a.length = z at *
  have p01 : ∀ x y : D, pick [0, 1] [x, y] = [x, y] := fun _ _ => rfl
  have p02 : ∀ x y z : D, pick [0, 1, 2] [x, y, z] = [x, y, z] := fun _ _ _ => rfl
  have p03 : ∀ x y z u : D, pick [0, 1, 2, 3] [x, y, z, u] = [x, y, z, u] := fun _ _ _ _ => rfl
  have mc : ¬ ("changed" : Str) ∈ nm_ini := by decide +kernel
  have me : ¬ ("extended" : Str) ∈ nm_ini := by decide +kernel
  simp [p01, i0]
  refine wp_lc (fun S => PoolOk S) (fun d y => y = .bl true) _ (by simp [LINE]) ?_ ?_ hS1
  · intro d hd S hS
    simp [wipeE]
    refine (tn hS).imp ?_
    rintro ⟨_, S2⟩ ⟨rfl, hS2⟩
    exact ⟨hS2, rfl⟩
  · intro rs S hS h
    rw [All2.eq_map (f := fun _ => D.bl true) h]
    rw [all_true]
    simp [lx]
    refine (draw_spec (n := (a.length : Int)) hS (by omega) (by omega)).imp ?_
    rintro ⟨_, S2⟩ ⟨v, rfl, hv0, hv1, hS2⟩
    obtain ⟨k, rfl⟩ : ∃ k : Nat, v = k := ⟨v.toNat, by omega⟩
    obtain ⟨x, y, ix, iy, c1, c2⟩ := cp k (by omega)
    refine ⟨mc, ?_⟩
    simp [ix, iy, p03, c1, lx]
    by_cases h60 : a.length < 60
    · obtain ⟨X2, Y2, c3, ax, ay, e, w2⟩ := ex h60
      have h60' : (a.length : Int) < 60 := by omega
      simp [h60', me, pr, la, p02, e, ax, ay, LINE, w2, em, mc, p03, c2, wh]
      trace_state
    · have h60' : ¬ (a.length : Int) < 60 := by omega
      simp [h60', em, mc, p03, c2, wh]
      trace_state
end K05
set_option Elab.async false
set_option linter.all false
set_option maxRecDepth 100000
set_option maxHeartbeats 4000000
namespace K05
open PySem PySem.Spec PyProof.Rows L2 ClX PL
open LW (PoolOk Flow intL atI3 rng_at pre cnt)
theorem cnu2_spec (d : D) (h : Pl d) (lo hi : Int) : F_cnu [d, .int lo, .int hi] = RX .non (if inB d lo hi = true then none else some ("InvalidNumber", ["number"], [d])) := by
  have e := ii_D d h lo hi
  refine eq_rx ((wp_runF rfl).mpr ?_)
  unfold f_cnu
  cases hb : inB d lo hi <;> simp [startE, e, hb]
def zr (n : Nat) : List Int := List.replicate n 0
def hX : List Int := 500 :: zr 59
def hY : List Int := zr 59 ++ [500]
def h2X : List Int := zr 59 ++ [2]
def h2Y : List Int := zr 59 ++ [1]
theorem mul59 : mulD (.tup [.int 0]) (.int 59) = some (.tup (intL (zr 59))) := by kernel_rfl
theorem mulx59 : mulDx (.tup [.int 0]) (.int 59) = some (.tup (intL (zr 59))) := by kernel_rfl
theorem addX : addD (.tup [.int 500]) (.tup (intL (zr 59))) = some (.tup (intL hX)) := by kernel_rfl
theorem addY : addD (.tup (intL (zr 59))) (.tup [.int 500]) = some (.tup (intL hY)) := by kernel_rfl
theorem add2X : addD (.tup (intL (zr 59))) (.tup [.int 2]) = some (.tup (intL h2X)) := by kernel_rfl
theorem add2Y : addD (.tup (intL (zr 59))) (.tup [.int 1]) = some (.tup (intL h2Y)) := by kernel_rfl
theorem ok_iff {l : List Int} (h : l.all (fun i => decide (0 ≤ i) && decide (i < 1000)) = true) : Ok3 l := fun i hi => by
  have := List.all_eq_true.mp h i hi
  simpa using this
theorem okX : Ok3 hX := ok_iff (by decide +kernel)
theorem okY : Ok3 hY := ok_iff (by decide +kernel)
theorem okZ : Ok3 (zr 59) := ok_iff (by decide +kernel)
theorem fX : fault (.tup (intL hX)) (.tup (intL hY)) = none := by decide +kernel
theorem fZ : fault (.tup (intL (zr 59))) (.tup (intL (zr 59))) = none := by decide +kernel
theorem f2X : fault (.tup (intL h2X)) (.tup (intL h2Y)) = none := by decide +kernel
theorem f1 : fault (.tup (repl (intL hX) 3 (.int 499))) (.tup (repl (intL hY) 3 .non)) = none := by decide +kernel
theorem f2 : fault (.tup (repl (intL hX) 3 (.int 500))) (.tup (repl (intL hY) 3 .non)) = some (some 3) := by decide +kernel
theorem f3 : fault (.tup (repl (intL hX) 3 .non)) (.tup (repl (intL hY) 3 (.int 1))) = some (some 59) := by decide +kernel
theorem hlen : (intL hX).length = (intL hY).length ∧ (intL hX).length ≤ 60 ∧ (intL (zr 59)).length = (intL (zr 59)).length ∧ (intL (zr 59)).length ≤ 60 := by decide +kernel
theorem eli {i : Int} (h0 : 0 ≤ i) (h1 : i ≤ 1000) : El (.int i) := el_int (by omega) (by omega)
theorem el_non : El .non := ⟨True.intro, (TxR.non (k := 2)).mono (by omega) (by omega)⟩
theorem at_i {i : Int} (h0 : -999 ≤ i) (h1 : i < 1000) : At (.int i) :=
  at_of True.intro (t := ((toString i : String) : Str)) (if_pos (log_smallZ h0 h1)) ((nice_intZ h0 h1).mono (by omega))
theorem at3 : At (.int 3) := at_i (by omega) (by omega)
theorem cha_told {new gone : D} (pn : El new) (pg : El gone) : F_caught (F_cha [ctr (.tup (intL hX)) (.tup (intL hY)), .int 3, new, gone]) = R.ok ((chO (intL hX) (intL hY) (.int 3) new gone).due (.tup (repl (intL hX) 3 new)) (.tup (repl (intL hY) 3 gone))) := by
  rw [cha_eq pl_int pl_int hlen.1 hlen.2.1 at3.1 pn.1 pg.1]
  exact caught_out (ch_ok at3 pn pg)
theorem exd_told {a b : List Int} (hl : (intL a).length = (intL b).length) (h6 : (intL a).length ≤ 60) {new gone : D} (pn : El new) (pg : El gone) : F_caught (F_exd [ctr (.tup (intL a)) (.tup (intL b)), new, gone]) = R.ok ((exO (intL a) (intL b) new gone).due (.tup (intL a ++ [new])) (.tup (intL b ++ [gone]))) := by
  rw [exd_eq pl_int pl_int hl h6 pn.1 pg.1]
  exact caught_out (ex_ok pn pg)
theorem inb3 : inB (.int 3) 0 (((intL hX).length : Int) - 1) = true := by decide +kernel
theorem cho {new gone : D} (n1 : okN new = true) (n2 : okN gone = true) : chO (intL hX) (intL hY) (.int 3) new gone = fo (.tup (repl (intL hX) 3 new)) (.tup (repl (intL hY) 3 gone)) := by
  unfold chO
  rw [if_pos inb3, if_pos n1, if_pos n2]
  rfl
theorem t1 : ∃ s : Str, Nice 1200 s ∧ F_caught (F_cha [ctr (.tup (intL hX)) (.tup (intL hY)), .int 3, .int 499, .non]) = R.ok (.lst [.str "told", .str s]) := by
  have e := cha_told (new := .int 499) (gone := .non) (eli (by omega) (by omega)) el_non
  have ho : chO (intL hX) (intL hY) (.int 3) (.int 499) .non = .fine := by
    rw [cho (by decide +kernel) (by decide +kernel)]
    unfold fo
    rw [f1]
  rw [ho] at e
  obtain ⟨a, b, ea, eb, f, h1, h2⟩ := fault_flow f1
  rw [ea, eb] at e
  refine ⟨told a b, nice_told (told_f f h2), ?_⟩
  rw [e]
  show R.ok (D.lst [.str "told", .str (toldD (.tup (intL a)) (.tup (intL b)))]) = _
  rw [toldD_int]
theorem t2 : F_caught (F_cha [ctr (.tup (intL hX)) (.tup (intL hY)), .int 3, .int 500, .non]) = R.ok (.lst [.int 0, .str "3"]) := by
  have e := cha_told (new := .int 500) (gone := .non) (eli (by omega) (by omega)) el_non
  have ho : chO (intL hX) (intL hY) (.int 3) (.int 500) .non = .cnt (some 3) := by
    rw [cho (by decide +kernel) (by decide +kernel)]
    unfold fo
    rw [f2]
  rw [ho] at e
  rw [e]
  have r : rpt (some 3) = ("3" : String) := by decide +kernel
  show R.ok (D.lst [.int 0, .str (rpt (some 3))]) = _
  rw [r]
theorem t3 : F_caught (F_cha [ctr (.tup (intL hX)) (.tup (intL hY)), .int 3, .non, .int 1]) = R.ok (.lst [.int 0, .str "59"]) := by
  have e := cha_told (new := .non) (gone := .int 1) el_non (eli (by omega) (by omega))
  have ho : chO (intL hX) (intL hY) (.int 3) .non (.int 1) = .cnt (some 59) := by
    rw [cho (by decide +kernel) (by decide +kernel)]
    unfold fo
    rw [f3]
  rw [ho] at e
  rw [e]
  have r : rpt (some 59) = ("59" : String) := by decide +kernel
  show R.ok (D.lst [.int 0, .str (rpt (some 59))]) = _
  rw [r]
theorem t4 : F_caught (F_exd [ctr (.tup (intL hX)) (.tup (intL hY)), .int 0, .int 0]) = R.ok (.lst [.int 16, .str "60"]) := by
  rw [exd_told hlen.1 hlen.2.1 (eli (by omega) (by omega)) (eli (by omega) (by omega))]
  have ho : exO (intL hX) (intL hY) (.int 0) (.int 0) = .many := by
    unfold exO
    rw [if_pos (by decide +kernel), if_pos (by decide +kernel), if_pos (by decide +kernel)]
  rw [ho]
  rfl
theorem t5 : F_caught (F_exd [ctr (.tup (intL hX)) (.tup (intL hY)), .int 1000, .non]) = R.ok (.lst [.int 3, .str "[1000]"]) := by
  rw [exd_told hlen.1 hlen.2.1 (eli (by omega) (by omega)) el_non]
  have ho : exO (intL hX) (intL hY) (.int 1000) .non = .num (.int 1000) := by
    unfold exO
    rw [if_neg (by decide +kernel)]
  rw [ho]
  have r : rpl (.int 1000) = ("[1000]" : String) := by decide +kernel
  show R.ok (D.lst [.int 3, .str (rpl (.int 1000))]) = _
  rw [r]
theorem t6 : ∃ s : Str, Nice 1200 s ∧ F_caught (F_exd [ctr (.tup (intL (zr 59))) (.tup (intL (zr 59))), .int 2, .int 1]) = R.ok (.lst [.str "told", .str s]) ∧ F_shown [.tup (intL h2X), .tup (intL h2Y)] = R.ok (.str s) := by
  obtain ⟨a, b, ea, eb, f, h1, h2⟩ := fault_flow f2X
  have sh := shown_ok f h2
  refine ⟨told a b, nice_told (told_f f h2), ?_, by rw [ea, eb]; exact sh⟩
  rw [exd_told hlen.2.2.1 hlen.2.2.2 (eli (by omega) (by omega)) (eli (by omega) (by omega))]
  have x1 : intL (zr 59) ++ [.int 2] = intL h2X := by simp [h2X, intL]
  have x2 : intL (zr 59) ++ [.int 1] = intL h2Y := by simp [h2Y, intL]
  have ho : exO (intL (zr 59)) (intL (zr 59)) (.int 2) (.int 1) = .fine := by
    unfold exO
    rw [if_pos (by decide +kernel), if_pos (by decide +kernel), if_neg (by decide +kernel), x1, x2]
    unfold fo
    rw [f2X]
  rw [ho, x1, x2, ea, eb]
  show R.ok (D.lst [.str "told", .str (toldD (.tup (intL a)) (.tup (intL b)))]) = _
  rw [toldD_int]
theorem iX : F_ini [.tup (intL hX), .tup (intL hY)] = R.ok [.tup (intL hX), .tup (intL hY)] := by
  rw [ini_spec (va_tup (ra_int okX (by simpa using hlen.2.1))).1 (va_tup (ra_int okY (by have := hlen.1; have := hlen.2.1; simp at *; omega))).1, fX]
  rfl
theorem iZ59 : F_ini [.tup (intL (zr 59)), .tup (intL (zr 59))] = R.ok [.tup (intL (zr 59)), .tup (intL (zr 59))] := by
  rw [ini_spec (va_tup (ra_int okZ (by simpa using hlen.2.2.2))).1 (va_tup (ra_int okZ (by simpa using hlen.2.2.2))).1, fZ]
  rfl
theorem qui59 : F_qui [.cls "Counts", .int 59] = R.ok (ctr (.tup (intL (zr 59))) (.tup (intL (zr 59)))) := by
  have e := cnu2_spec (.int 59) True.intro 1 60
  rw [if_pos (by simp [inB])] at e
  have m := mulx59
  have i := iZ59
  have p : ∀ x y : D, pick [0, 1] [x, y] = [x, y] := fun _ _ => rfl
  unfold ctr
  generalize D.tup (intL (zr 59)) = z at *
  refine eq_sat ((wp_runF rfl).mpr ?_)
  unfold f_qui
  simp [startE, clsConD, e, m, mkV, LINE, i, p, RX]
end K05
set_option Elab.async false
set_option linter.all false
set_option maxRecDepth 100000
set_option maxHeartbeats 4000000
namespace K05
open PySem PySem.Spec PyProof.Rows L2 ClX PL
open LW (PoolOk Flow intL atI3 rng_at pre cnt)
theorem n_cha' : nm_ini.contains ("changed" : Str) = false := by decide +kernel
theorem n_exd' : nm_ini.contains ("extended" : Str) = false := by decide +kernel
theorem end_l {r : R D} {S : List D} : ((r >>= fun d => R.ok (d, S)) >>= fun x => R.ok x.1) = r := by cases r <;> rfl
section
variable {X Y L Z : D}
theorem w1 : (mthN "Counts" "changed" F_cha 2 1 [0, 1, 3, 2] [.non] (nm 0) (consA (fun _ S => R.ok (.int 3, S)) nilA) (consA (fun _ S => R.ok (.int 499, S)) nilA) (wipeE [some (.ins "Counts" nm_ini [X, Y]), none, none] []) [] >>= fun x => R.ok x.1) = F_cha [.ins "Counts" nm_ini [X, Y], .int 3, .int 499, .non] := by
  rw [ev_mthN (S1 := []) (c := "Counts") (ns := nm_ini) (vs := [X, Y]) rfl ⟨rfl, n_cha'⟩]
  exact end_l (r := F_cha [.ins "Counts" nm_ini [X, Y], .int 3, .int 499, .non]) (S := [])
theorem w2 : (mthN "Counts" "changed" F_cha 2 1 [0, 1, 3, 2] [.non] (nm 0) (consA (fun _ S => R.ok (.int 3, S)) nilA) (consA (fun _ S => R.ok (.int 500, S)) nilA) (wipeE [some (.ins "Counts" nm_ini [X, Y]), some L, none] [1]) [] >>= fun x => R.ok x.1) = F_cha [.ins "Counts" nm_ini [X, Y], .int 3, .int 500, .non] := by
  rw [ev_mthN (S1 := []) (c := "Counts") (ns := nm_ini) (vs := [X, Y]) rfl ⟨rfl, n_cha'⟩]
  exact end_l (r := F_cha [.ins "Counts" nm_ini [X, Y], .int 3, .int 500, .non]) (S := [])
theorem w3 : (mthN "Counts" "changed" F_cha 2 1 [0, 1, 2, 3] [.non] (nm 0) (consA (fun _ S => R.ok (.int 3, S)) nilA) (consA (fun _ S => R.ok (.int 1, S)) nilA) (wipeE [some (.ins "Counts" nm_ini [X, Y]), some L, none] [1]) [] >>= fun x => R.ok x.1) = F_cha [.ins "Counts" nm_ini [X, Y], .int 3, .non, .int 1] := by
  rw [ev_mthN (S1 := []) (c := "Counts") (ns := nm_ini) (vs := [X, Y]) rfl ⟨rfl, n_cha'⟩]
  exact end_l (r := F_cha [.ins "Counts" nm_ini [X, Y], .int 3, .non, .int 1]) (S := [])
theorem w4 : (mthN "Counts" "extended" F_exd 3 0 [0, 1, 2] [] (nm 0) (consA (fun _ S => R.ok (.int 0, S)) (consA (fun _ S => R.ok (.int 0, S)) nilA)) nilA (wipeE [some (.ins "Counts" nm_ini [X, Y]), some L, none] [1]) [] >>= fun x => R.ok x.1) = F_exd [.ins "Counts" nm_ini [X, Y], .int 0, .int 0] := by
  rw [ev_mthN (S1 := []) (c := "Counts") (ns := nm_ini) (vs := [X, Y]) rfl ⟨rfl, n_exd'⟩]
  exact end_l (r := F_exd [.ins "Counts" nm_ini [X, Y], .int 0, .int 0]) (S := [])
theorem w5 : (mthN "Counts" "extended" F_exd 3 0 [0, 1, 2] [] (nm 0) (consA (fun _ S => R.ok (.int 1000, S)) (consA (fun _ S => R.ok (.non, S)) nilA)) nilA (wipeE [some (.ins "Counts" nm_ini [X, Y]), some L, none] [1]) [] >>= fun x => R.ok x.1) = F_exd [.ins "Counts" nm_ini [X, Y], .int 1000, .non] := by
  rw [ev_mthN (S1 := []) (c := "Counts") (ns := nm_ini) (vs := [X, Y]) rfl ⟨rfl, n_exd'⟩]
  exact end_l (r := F_exd [.ins "Counts" nm_ini [X, Y], .int 1000, .non]) (S := [])
theorem w6 {FQ : List D → R D} (hq : FQ [.cls "Counts", .int 59] = R.ok (.ins "Counts" nm_ini [Z, Z])) : (mthN "Counts" "extended" F_exd 3 0 [0, 1, 2] [] (cmX "Counts" FQ (consA (fun _ S => R.ok (.int 59, S)) nilA)) (consA (fun _ S => R.ok (.int 2, S)) (consA (fun _ S => R.ok (.int 1, S)) nilA)) nilA (wipeE [some (.ins "Counts" nm_ini [X, Y]), some L, none] [1]) [] >>= fun x => R.ok x.1) = F_exd [.ins "Counts" nm_ini [Z, Z], .int 2, .int 1] := by
  have e : ∀ ρ : PL.Env, cmX "Counts" FQ (consA (fun _ S => R.ok (.int 59, S)) nilA) ρ [] = R.ok (.ins "Counts" nm_ini [Z, Z], []) := fun ρ => by
    have e1 : cmX "Counts" FQ (consA (fun _ S => R.ok (.int 59, S)) nilA) ρ [] = (FQ [.cls "Counts", .int 59] >>= fun d => R.ok (d, [])) := rfl
    rw [e1, hq]
    rfl
  rw [ev_mthN (S1 := []) (c := "Counts") (ns := nm_ini) (vs := [Z, Z]) (e _) ⟨rfl, n_exd'⟩]
  exact end_l (r := F_exd [.ins "Counts" nm_ini [Z, Z], .int 2, .int 1]) (S := [])
end
theorem sl6 (a b c d e f : D) : slcD (.lst [a, b, c, d, e, f]) (some 1) none = some (.lst [b, c, d, e, f]) := rfl
theorem at6 (a b c d e f : D) : L2.atI [a, b, c, d, e, f] 0 = some a := rfl
theorem at2' (a b : D) : L2.atI [a, b] 0 = some a := rfl
theorem i20 (a b : D) : idxD (.lst [a, b]) (.int 0) = some a := rfl
theorem due_eq {s : Str} (h : Nice 1200 s) : eqD (.lst [.lst [.int 0, .str "3"], .lst [.int 0, .str "59"], .lst [.int 16, .str "60"], .lst [.int 3, .str "[1000]"], .lst [.str "told", .str s]]) (.lst [.lst [.int 0, .str "3"], .lst [.int 0, .str "59"], .lst [.int 16, .str "60"], .lst [.int 3, .str "[1000]"], .lst [.str "told", .str s]]) = some (.bl true) := by
  have ni : ∀ (k : Nat), k < 1000 → Nd 10 0 (.int (k : Nat)) := fun k hk => .int (by omega) (by omega) (by omega)
  have ns : ∀ {t : Str} {n : Nat}, Nice n t → n ≤ 1200 → Nd 2500 0 (.str t) := fun h hn => .str (h.mono hn) (by omega)
  have two : ∀ {x y : D}, Nd 2500 0 x → Nd 2500 0 y → Nd 6000 1 (.lst [x, y]) := fun h1 h2 => .lst (.cons h1 (.cons h2 .nil)) (by omega) (by omega)
  have nj : ∀ (k : Nat), k < 1000 → Nd 2500 0 (.int (k : Nat)) := fun k hk => .int (by omega) (by omega) (by omega)
  have nd : Nd 40000 2 (.lst [.lst [.int 0, .str "3"], .lst [.int 0, .str "59"], .lst [.int 16, .str "60"], .lst [.int 3, .str "[1000]"], .lst [.str "told", .str s]]) :=
    .lst (.cons (two (nj 0 (by omega)) (ns (show Nice 1 ("3" : String) from nice_of (by decide)) (by omega))) (.cons (two (nj 0 (by omega)) (ns (show Nice 2 ("59" : String) from nice_of (by decide)) (by omega))) (.cons (two (nj 16 (by omega)) (ns (show Nice 2 ("60" : String) from nice_of (by decide)) (by omega))) (.cons (two (nj 3 (by omega)) (ns (show Nice 6 ("[1000]" : String) from nice_of (by decide)) (by omega))) (.cons (two (ns (show Nice 4 ("told" : String) from nice_of (by decide)) (by omega)) (ns h (by omega))) .nil))))) (by omega) (by omega)
  exact (eqD_self nd (by omega)).1
theorem told_eq : eqD (.str "told") (.str "told") = some (.bl true) := eqD_str (show Nice 4 ("told" : String) from nice_of (by decide))
theorem hand_x (f : FS) (hf : f = f_hand) : runF 3 0 f [] = R.ok (.bl true) := by
  have m := mul59
  have a1 := addX
  have a2 := addY
  have a3 := add2X
  have a4 := add2Y
  have i := iX
  have qz := qui59
  have k2 := t2
  have k3 := t3
  have k4 := t4
  have k5 := t5
  obtain ⟨s1, n1, k1⟩ := t1
  obtain ⟨s6, n6, k6, sh⟩ := t6
  unfold ctr at *
  generalize D.tup (intL hX) = X at *
  generalize D.tup (intL hY) = Y at *
  generalize D.tup (intL h2X) = X2 at *
  generalize D.tup (intL h2Y) = Y2 at *
  generalize D.tup (intL (zr 59)) = Z at *
  have p01 : ∀ x y : D, pick [0, 1] [x, y] = [x, y] := fun _ _ => rfl
  refine eq_sat ((wp_runF rfl).mpr ?_)
  simp [hf, f_hand, startE, m, a1, a2, LINE, p01, i]
  rw [w1, k1]
  simp only [wp_ok]
  rw [w2, k2]
  simp only [wp_ok]
  rw [w3, k3]
  simp only [wp_ok]
  rw [w4, k4]
  simp only [wp_ok]
  rw [w5, k5]
  simp only [wp_ok]
  rw [w6 qz, k6]
  have de := due_eq n6
  have te := told_eq
  simp only [wp_ok, a3, a4, sh, sl6, at6]
  simp [a3, a4, sh, sl6, at6, de, te, i20, at2']
end K05
set_option Elab.async false
set_option linter.all false
set_option maxRecDepth 100000
set_option maxHeartbeats 4000000
namespace K05
open PySem PySem.Spec PyProof.Rows L2 ClX PL
open LW (PoolOk Flow intL atI3 rng_at pre cnt)
theorem law_gen (ns : List Int) (hl : ns.length ≤ 63) (FH : List D → R D) (hh : FH [] = R.ok (.bl true)) (f : FS) (hf : f = (seqS (ifS (notT (tst (callD FH [] nilA))) (retS (fun _ S => R.ok (.bl false, S))) nxS)
  (retS (callE allD (consA (ofF (lcE [1] (rngI rng1D (consA (callE max2D (consA (fun _ S => R.ok (.int 2, S)) (consA (callE min2D (consA (callE lenD (consA (nm 0) nilA)) (consA (fun _ S => R.ok (.int 6, S)) nilA))) nilA))) nilA)) (nmG 1) yesT (callPN F_right (callN F_pool [] (consA (callD F_cell [] (consA (nm 0) (consA (nm 1) nilA))) nilA))))) nilA))))) : runF 2 1 f [.scr ns] = R.ok (.bl true) := by
  refine eq_sat ((wp_runF rfl).mpr ?_)
  simp [hf, startE, hh]
  generalize hm : (if 2 < if 6 < (ns.length : Int) then 6 else (ns.length : Int) then if 6 < (ns.length : Int) then 6 else (ns.length : Int) else 2) = m
  have hm2 : 0 ≤ m ∧ m ≤ 6 := by split at hm <;> split at hm <;> omega
  refine ⟨by omega, ?_⟩
  refine wp_lc (fun S => [] = S) (fun d y => y = .bl true) _ (by simp [LINE]; omega) ?_ ?_ rfl
  · intro d hd S hS
    subst hS
    obtain ⟨k, hk, rfl⟩ := List.mem_map.mp hd
    have hk2 : k < m.toNat := by simpa using hk
    simp [wipeE]
    refine (cell_spec ns k (by omega) (by omega)).imp ?_
    rintro _ ⟨v, rfl⟩
    refine (pool_spec v).imp ?_
    intro S hS
    refine (right_spec hS).imp ?_
    rintro ⟨_, S1⟩ rfl
    first | exact ⟨rfl, rfl⟩ | rfl
  · intro rs S hS h
    subst hS
    rw [All2.eq_map (f := fun _ => D.bl true) h]
    rw [all_true]
    simp
theorem holds (ns : List Int) (hl : ns.length ≤ 63) : F_law [.scr ns] = R.ok (.bl true) := law_gen ns hl F_hand (hand_x f_hand rfl) f_law rfl
end K05
set_option Elab.async false
set_option linter.all false
set_option maxRecDepth 100000
set_option maxHeartbeats 4000000
namespace K05
open PySem PySem.Spec PyProof.Rows L2 ClX PL
/-! what the top has written -/
theorem kit_bt {K : PySem.W.Frag} {C : Addr} {T : String} (m : PySem.W.kitMeta T = true) (h : PySem.W.mroIn K C (.type T) = some false) : PySem.W.kitOne K (.ref C) (.type T) = some false := by
  show (if (Value.ref C == Value.type T) = true then some true else PySem.W.kitCls K (.ref C) (.type T)) = some false
  rw [if_neg (by intro q; cases q)]
  show (if PySem.W.kitMeta T = true then PySem.W.subIn K (.ref C) (.type T) else none) = some false
  rw [if_pos m]
  exact h
theorem me_of {K : PySem.W.Frag} {C : Addr} (hd : PySem.W.hasDictIn K C = true) (ty : PySem.W.typeIn K (.ref C) = some (.type "type")) : ((PySem.W.clsIn K C).isSome && PySem.W.typeIn K (.ref C) == some (.type "type")) = true := by
  obtain ⟨cd, w, _⟩ := PySem.W.any_some hd
  rw [w, ty]
  exact beq_self_eq_true _
theorem all_mk {Pg : Program} {w : World} {K : PySem.W.Frag} {h : Heap} {mg : Str → Option Value} {fa C : Addr} (X : K.In h) (G : h.Ns mainGlobals mg) (hfa : mg "law" = some (.ref fa))
    {x_InvalidCounts x_NotCounts x_InvalidTick x_InvalidNumber x_InvalidText x_InvalidStay x_InvalidHistory x_InvalidName x_InvalidLength x_InvalidDoors x_InvalidDeed x_InvalidCommand x_Impossible x_NotKnown x_LimitBroken x_NothingToUndo x_TooMany x_CountError x_SearchError x_LimitError : Addr}
    {fa_eIC : Addr} {od_eIC an_eIC : Option Addr} {sl_eIC : Array (Option Value)} {oc_eIC kV_eIC dc_eIC pm_eIC cd_eIC ct_eIC : Value}
    {fa_eIT : Addr} {od_eIT an_eIT : Option Addr} {sl_eIT : Array (Option Value)} {oc_eIT kV_eIT dc_eIT pm_eIT cd_eIT ct_eIT : Value}
    {fa_eIN : Addr} {od_eIN an_eIN : Option Addr} {sl_eIN : Array (Option Value)} {oc_eIN kV_eIN dc_eIN pm_eIN cd_eIN ct_eIN : Value}
    {fa_eTM : Addr} {od_eTM an_eTM : Option Addr} {sl_eTM : Array (Option Value)} {oc_eTM kV_eTM dc_eTM pm_eTM cd_eTM ct_eTM : Value}
    {fa_ii : Addr} {od_ii an_ii : Option Addr} {sl_ii : Array (Option Value)} {oc_ii kV_ii dc_ii pm_ii cd_ii ct_ii : Value}
    {fa_ct : Addr} {od_ct an_ct : Option Addr} {sl_ct : Array (Option Value)} {oc_ct kV_ct dc_ct pm_ct cd_ct ct_ct : Value}
    {fa_cnu : Addr} {od_cnu an_cnu : Option Addr} {sl_cnu : Array (Option Value)} {oc_cnu kV_cnu dc_cnu pm_cnu cd_cnu ct_cnu : Value}
    {fa_pra : Addr} {od_pra an_pra : Option Addr} {sl_pra : Array (Option Value)} {oc_pra kV_pra dc_pra pm_pra cd_pra ct_pra : Value}
    {fa_cl : Addr} {od_cl an_cl : Option Addr} {sl_cl : Array (Option Value)} {oc_cl kV_cl dc_cl pm_cl cd_cl ct_cl : Value}
    {fa_inu : Addr} {od_inu an_inu : Option Addr} {sl_inu : Array (Option Value)} {oc_inu kV_inu dc_inu pm_inu cd_inu ct_inu : Value}
    {fa_cn : Addr} {od_cn an_cn : Option Addr} {sl_cn : Array (Option Value)} {oc_cn kV_cn dc_cn pm_cn cd_cn ct_cn : Value}
    {fa_rep : Addr} {od_rep an_rep : Option Addr} {sl_rep : Array (Option Value)} {oc_rep kV_rep dc_rep pm_rep cd_rep ct_rep : Value}
    {fa_ini : Addr} {od_ini an_ini : Option Addr} {sl_ini : Array (Option Value)} {oc_ini kV_ini dc_ini pm_ini cd_ini ct_ini : Value}
    {fa_pre : Addr} {od_pre an_pre : Option Addr} {sl_pre : Array (Option Value)} {oc_pre kV_pre dc_pre pm_pre cd_pre ct_pre : Value}
    {fp_pre : Addr} {rs_pre : List Value}
    {fa_peo : Addr} {od_peo an_peo : Option Addr} {sl_peo : Array (Option Value)} {oc_peo kV_peo dc_peo pm_peo cd_peo ct_peo : Value}
    {fp_peo : Addr} {rs_peo : List Value}
    {fa_eq : Addr} {od_eq an_eq : Option Addr} {sl_eq : Array (Option Value)} {oc_eq kV_eq dc_eq pm_eq cd_eq ct_eq : Value}
    {fa_str : Addr} {od_str an_str : Option Addr} {sl_str : Array (Option Value)} {oc_str kV_str dc_str pm_str cd_str ct_str : Value}
    {fa_qui : Addr} {od_qui an_qui : Option Addr} {sl_qui : Array (Option Value)} {oc_qui kV_qui dc_qui pm_qui cd_qui ct_qui : Value}
    {fp_qui : Addr} {rs_qui : List Value}
    {fa_cha : Addr} {od_cha an_cha : Option Addr} {sl_cha : Array (Option Value)} {oc_cha dc_cha pm_cha cd_cha ct_cha : Value}
    {kD_cha : Addr}
    {fa_exd : Addr} {od_exd an_exd : Option Addr} {sl_exd : Array (Option Value)} {oc_exd kV_exd dc_exd pm_exd cd_exd ct_exd : Value}
    {fa_cell : Addr} {od_cell an_cell : Option Addr} {sl_cell : Array (Option Value)} {oc_cell kV_cell dc_cell pm_cell cd_cell ct_cell : Value}
    {fa_pool : Addr} {od_pool an_pool : Option Addr} {sl_pool : Array (Option Value)} {oc_pool kV_pool dc_pool pm_pool cd_pool ct_pool : Value}
    {fa_draw : Addr} {od_draw an_draw : Option Addr} {sl_draw : Array (Option Value)} {oc_draw kV_draw dc_draw pm_draw cd_draw ct_draw : Value}
    {fa_flows : Addr} {od_flows an_flows : Option Addr} {sl_flows : Array (Option Value)} {oc_flows kV_flows dc_flows pm_flows cd_flows ct_flows : Value}
    {fa_small : Addr} {od_small an_small : Option Addr} {sl_small : Array (Option Value)} {oc_small kV_small dc_small pm_small cd_small ct_small : Value}
    {fa_great : Addr} {od_great an_great : Option Addr} {sl_great : Array (Option Value)} {oc_great kV_great dc_great pm_great cd_great ct_great : Value}
    {fa_rest : Addr} {od_rest an_rest : Option Addr} {sl_rest : Array (Option Value)} {oc_rest kV_rest dc_rest pm_rest cd_rest ct_rest : Value}
    {fa_error : Addr} {od_error an_error : Option Addr} {sl_error : Array (Option Value)} {oc_error kV_error dc_error pm_error cd_error ct_error : Value}
    {fa_any : Addr} {od_any an_any : Option Addr} {sl_any : Array (Option Value)} {oc_any kV_any dc_any pm_any cd_any ct_any : Value}
    {fa_wrong : Addr} {od_wrong an_wrong : Option Addr} {sl_wrong : Array (Option Value)} {oc_wrong kV_wrong dc_wrong pm_wrong cd_wrong ct_wrong : Value}
    {fa_written : Addr} {od_written an_written : Option Addr} {sl_written : Array (Option Value)} {oc_written kV_written dc_written pm_written cd_written ct_written : Value}
    {fa_field : Addr} {od_field an_field : Option Addr} {sl_field : Array (Option Value)} {oc_field kV_field dc_field pm_field cd_field ct_field : Value}
    {fa_caught : Addr} {od_caught an_caught : Option Addr} {sl_caught : Array (Option Value)} {oc_caught kV_caught dc_caught pm_caught cd_caught ct_caught : Value}
    {fa_isn : Addr} {od_isn an_isn : Option Addr} {sl_isn : Array (Option Value)} {oc_isn kV_isn dc_isn pm_isn cd_isn ct_isn : Value}
    {fa_shown : Addr} {od_shown an_shown : Option Addr} {sl_shown : Array (Option Value)} {oc_shown kV_shown dc_shown pm_shown cd_shown ct_shown : Value}
    {fa_made : Addr} {od_made an_made : Option Addr} {sl_made : Array (Option Value)} {oc_made kV_made dc_made pm_made cd_made ct_made : Value}
    {fa_chd : Addr} {od_chd an_chd : Option Addr} {sl_chd : Array (Option Value)} {oc_chd kV_chd dc_chd pm_chd cd_chd ct_chd : Value}
    {fa_exdu : Addr} {od_exdu an_exdu : Option Addr} {sl_exdu : Array (Option Value)} {oc_exdu kV_exdu dc_exdu pm_exdu cd_exdu ct_exdu : Value}
    {fa_thing : Addr} {od_thing an_thing : Option Addr} {sl_thing : Array (Option Value)} {oc_thing kV_thing dc_thing pm_thing cd_thing ct_thing : Value}
    {fa_turn : Addr} {od_turn an_turn : Option Addr} {sl_turn : Array (Option Value)} {oc_turn kV_turn dc_turn pm_turn cd_turn ct_turn : Value}
    {fa_whole : Addr} {od_whole an_whole : Option Addr} {sl_whole : Array (Option Value)} {oc_whole kV_whole dc_whole pm_whole cd_whole ct_whole : Value}
    {fa_right : Addr} {od_right an_right : Option Addr} {sl_right : Array (Option Value)} {oc_right kV_right dc_right pm_right cd_right ct_right : Value}
    {fa_hand : Addr} {od_hand an_hand : Option Addr} {sl_hand : Array (Option Value)} {oc_hand kV_hand dc_hand pm_hand cd_hand ct_hand : Value}
    {fa_law : Addr} {od_law an_law : Option Addr} {sl_law : Array (Option Value)} {oc_law kV_law dc_law pm_law cd_law ct_law : Value}
    {tk_MAX_TICKS : Tok}
    {tk_MAX_PEOPLE : Tok}
    {ccA_turn cPA_turn fx_turn cc_turn cP_turn : Addr} {cls_turn : Value} {dcc_turn : Option Addr} {vsc_turn : Array Value} {slc_turn : Array (Option Value)} {ox_turn : Obj} {fdx_turn : FuncData}
    {ccA_hand cPA_hand fx_hand cc_hand cP_hand : Addr} {cls_hand : Value} {dcc_hand : Option Addr} {vsc_hand : Array Value} {slc_hand : Array (Option Value)} {ox_hand : Obj} {fdx_hand : FuncData}
    (x1_turn : mg "_law_turn_right" = some (.ref fx_turn)) (x2_turn : h.get? fx_turn = some ox_turn) (x3_turn : ox_turn.data = .func fdx_turn) (x4_turn : fdx_turn.code = .ref cc_turn) (x5_turn : PySem.W.CodeHd h cc_turn cP_turn)
    (x1_hand : mg "_law_by_hand" = some (.ref fx_hand)) (x2_hand : h.get? fx_hand = some ox_hand) (x3_hand : ox_hand.data = .func fdx_hand) (x4_hand : fdx_hand.code = .ref cc_hand) (x5_hand : PySem.W.CodeHd h cc_hand cP_hand)
    (aC : PySem.W.nsIn K mainGlobals "Counts" = some (some (.ref C)))
    (xa_InvalidCounts : PySem.W.nsIn K mainGlobals "InvalidCounts" = some (some (.ref x_InvalidCounts)))
    (xa_NotCounts : PySem.W.nsIn K mainGlobals "NotCounts" = some (some (.ref x_NotCounts)))
    (xa_InvalidTick : PySem.W.nsIn K mainGlobals "InvalidTick" = some (some (.ref x_InvalidTick)))
    (xa_InvalidNumber : PySem.W.nsIn K mainGlobals "InvalidNumber" = some (some (.ref x_InvalidNumber)))
    (xa_InvalidText : PySem.W.nsIn K mainGlobals "InvalidText" = some (some (.ref x_InvalidText)))
    (xa_InvalidStay : PySem.W.nsIn K mainGlobals "InvalidStay" = some (some (.ref x_InvalidStay)))
    (xa_InvalidHistory : PySem.W.nsIn K mainGlobals "InvalidHistory" = some (some (.ref x_InvalidHistory)))
    (xa_InvalidName : PySem.W.nsIn K mainGlobals "InvalidName" = some (some (.ref x_InvalidName)))
    (xa_InvalidLength : PySem.W.nsIn K mainGlobals "InvalidLength" = some (some (.ref x_InvalidLength)))
    (xa_InvalidDoors : PySem.W.nsIn K mainGlobals "InvalidDoors" = some (some (.ref x_InvalidDoors)))
    (xa_InvalidDeed : PySem.W.nsIn K mainGlobals "InvalidDeed" = some (some (.ref x_InvalidDeed)))
    (xa_InvalidCommand : PySem.W.nsIn K mainGlobals "InvalidCommand" = some (some (.ref x_InvalidCommand)))
    (xa_Impossible : PySem.W.nsIn K mainGlobals "Impossible" = some (some (.ref x_Impossible)))
    (xa_NotKnown : PySem.W.nsIn K mainGlobals "NotKnown" = some (some (.ref x_NotKnown)))
    (xa_LimitBroken : PySem.W.nsIn K mainGlobals "LimitBroken" = some (some (.ref x_LimitBroken)))
    (xa_NothingToUndo : PySem.W.nsIn K mainGlobals "NothingToUndo" = some (some (.ref x_NothingToUndo)))
    (xa_TooMany : PySem.W.nsIn K mainGlobals "TooMany" = some (some (.ref x_TooMany)))
    (xa_CountError : PySem.W.nsIn K mainGlobals "CountError" = some (some (.ref x_CountError)))
    (xa_SearchError : PySem.W.nsIn K mainGlobals "SearchError" = some (some (.ref x_SearchError)))
    (xa_LimitError : PySem.W.nsIn K mainGlobals "LimitError" = some (some (.ref x_LimitError)))
    (a_eIC : PySem.W.findIn K (.ref x_InvalidCounts) "__init__" = some (some (.ref fa_eIC)))
    (i_eIC : PySem.W.isFn K (.ref fa_eIC) = true)
    (l_eIC : K.lookup fa_eIC = some ⟨oc_eIC, od_eIC, .func (PySem.W.fnOf "__init__" "InvalidCounts.__init__" (defArgs s_eIC) (defBody s_eIC) (defScope s_eIC) .none kV_eIC dc_eIC pm_eIC an_eIC cd_eIC ct_eIC), sl_eIC⟩)
    (c_eIC : PySem.W.codeIn K cd_eIC "InvalidCounts.__init__" = true)
    (k_eIC : PySem.W.keepIn K (.ref fa_eIC) = true)
    (a_eIT : PySem.W.findIn K (.ref x_InvalidTick) "__init__" = some (some (.ref fa_eIT)))
    (i_eIT : PySem.W.isFn K (.ref fa_eIT) = true)
    (l_eIT : K.lookup fa_eIT = some ⟨oc_eIT, od_eIT, .func (PySem.W.fnOf "__init__" "InvalidTick.__init__" (defArgs s_eIT) (defBody s_eIT) (defScope s_eIT) .none kV_eIT dc_eIT pm_eIT an_eIT cd_eIT ct_eIT), sl_eIT⟩)
    (c_eIT : PySem.W.codeIn K cd_eIT "InvalidTick.__init__" = true)
    (k_eIT : PySem.W.keepIn K (.ref fa_eIT) = true)
    (a_eIN : PySem.W.findIn K (.ref x_InvalidNumber) "__init__" = some (some (.ref fa_eIN)))
    (i_eIN : PySem.W.isFn K (.ref fa_eIN) = true)
    (l_eIN : K.lookup fa_eIN = some ⟨oc_eIN, od_eIN, .func (PySem.W.fnOf "__init__" "InvalidNumber.__init__" (defArgs s_eIN) (defBody s_eIN) (defScope s_eIN) .none kV_eIN dc_eIN pm_eIN an_eIN cd_eIN ct_eIN), sl_eIN⟩)
    (c_eIN : PySem.W.codeIn K cd_eIN "InvalidNumber.__init__" = true)
    (k_eIN : PySem.W.keepIn K (.ref fa_eIN) = true)
    (a_eTM : PySem.W.findIn K (.ref x_TooMany) "__init__" = some (some (.ref fa_eTM)))
    (i_eTM : PySem.W.isFn K (.ref fa_eTM) = true)
    (l_eTM : K.lookup fa_eTM = some ⟨oc_eTM, od_eTM, .func (PySem.W.fnOf "__init__" "TooMany.__init__" (defArgs s_eTM) (defBody s_eTM) (defScope s_eTM) .none kV_eTM dc_eTM pm_eTM an_eTM cd_eTM ct_eTM), sl_eTM⟩)
    (c_eTM : PySem.W.codeIn K cd_eTM "TooMany.__init__" = true)
    (k_eTM : PySem.W.keepIn K (.ref fa_eTM) = true)
    (a_ii : PySem.W.nsIn K mainGlobals "is_integer_from" = some (some (.ref fa_ii)))
    (l_ii : K.lookup fa_ii = some ⟨oc_ii, od_ii, .func (PySem.W.fnOf "is_integer_from" "is_integer_from" (defArgs s_ii) (defBody s_ii) (defScope s_ii) .none kV_ii dc_ii pm_ii an_ii cd_ii ct_ii), sl_ii⟩)
    (c_ii : PySem.W.codeIn K cd_ii "is_integer_from" = true)
    (k_ii : PySem.W.keepIn K (.ref fa_ii) = true)
    (a_ct : PySem.W.nsIn K mainGlobals "check_tick" = some (some (.ref fa_ct)))
    (l_ct : K.lookup fa_ct = some ⟨oc_ct, od_ct, .func (PySem.W.fnOf "check_tick" "check_tick" (defArgs s_ct) (defBody s_ct) (defScope s_ct) .none kV_ct dc_ct pm_ct an_ct cd_ct ct_ct), sl_ct⟩)
    (c_ct : PySem.W.codeIn K cd_ct "check_tick" = true)
    (k_ct : PySem.W.keepIn K (.ref fa_ct) = true)
    (a_cnu : PySem.W.nsIn K mainGlobals "check_number" = some (some (.ref fa_cnu)))
    (l_cnu : K.lookup fa_cnu = some ⟨oc_cnu, od_cnu, .func (PySem.W.fnOf "check_number" "check_number" (defArgs s_cnu) (defBody s_cnu) (defScope s_cnu) .none kV_cnu dc_cnu pm_cnu an_cnu cd_cnu ct_cnu), sl_cnu⟩)
    (c_cnu : PySem.W.codeIn K cd_cnu "check_number" = true)
    (k_cnu : PySem.W.keepIn K (.ref fa_cnu) = true)
    (a_pra : PySem.W.nsIn K mainGlobals "present_after" = some (some (.ref fa_pra)))
    (l_pra : K.lookup fa_pra = some ⟨oc_pra, od_pra, .func (PySem.W.fnOf "present_after" "present_after" (defArgs s_pra) (defBody s_pra) (defScope s_pra) .none kV_pra dc_pra pm_pra an_pra cd_pra ct_pra), sl_pra⟩)
    (c_pra : PySem.W.codeIn K cd_pra "present_after" = true)
    (k_pra : PySem.W.keepIn K (.ref fa_pra) = true)
    (a_cl : PySem.W.nsIn K mainGlobals "_check_lengths" = some (some (.ref fa_cl)))
    (l_cl : K.lookup fa_cl = some ⟨oc_cl, od_cl, .func (PySem.W.fnOf "_check_lengths" "_check_lengths" (defArgs s_cl) (defBody s_cl) (defScope s_cl) .none kV_cl dc_cl pm_cl an_cl cd_cl ct_cl), sl_cl⟩)
    (c_cl : PySem.W.codeIn K cd_cl "_check_lengths" = true)
    (k_cl : PySem.W.keepIn K (.ref fa_cl) = true)
    (a_inu : PySem.W.nsIn K mainGlobals "_is_number" = some (some (.ref fa_inu)))
    (l_inu : K.lookup fa_inu = some ⟨oc_inu, od_inu, .func (PySem.W.fnOf "_is_number" "_is_number" (defArgs s_inu) (defBody s_inu) (defScope s_inu) .none kV_inu dc_inu pm_inu an_inu cd_inu ct_inu), sl_inu⟩)
    (c_inu : PySem.W.codeIn K cd_inu "_is_number" = true)
    (k_inu : PySem.W.keepIn K (.ref fa_inu) = true)
    (a_cn : PySem.W.nsIn K mainGlobals "_check_numbers" = some (some (.ref fa_cn)))
    (l_cn : K.lookup fa_cn = some ⟨oc_cn, od_cn, .func (PySem.W.fnOf "_check_numbers" "_check_numbers" (defArgs s_cn) (defBody s_cn) (defScope s_cn) .none kV_cn dc_cn pm_cn an_cn cd_cn ct_cn), sl_cn⟩)
    (c_cn : PySem.W.codeIn K cd_cn "_check_numbers" = true)
    (k_cn : PySem.W.keepIn K (.ref fa_cn) = true)
    (a_rep : PySem.W.nsIn K mainGlobals "_replaced" = some (some (.ref fa_rep)))
    (l_rep : K.lookup fa_rep = some ⟨oc_rep, od_rep, .func (PySem.W.fnOf "_replaced" "_replaced" (defArgs s_rep) (defBody s_rep) (defScope s_rep) .none kV_rep dc_rep pm_rep an_rep cd_rep ct_rep), sl_rep⟩)
    (c_rep : PySem.W.codeIn K cd_rep "_replaced" = true)
    (k_rep : PySem.W.keepIn K (.ref fa_rep) = true)
    (a_ini : PySem.W.findIn K (.ref C) "__init__" = some (some (.ref fa_ini)))
    (i_ini : PySem.W.isFn K (.ref fa_ini) = true)
    (l_ini : K.lookup fa_ini = some ⟨oc_ini, od_ini, .func (PySem.W.fnOf "__init__" "Counts.__init__" (defArgs s_ini) (defBody s_ini) (defScope s_ini) .none kV_ini dc_ini pm_ini an_ini cd_ini ct_ini), sl_ini⟩)
    (c_ini : PySem.W.codeIn K cd_ini "Counts.__init__" = true)
    (k_ini : PySem.W.keepIn K (.ref fa_ini) = true)
    (a_pre : PySem.W.findIn K (.ref C) "present" = some (some (.ref fp_pre)))
    (g_pre : PySem.W.specialIn K (.ref fp_pre) "__get__" = some (some (.builtin "property.__get__")))
    (t_pre : PySem.W.takesIn K (.ref fp_pre) = some true)
    (r_pre : PySem.W.recIn K fp_pre "property" = some (.ref fa_pre :: rs_pre))
    (l_pre : K.lookup fa_pre = some ⟨oc_pre, od_pre, .func (PySem.W.fnOf "present" "Counts.present" (defArgs s_pre) (defBody s_pre) (defScope s_pre) .none kV_pre dc_pre pm_pre an_pre cd_pre ct_pre), sl_pre⟩)
    (c_pre : PySem.W.codeIn K cd_pre "Counts.present" = true)
    (k_pre : PySem.W.keepIn K (.ref fa_pre) = true)
    (a_peo : PySem.W.findIn K (.ref C) "people" = some (some (.ref fp_peo)))
    (g_peo : PySem.W.specialIn K (.ref fp_peo) "__get__" = some (some (.builtin "property.__get__")))
    (t_peo : PySem.W.takesIn K (.ref fp_peo) = some true)
    (r_peo : PySem.W.recIn K fp_peo "property" = some (.ref fa_peo :: rs_peo))
    (l_peo : K.lookup fa_peo = some ⟨oc_peo, od_peo, .func (PySem.W.fnOf "people" "Counts.people" (defArgs s_peo) (defBody s_peo) (defScope s_peo) .none kV_peo dc_peo pm_peo an_peo cd_peo ct_peo), sl_peo⟩)
    (c_peo : PySem.W.codeIn K cd_peo "Counts.people" = true)
    (k_peo : PySem.W.keepIn K (.ref fa_peo) = true)
    (a_eq : PySem.W.findIn K (.ref C) "__eq__" = some (some (.ref fa_eq)))
    (i_eq : PySem.W.isFn K (.ref fa_eq) = true)
    (l_eq : K.lookup fa_eq = some ⟨oc_eq, od_eq, .func (PySem.W.fnOf "__eq__" "Counts.__eq__" (defArgs s_eq) (defBody s_eq) (defScope s_eq) .none kV_eq dc_eq pm_eq an_eq cd_eq ct_eq), sl_eq⟩)
    (c_eq : PySem.W.codeIn K cd_eq "Counts.__eq__" = true)
    (k_eq : PySem.W.keepIn K (.ref fa_eq) = true)
    (a_str : PySem.W.findIn K (.ref C) "__str__" = some (some (.ref fa_str)))
    (i_str : PySem.W.isFn K (.ref fa_str) = true)
    (l_str : K.lookup fa_str = some ⟨oc_str, od_str, .func (PySem.W.fnOf "__str__" "Counts.__str__" (defArgs s_str) (defBody s_str) (defScope s_str) .none kV_str dc_str pm_str an_str cd_str ct_str), sl_str⟩)
    (c_str : PySem.W.codeIn K cd_str "Counts.__str__" = true)
    (k_str : PySem.W.keepIn K (.ref fa_str) = true)
    (a_qui : PySem.W.findCls K (.ref C) (.type "type") "quiet" = some (.get (.builtin "classmethod.__get__") (.ref fp_qui) .none (.ref C)))
    (r_qui : PySem.W.recIn K fp_qui "classmethod" = some (.ref fa_qui :: rs_qui))
    (i_qui : PySem.W.fnIn K fa_qui = true)
    (l_qui : K.lookup fa_qui = some ⟨oc_qui, od_qui, .func (PySem.W.fnOf "quiet" "Counts.quiet" (defArgs s_qui) (defBody s_qui) (defScope s_qui) .none kV_qui dc_qui pm_qui an_qui cd_qui ct_qui), sl_qui⟩)
    (c_qui : PySem.W.codeIn K cd_qui "Counts.quiet" = true)
    (k_qui : PySem.W.keepIn K (.ref fa_qui) = true)
    (a_cha : PySem.W.findIn K (.ref C) "changed" = some (some (.ref fa_cha)))
    (i_cha : PySem.W.isFn K (.ref fa_cha) = true)
    (kn_cha_arrivals : PySem.W.nsIn K kD_cha "arrivals" = some (some (.none)))
    (kn_cha_departures : PySem.W.nsIn K kD_cha "departures" = some (some (.none)))
    (l_cha : K.lookup fa_cha = some ⟨oc_cha, od_cha, .func (PySem.W.fnOf "changed" "Counts.changed" (defArgs s_cha) (defBody s_cha) (defScope s_cha) .none (.ref kD_cha) dc_cha pm_cha an_cha cd_cha ct_cha), sl_cha⟩)
    (c_cha : PySem.W.codeIn K cd_cha "Counts.changed" = true)
    (k_cha : PySem.W.keepIn K (.ref fa_cha) = true)
    (a_exd : PySem.W.findIn K (.ref C) "extended" = some (some (.ref fa_exd)))
    (i_exd : PySem.W.isFn K (.ref fa_exd) = true)
    (l_exd : K.lookup fa_exd = some ⟨oc_exd, od_exd, .func (PySem.W.fnOf "extended" "Counts.extended" (defArgs s_exd) (defBody s_exd) (defScope s_exd) .none kV_exd dc_exd pm_exd an_exd cd_exd ct_exd), sl_exd⟩)
    (c_exd : PySem.W.codeIn K cd_exd "Counts.extended" = true)
    (k_exd : PySem.W.keepIn K (.ref fa_exd) = true)
    (a_cell : PySem.W.nsIn K mainGlobals "_law_cell" = some (some (.ref fa_cell)))
    (l_cell : K.lookup fa_cell = some ⟨oc_cell, od_cell, .func (PySem.W.fnOf "_law_cell" "_law_cell" (defArgs s_cell) (defBody s_cell) (defScope s_cell) .none kV_cell dc_cell pm_cell an_cell cd_cell ct_cell), sl_cell⟩)
    (c_cell : PySem.W.codeIn K cd_cell "_law_cell" = true)
    (k_cell : PySem.W.keepIn K (.ref fa_cell) = true)
    (a_pool : PySem.W.nsIn K mainGlobals "_law_pool" = some (some (.ref fa_pool)))
    (l_pool : K.lookup fa_pool = some ⟨oc_pool, od_pool, .func (PySem.W.fnOf "_law_pool" "_law_pool" (defArgs s_pool) (defBody s_pool) (defScope s_pool) .none kV_pool dc_pool pm_pool an_pool cd_pool ct_pool), sl_pool⟩)
    (c_pool : PySem.W.codeIn K cd_pool "_law_pool" = true)
    (k_pool : PySem.W.keepIn K (.ref fa_pool) = true)
    (a_draw : PySem.W.nsIn K mainGlobals "_law_draw" = some (some (.ref fa_draw)))
    (l_draw : K.lookup fa_draw = some ⟨oc_draw, od_draw, .func (PySem.W.fnOf "_law_draw" "_law_draw" (defArgs s_draw) (defBody s_draw) (defScope s_draw) .none kV_draw dc_draw pm_draw an_draw cd_draw ct_draw), sl_draw⟩)
    (c_draw : PySem.W.codeIn K cd_draw "_law_draw" = true)
    (k_draw : PySem.W.keepIn K (.ref fa_draw) = true)
    (a_flows : PySem.W.nsIn K mainGlobals "_law_flows" = some (some (.ref fa_flows)))
    (l_flows : K.lookup fa_flows = some ⟨oc_flows, od_flows, .func (PySem.W.fnOf "_law_flows" "_law_flows" (defArgs s_flows) (defBody s_flows) (defScope s_flows) .none kV_flows dc_flows pm_flows an_flows cd_flows ct_flows), sl_flows⟩)
    (c_flows : PySem.W.codeIn K cd_flows "_law_flows" = true)
    (k_flows : PySem.W.keepIn K (.ref fa_flows) = true)
    (a_small : PySem.W.nsIn K mainGlobals "_law_small_flows" = some (some (.ref fa_small)))
    (l_small : K.lookup fa_small = some ⟨oc_small, od_small, .func (PySem.W.fnOf "_law_small_flows" "_law_small_flows" (defArgs s_small) (defBody s_small) (defScope s_small) .none kV_small dc_small pm_small an_small cd_small ct_small), sl_small⟩)
    (c_small : PySem.W.codeIn K cd_small "_law_small_flows" = true)
    (k_small : PySem.W.keepIn K (.ref fa_small) = true)
    (a_great : PySem.W.nsIn K mainGlobals "_law_great_flows" = some (some (.ref fa_great)))
    (l_great : K.lookup fa_great = some ⟨oc_great, od_great, .func (PySem.W.fnOf "_law_great_flows" "_law_great_flows" (defArgs s_great) (defBody s_great) (defScope s_great) .none kV_great dc_great pm_great an_great cd_great ct_great), sl_great⟩)
    (c_great : PySem.W.codeIn K cd_great "_law_great_flows" = true)
    (k_great : PySem.W.keepIn K (.ref fa_great) = true)
    (a_rest : PySem.W.nsIn K mainGlobals "_law_rest" = some (some (.ref fa_rest)))
    (l_rest : K.lookup fa_rest = some ⟨oc_rest, od_rest, .func (PySem.W.fnOf "_law_rest" "_law_rest" (defArgs s_rest) (defBody s_rest) (defScope s_rest) .none kV_rest dc_rest pm_rest an_rest cd_rest ct_rest), sl_rest⟩)
    (c_rest : PySem.W.codeIn K cd_rest "_law_rest" = true)
    (k_rest : PySem.W.keepIn K (.ref fa_rest) = true)
    (a_error : PySem.W.nsIn K mainGlobals "_law_error" = some (some (.ref fa_error)))
    (l_error : K.lookup fa_error = some ⟨oc_error, od_error, .func (PySem.W.fnOf "_law_error" "_law_error" (defArgs s_error) (defBody s_error) (defScope s_error) .none kV_error dc_error pm_error an_error cd_error ct_error), sl_error⟩)
    (c_error : PySem.W.codeIn K cd_error "_law_error" = true)
    (k_error : PySem.W.keepIn K (.ref fa_error) = true)
    (a_any : PySem.W.nsIn K mainGlobals "_law_any_flows" = some (some (.ref fa_any)))
    (l_any : K.lookup fa_any = some ⟨oc_any, od_any, .func (PySem.W.fnOf "_law_any_flows" "_law_any_flows" (defArgs s_any) (defBody s_any) (defScope s_any) .none kV_any dc_any pm_any an_any cd_any ct_any), sl_any⟩)
    (c_any : PySem.W.codeIn K cd_any "_law_any_flows" = true)
    (k_any : PySem.W.keepIn K (.ref fa_any) = true)
    (a_wrong : PySem.W.nsIn K mainGlobals "_law_wrong" = some (some (.ref fa_wrong)))
    (l_wrong : K.lookup fa_wrong = some ⟨oc_wrong, od_wrong, .func (PySem.W.fnOf "_law_wrong" "_law_wrong" (defArgs s_wrong) (defBody s_wrong) (defScope s_wrong) .none kV_wrong dc_wrong pm_wrong an_wrong cd_wrong ct_wrong), sl_wrong⟩)
    (c_wrong : PySem.W.codeIn K cd_wrong "_law_wrong" = true)
    (k_wrong : PySem.W.keepIn K (.ref fa_wrong) = true)
    (a_written : PySem.W.nsIn K mainGlobals "_law_written" = some (some (.ref fa_written)))
    (l_written : K.lookup fa_written = some ⟨oc_written, od_written, .func (PySem.W.fnOf "_law_written" "_law_written" (defArgs s_written) (defBody s_written) (defScope s_written) .none kV_written dc_written pm_written an_written cd_written ct_written), sl_written⟩)
    (c_written : PySem.W.codeIn K cd_written "_law_written" = true)
    (k_written : PySem.W.keepIn K (.ref fa_written) = true)
    (a_field : PySem.W.nsIn K mainGlobals "_law_field" = some (some (.ref fa_field)))
    (l_field : K.lookup fa_field = some ⟨oc_field, od_field, .func (PySem.W.fnOf "_law_field" "_law_field" (defArgs s_field) (defBody s_field) (defScope s_field) .none kV_field dc_field pm_field an_field cd_field ct_field), sl_field⟩)
    (c_field : PySem.W.codeIn K cd_field "_law_field" = true)
    (k_field : PySem.W.keepIn K (.ref fa_field) = true)
    (a_caught : PySem.W.nsIn K mainGlobals "_law_caught" = some (some (.ref fa_caught)))
    (l_caught : K.lookup fa_caught = some ⟨oc_caught, od_caught, .func (PySem.W.fnOf "_law_caught" "_law_caught" (defArgs s_caught) (defBody s_caught) (defScope s_caught) .none kV_caught dc_caught pm_caught an_caught cd_caught ct_caught), sl_caught⟩)
    (c_caught : PySem.W.codeIn K cd_caught "_law_caught" = true)
    (k_caught : PySem.W.keepIn K (.ref fa_caught) = true)
    (a_isn : PySem.W.nsIn K mainGlobals "_law_is_number" = some (some (.ref fa_isn)))
    (l_isn : K.lookup fa_isn = some ⟨oc_isn, od_isn, .func (PySem.W.fnOf "_law_is_number" "_law_is_number" (defArgs s_isn) (defBody s_isn) (defScope s_isn) .none kV_isn dc_isn pm_isn an_isn cd_isn ct_isn), sl_isn⟩)
    (c_isn : PySem.W.codeIn K cd_isn "_law_is_number" = true)
    (k_isn : PySem.W.keepIn K (.ref fa_isn) = true)
    (a_shown : PySem.W.nsIn K mainGlobals "_law_shown" = some (some (.ref fa_shown)))
    (l_shown : K.lookup fa_shown = some ⟨oc_shown, od_shown, .func (PySem.W.fnOf "_law_shown" "_law_shown" (defArgs s_shown) (defBody s_shown) (defScope s_shown) .none kV_shown dc_shown pm_shown an_shown cd_shown ct_shown), sl_shown⟩)
    (c_shown : PySem.W.codeIn K cd_shown "_law_shown" = true)
    (k_shown : PySem.W.keepIn K (.ref fa_shown) = true)
    (a_made : PySem.W.nsIn K mainGlobals "_law_made" = some (some (.ref fa_made)))
    (l_made : K.lookup fa_made = some ⟨oc_made, od_made, .func (PySem.W.fnOf "_law_made" "_law_made" (defArgs s_made) (defBody s_made) (defScope s_made) .none kV_made dc_made pm_made an_made cd_made ct_made), sl_made⟩)
    (c_made : PySem.W.codeIn K cd_made "_law_made" = true)
    (k_made : PySem.W.keepIn K (.ref fa_made) = true)
    (a_chd : PySem.W.nsIn K mainGlobals "_law_changed_due" = some (some (.ref fa_chd)))
    (l_chd : K.lookup fa_chd = some ⟨oc_chd, od_chd, .func (PySem.W.fnOf "_law_changed_due" "_law_changed_due" (defArgs s_chd) (defBody s_chd) (defScope s_chd) .none kV_chd dc_chd pm_chd an_chd cd_chd ct_chd), sl_chd⟩)
    (c_chd : PySem.W.codeIn K cd_chd "_law_changed_due" = true)
    (k_chd : PySem.W.keepIn K (.ref fa_chd) = true)
    (a_exdu : PySem.W.nsIn K mainGlobals "_law_extended_due" = some (some (.ref fa_exdu)))
    (l_exdu : K.lookup fa_exdu = some ⟨oc_exdu, od_exdu, .func (PySem.W.fnOf "_law_extended_due" "_law_extended_due" (defArgs s_exdu) (defBody s_exdu) (defScope s_exdu) .none kV_exdu dc_exdu pm_exdu an_exdu cd_exdu ct_exdu), sl_exdu⟩)
    (c_exdu : PySem.W.codeIn K cd_exdu "_law_extended_due" = true)
    (k_exdu : PySem.W.keepIn K (.ref fa_exdu) = true)
    (a_thing : PySem.W.nsIn K mainGlobals "_law_thing" = some (some (.ref fa_thing)))
    (l_thing : K.lookup fa_thing = some ⟨oc_thing, od_thing, .func (PySem.W.fnOf "_law_thing" "_law_thing" (defArgs s_thing) (defBody s_thing) (defScope s_thing) .none kV_thing dc_thing pm_thing an_thing cd_thing ct_thing), sl_thing⟩)
    (c_thing : PySem.W.codeIn K cd_thing "_law_thing" = true)
    (k_thing : PySem.W.keepIn K (.ref fa_thing) = true)
    (a_turn : PySem.W.nsIn K mainGlobals "_law_turn_right" = some (some (.ref fa_turn)))
    (l_turn : K.lookup fa_turn = some ⟨oc_turn, od_turn, .func (PySem.W.fnOf "_law_turn_right" "_law_turn_right" (defArgs s_turn) (defBody s_turn) (defScope s_turn) .none kV_turn dc_turn pm_turn an_turn cd_turn ct_turn), sl_turn⟩)
    (c_turn : PySem.W.codeIn K cd_turn "_law_turn_right" = true)
    (k_turn : PySem.W.keepIn K (.ref fa_turn) = true)
    (a_whole : PySem.W.nsIn K mainGlobals "_law_whole" = some (some (.ref fa_whole)))
    (l_whole : K.lookup fa_whole = some ⟨oc_whole, od_whole, .func (PySem.W.fnOf "_law_whole" "_law_whole" (defArgs s_whole) (defBody s_whole) (defScope s_whole) .none kV_whole dc_whole pm_whole an_whole cd_whole ct_whole), sl_whole⟩)
    (c_whole : PySem.W.codeIn K cd_whole "_law_whole" = true)
    (k_whole : PySem.W.keepIn K (.ref fa_whole) = true)
    (a_right : PySem.W.nsIn K mainGlobals "_law_right" = some (some (.ref fa_right)))
    (l_right : K.lookup fa_right = some ⟨oc_right, od_right, .func (PySem.W.fnOf "_law_right" "_law_right" (defArgs s_right) (defBody s_right) (defScope s_right) .none kV_right dc_right pm_right an_right cd_right ct_right), sl_right⟩)
    (c_right : PySem.W.codeIn K cd_right "_law_right" = true)
    (k_right : PySem.W.keepIn K (.ref fa_right) = true)
    (a_hand : PySem.W.nsIn K mainGlobals "_law_by_hand" = some (some (.ref fa_hand)))
    (l_hand : K.lookup fa_hand = some ⟨oc_hand, od_hand, .func (PySem.W.fnOf "_law_by_hand" "_law_by_hand" (defArgs s_hand) (defBody s_hand) (defScope s_hand) .none kV_hand dc_hand pm_hand an_hand cd_hand ct_hand), sl_hand⟩)
    (c_hand : PySem.W.codeIn K cd_hand "_law_by_hand" = true)
    (k_hand : PySem.W.keepIn K (.ref fa_hand) = true)
    (a_law : PySem.W.nsIn K mainGlobals "law" = some (some (.ref fa_law)))
    (l_law : K.lookup fa_law = some ⟨oc_law, od_law, .func (PySem.W.fnOf "law" "law" (defArgs s_law) (defBody s_law) (defScope s_law) .none kV_law dc_law pm_law an_law cd_law ct_law), sl_law⟩)
    (c_law : PySem.W.codeIn K cd_law "law" = true)
    (k_law : PySem.W.keepIn K (.ref fa_law) = true)
    (pg : PySem.W.plainGet K C Str.empty = true)
    (hd : PySem.W.hasDictIn K C = true)
    (po : PySem.W.plainOver K C = true)
    (sa : PySem.W.findIn K (.ref C) "__setattr__" = some (some (.builtin "object.__setattr__")))
    (mk : PySem.W.makesIn K C = true)
    (kc : PySem.W.keepIn K (.ref C) = true)
    (rd : PySem.W.readsIn K C (.type "type") = true)
    (ga : PySem.W.specialIn K (.ref C) "__getattribute__" = some (some (.builtin "type.__getattribute__")))
    (ha : PySem.W.findIn K (.ref C) "__class__" = some (some (.builtin "object.__class__")))
    (hn : PySem.W.specialIn K (.builtin "object.__class__") "__get__" = some (some (.builtin "getset_descriptor.__get__")))
    (tk : PySem.W.takesIn K (.builtin "object.__class__") = some true)
    (mr : PySem.W.mroIn K C (.type "object") = some true)
    (ty : PySem.W.typeIn K (.ref C) = some (.type "type"))
    (bt_bool : PySem.W.mroIn K C (.type "bool") = some false)
    (bt_int : PySem.W.mroIn K C (.type "int") = some false)
    (bt_str : PySem.W.mroIn K C (.type "str") = some false)
    (bt_tuple : PySem.W.mroIn K C (.type "tuple") = some false)
    (bt_list : PySem.W.mroIn K C (.type "list") = some false)
    (bt_dict : PySem.W.mroIn K C (.type "dict") = some false)
    (bt_NoneType : PySem.W.mroIn K C (.type "NoneType") = some false)
    (neb : PySem.W.findIn K (.ref C) "__ne__" = some (some (.builtin "object.__ne__")))
    (na_arrivals : PySem.W.findIn K (.ref C) "arrivals" = some none)
    (na_departures : PySem.W.findIn K (.ref C) "departures" = some none)
    (cv_MAX_TICKS : PySem.W.findCls K (.ref C) (.type "type") "MAX_TICKS" = some (.val (.int 60 tk_MAX_TICKS)))
    (cv_MAX_PEOPLE : PySem.W.findCls K (.ref C) (.type "type") "MAX_PEOPLE" = some (.val (.int 999 tk_MAX_PEOPLE)))
    (z_isinstance : PySem.W.nsIn K mainGlobals "isinstance" = some none)
    (z_len : PySem.W.nsIn K mainGlobals "len" = some none)
    (z_int : PySem.W.nsIn K mainGlobals "int" = some none)
    (z_bool : PySem.W.nsIn K mainGlobals "bool" = some none)
    (z_tuple : PySem.W.nsIn K mainGlobals "tuple" = some none)
    (z_list : PySem.W.nsIn K mainGlobals "list" = some none)
    (z_str : PySem.W.nsIn K mainGlobals "str" = some none)
    (z_enumerate : PySem.W.nsIn K mainGlobals "enumerate" = some none)
    (z_zip : PySem.W.nsIn K mainGlobals "zip" = some none)
    (z_range : PySem.W.nsIn K mainGlobals "range" = some none)
    (z_min : PySem.W.nsIn K mainGlobals "min" = some none)
    (z_max : PySem.W.nsIn K mainGlobals "max" = some none)
    (z_repr : PySem.W.nsIn K mainGlobals "repr" = some none)
    (z_all : PySem.W.nsIn K mainGlobals "all" = some none)
    (z_divmod : PySem.W.nsIn K mainGlobals "divmod" = some none)
    (z_abs : PySem.W.nsIn K mainGlobals "abs" = some none)
    (z_sum : PySem.W.nsIn K mainGlobals "sum" = some none)
    (z_ValueError : PySem.W.nsIn K mainGlobals "ValueError" = some none)
    (z_LookupError : PySem.W.nsIn K mainGlobals "LookupError" = some none)
    (z_ArithmeticError : PySem.W.nsIn K mainGlobals "ArithmeticError" = some none)
    (xhd_InvalidCounts : PySem.W.hasDictIn K x_InvalidCounts = true)
    (xty_InvalidCounts : PySem.W.typeIn K (.ref x_InvalidCounts) = some (.type "type"))
    (xbe_InvalidCounts : PySem.W.mroIn K x_InvalidCounts (.type "BaseException") = some true)
    (xm_InvalidCounts_InvalidCounts : PySem.W.mroIn K x_InvalidCounts (.ref x_InvalidCounts) = some true)
    (xm_InvalidTick_InvalidCounts : PySem.W.mroIn K x_InvalidTick (.ref x_InvalidCounts) = some false)
    (xm_InvalidNumber_InvalidCounts : PySem.W.mroIn K x_InvalidNumber (.ref x_InvalidCounts) = some false)
    (xm_TooMany_InvalidCounts : PySem.W.mroIn K x_TooMany (.ref x_InvalidCounts) = some false)
    (xhd_NotCounts : PySem.W.hasDictIn K x_NotCounts = true)
    (xty_NotCounts : PySem.W.typeIn K (.ref x_NotCounts) = some (.type "type"))
    (xm_InvalidCounts_NotCounts : PySem.W.mroIn K x_InvalidCounts (.ref x_NotCounts) = some false)
    (xm_InvalidTick_NotCounts : PySem.W.mroIn K x_InvalidTick (.ref x_NotCounts) = some false)
    (xm_InvalidNumber_NotCounts : PySem.W.mroIn K x_InvalidNumber (.ref x_NotCounts) = some false)
    (xm_TooMany_NotCounts : PySem.W.mroIn K x_TooMany (.ref x_NotCounts) = some false)
    (xhd_InvalidTick : PySem.W.hasDictIn K x_InvalidTick = true)
    (xty_InvalidTick : PySem.W.typeIn K (.ref x_InvalidTick) = some (.type "type"))
    (xbe_InvalidTick : PySem.W.mroIn K x_InvalidTick (.type "BaseException") = some true)
    (xm_InvalidCounts_InvalidTick : PySem.W.mroIn K x_InvalidCounts (.ref x_InvalidTick) = some false)
    (xm_InvalidTick_InvalidTick : PySem.W.mroIn K x_InvalidTick (.ref x_InvalidTick) = some true)
    (xm_InvalidNumber_InvalidTick : PySem.W.mroIn K x_InvalidNumber (.ref x_InvalidTick) = some false)
    (xm_TooMany_InvalidTick : PySem.W.mroIn K x_TooMany (.ref x_InvalidTick) = some false)
    (xhd_InvalidNumber : PySem.W.hasDictIn K x_InvalidNumber = true)
    (xty_InvalidNumber : PySem.W.typeIn K (.ref x_InvalidNumber) = some (.type "type"))
    (xbe_InvalidNumber : PySem.W.mroIn K x_InvalidNumber (.type "BaseException") = some true)
    (xm_InvalidCounts_InvalidNumber : PySem.W.mroIn K x_InvalidCounts (.ref x_InvalidNumber) = some false)
    (xm_InvalidTick_InvalidNumber : PySem.W.mroIn K x_InvalidTick (.ref x_InvalidNumber) = some false)
    (xm_InvalidNumber_InvalidNumber : PySem.W.mroIn K x_InvalidNumber (.ref x_InvalidNumber) = some true)
    (xm_TooMany_InvalidNumber : PySem.W.mroIn K x_TooMany (.ref x_InvalidNumber) = some false)
    (xhd_InvalidText : PySem.W.hasDictIn K x_InvalidText = true)
    (xty_InvalidText : PySem.W.typeIn K (.ref x_InvalidText) = some (.type "type"))
    (xm_InvalidCounts_InvalidText : PySem.W.mroIn K x_InvalidCounts (.ref x_InvalidText) = some false)
    (xm_InvalidTick_InvalidText : PySem.W.mroIn K x_InvalidTick (.ref x_InvalidText) = some false)
    (xm_InvalidNumber_InvalidText : PySem.W.mroIn K x_InvalidNumber (.ref x_InvalidText) = some false)
    (xm_TooMany_InvalidText : PySem.W.mroIn K x_TooMany (.ref x_InvalidText) = some false)
    (xhd_InvalidStay : PySem.W.hasDictIn K x_InvalidStay = true)
    (xty_InvalidStay : PySem.W.typeIn K (.ref x_InvalidStay) = some (.type "type"))
    (xm_InvalidCounts_InvalidStay : PySem.W.mroIn K x_InvalidCounts (.ref x_InvalidStay) = some false)
    (xm_InvalidTick_InvalidStay : PySem.W.mroIn K x_InvalidTick (.ref x_InvalidStay) = some false)
    (xm_InvalidNumber_InvalidStay : PySem.W.mroIn K x_InvalidNumber (.ref x_InvalidStay) = some false)
    (xm_TooMany_InvalidStay : PySem.W.mroIn K x_TooMany (.ref x_InvalidStay) = some false)
    (xhd_InvalidHistory : PySem.W.hasDictIn K x_InvalidHistory = true)
    (xty_InvalidHistory : PySem.W.typeIn K (.ref x_InvalidHistory) = some (.type "type"))
    (xm_InvalidCounts_InvalidHistory : PySem.W.mroIn K x_InvalidCounts (.ref x_InvalidHistory) = some false)
    (xm_InvalidTick_InvalidHistory : PySem.W.mroIn K x_InvalidTick (.ref x_InvalidHistory) = some false)
    (xm_InvalidNumber_InvalidHistory : PySem.W.mroIn K x_InvalidNumber (.ref x_InvalidHistory) = some false)
    (xm_TooMany_InvalidHistory : PySem.W.mroIn K x_TooMany (.ref x_InvalidHistory) = some false)
    (xhd_InvalidName : PySem.W.hasDictIn K x_InvalidName = true)
    (xty_InvalidName : PySem.W.typeIn K (.ref x_InvalidName) = some (.type "type"))
    (xm_InvalidCounts_InvalidName : PySem.W.mroIn K x_InvalidCounts (.ref x_InvalidName) = some false)
    (xm_InvalidTick_InvalidName : PySem.W.mroIn K x_InvalidTick (.ref x_InvalidName) = some false)
    (xm_InvalidNumber_InvalidName : PySem.W.mroIn K x_InvalidNumber (.ref x_InvalidName) = some false)
    (xm_TooMany_InvalidName : PySem.W.mroIn K x_TooMany (.ref x_InvalidName) = some false)
    (xhd_InvalidLength : PySem.W.hasDictIn K x_InvalidLength = true)
    (xty_InvalidLength : PySem.W.typeIn K (.ref x_InvalidLength) = some (.type "type"))
    (xm_InvalidCounts_InvalidLength : PySem.W.mroIn K x_InvalidCounts (.ref x_InvalidLength) = some false)
    (xm_InvalidTick_InvalidLength : PySem.W.mroIn K x_InvalidTick (.ref x_InvalidLength) = some false)
    (xm_InvalidNumber_InvalidLength : PySem.W.mroIn K x_InvalidNumber (.ref x_InvalidLength) = some false)
    (xm_TooMany_InvalidLength : PySem.W.mroIn K x_TooMany (.ref x_InvalidLength) = some false)
    (xhd_InvalidDoors : PySem.W.hasDictIn K x_InvalidDoors = true)
    (xty_InvalidDoors : PySem.W.typeIn K (.ref x_InvalidDoors) = some (.type "type"))
    (xm_InvalidCounts_InvalidDoors : PySem.W.mroIn K x_InvalidCounts (.ref x_InvalidDoors) = some false)
    (xm_InvalidTick_InvalidDoors : PySem.W.mroIn K x_InvalidTick (.ref x_InvalidDoors) = some false)
    (xm_InvalidNumber_InvalidDoors : PySem.W.mroIn K x_InvalidNumber (.ref x_InvalidDoors) = some false)
    (xm_TooMany_InvalidDoors : PySem.W.mroIn K x_TooMany (.ref x_InvalidDoors) = some false)
    (xhd_InvalidDeed : PySem.W.hasDictIn K x_InvalidDeed = true)
    (xty_InvalidDeed : PySem.W.typeIn K (.ref x_InvalidDeed) = some (.type "type"))
    (xm_InvalidCounts_InvalidDeed : PySem.W.mroIn K x_InvalidCounts (.ref x_InvalidDeed) = some false)
    (xm_InvalidTick_InvalidDeed : PySem.W.mroIn K x_InvalidTick (.ref x_InvalidDeed) = some false)
    (xm_InvalidNumber_InvalidDeed : PySem.W.mroIn K x_InvalidNumber (.ref x_InvalidDeed) = some false)
    (xm_TooMany_InvalidDeed : PySem.W.mroIn K x_TooMany (.ref x_InvalidDeed) = some false)
    (xhd_InvalidCommand : PySem.W.hasDictIn K x_InvalidCommand = true)
    (xty_InvalidCommand : PySem.W.typeIn K (.ref x_InvalidCommand) = some (.type "type"))
    (xm_InvalidCounts_InvalidCommand : PySem.W.mroIn K x_InvalidCounts (.ref x_InvalidCommand) = some false)
    (xm_InvalidTick_InvalidCommand : PySem.W.mroIn K x_InvalidTick (.ref x_InvalidCommand) = some false)
    (xm_InvalidNumber_InvalidCommand : PySem.W.mroIn K x_InvalidNumber (.ref x_InvalidCommand) = some false)
    (xm_TooMany_InvalidCommand : PySem.W.mroIn K x_TooMany (.ref x_InvalidCommand) = some false)
    (xhd_Impossible : PySem.W.hasDictIn K x_Impossible = true)
    (xty_Impossible : PySem.W.typeIn K (.ref x_Impossible) = some (.type "type"))
    (xm_InvalidCounts_Impossible : PySem.W.mroIn K x_InvalidCounts (.ref x_Impossible) = some false)
    (xm_InvalidTick_Impossible : PySem.W.mroIn K x_InvalidTick (.ref x_Impossible) = some false)
    (xm_InvalidNumber_Impossible : PySem.W.mroIn K x_InvalidNumber (.ref x_Impossible) = some false)
    (xm_TooMany_Impossible : PySem.W.mroIn K x_TooMany (.ref x_Impossible) = some false)
    (xhd_NotKnown : PySem.W.hasDictIn K x_NotKnown = true)
    (xty_NotKnown : PySem.W.typeIn K (.ref x_NotKnown) = some (.type "type"))
    (xm_InvalidCounts_NotKnown : PySem.W.mroIn K x_InvalidCounts (.ref x_NotKnown) = some false)
    (xm_InvalidTick_NotKnown : PySem.W.mroIn K x_InvalidTick (.ref x_NotKnown) = some false)
    (xm_InvalidNumber_NotKnown : PySem.W.mroIn K x_InvalidNumber (.ref x_NotKnown) = some false)
    (xm_TooMany_NotKnown : PySem.W.mroIn K x_TooMany (.ref x_NotKnown) = some false)
    (xhd_LimitBroken : PySem.W.hasDictIn K x_LimitBroken = true)
    (xty_LimitBroken : PySem.W.typeIn K (.ref x_LimitBroken) = some (.type "type"))
    (xm_InvalidCounts_LimitBroken : PySem.W.mroIn K x_InvalidCounts (.ref x_LimitBroken) = some false)
    (xm_InvalidTick_LimitBroken : PySem.W.mroIn K x_InvalidTick (.ref x_LimitBroken) = some false)
    (xm_InvalidNumber_LimitBroken : PySem.W.mroIn K x_InvalidNumber (.ref x_LimitBroken) = some false)
    (xm_TooMany_LimitBroken : PySem.W.mroIn K x_TooMany (.ref x_LimitBroken) = some false)
    (xhd_NothingToUndo : PySem.W.hasDictIn K x_NothingToUndo = true)
    (xty_NothingToUndo : PySem.W.typeIn K (.ref x_NothingToUndo) = some (.type "type"))
    (xm_InvalidCounts_NothingToUndo : PySem.W.mroIn K x_InvalidCounts (.ref x_NothingToUndo) = some false)
    (xm_InvalidTick_NothingToUndo : PySem.W.mroIn K x_InvalidTick (.ref x_NothingToUndo) = some false)
    (xm_InvalidNumber_NothingToUndo : PySem.W.mroIn K x_InvalidNumber (.ref x_NothingToUndo) = some false)
    (xm_TooMany_NothingToUndo : PySem.W.mroIn K x_TooMany (.ref x_NothingToUndo) = some false)
    (xhd_TooMany : PySem.W.hasDictIn K x_TooMany = true)
    (xty_TooMany : PySem.W.typeIn K (.ref x_TooMany) = some (.type "type"))
    (xbe_TooMany : PySem.W.mroIn K x_TooMany (.type "BaseException") = some true)
    (xm_InvalidCounts_TooMany : PySem.W.mroIn K x_InvalidCounts (.ref x_TooMany) = some false)
    (xm_InvalidTick_TooMany : PySem.W.mroIn K x_InvalidTick (.ref x_TooMany) = some false)
    (xm_InvalidNumber_TooMany : PySem.W.mroIn K x_InvalidNumber (.ref x_TooMany) = some false)
    (xm_TooMany_TooMany : PySem.W.mroIn K x_TooMany (.ref x_TooMany) = some true)
    (xhd_CountError : PySem.W.hasDictIn K x_CountError = true)
    (xty_CountError : PySem.W.typeIn K (.ref x_CountError) = some (.type "type"))
    (xbe_CountError : PySem.W.mroIn K x_CountError (.type "BaseException") = some true)
    (xm_InvalidCounts_CountError : PySem.W.mroIn K x_InvalidCounts (.ref x_CountError) = some true)
    (xm_InvalidTick_CountError : PySem.W.mroIn K x_InvalidTick (.ref x_CountError) = some true)
    (xm_InvalidNumber_CountError : PySem.W.mroIn K x_InvalidNumber (.ref x_CountError) = some true)
    (xm_TooMany_CountError : PySem.W.mroIn K x_TooMany (.ref x_CountError) = some false)
    (xhd_SearchError : PySem.W.hasDictIn K x_SearchError = true)
    (xty_SearchError : PySem.W.typeIn K (.ref x_SearchError) = some (.type "type"))
    (xbe_SearchError : PySem.W.mroIn K x_SearchError (.type "BaseException") = some true)
    (xm_InvalidCounts_SearchError : PySem.W.mroIn K x_InvalidCounts (.ref x_SearchError) = some false)
    (xm_InvalidTick_SearchError : PySem.W.mroIn K x_InvalidTick (.ref x_SearchError) = some false)
    (xm_InvalidNumber_SearchError : PySem.W.mroIn K x_InvalidNumber (.ref x_SearchError) = some false)
    (xm_TooMany_SearchError : PySem.W.mroIn K x_TooMany (.ref x_SearchError) = some false)
    (xhd_LimitError : PySem.W.hasDictIn K x_LimitError = true)
    (xty_LimitError : PySem.W.typeIn K (.ref x_LimitError) = some (.type "type"))
    (xbe_LimitError : PySem.W.mroIn K x_LimitError (.type "BaseException") = some true)
    (xm_InvalidCounts_LimitError : PySem.W.mroIn K x_InvalidCounts (.ref x_LimitError) = some false)
    (xm_InvalidTick_LimitError : PySem.W.mroIn K x_InvalidTick (.ref x_LimitError) = some false)
    (xm_InvalidNumber_LimitError : PySem.W.mroIn K x_InvalidNumber (.ref x_LimitError) = some false)
    (xm_TooMany_LimitError : PySem.W.mroIn K x_TooMany (.ref x_LimitError) = some true)
    (xm_InvalidCounts_ValueError : PySem.W.mroIn K x_InvalidCounts (.type "ValueError") = some true)
    (xm_InvalidCounts_LookupError : PySem.W.mroIn K x_InvalidCounts (.type "LookupError") = some false)
    (xm_InvalidCounts_ArithmeticError : PySem.W.mroIn K x_InvalidCounts (.type "ArithmeticError") = some false)
    (xsa_InvalidCounts : PySem.W.findIn K (.ref x_InvalidCounts) "__setattr__" = some (some (.builtin "object.__setattr__")))
    (xk_InvalidCounts : PySem.W.keepIn K (.ref x_InvalidCounts) = true)
    (xga_InvalidCounts : PySem.W.findIn K (.ref x_InvalidCounts) "__getattribute__" = some (some (.builtin "BaseException.__getattribute__")))
    (xgg_InvalidCounts : PySem.W.findIn K (.ref x_InvalidCounts) "__getattr__" = some none)
    (xha_InvalidCounts : PySem.W.findIn K (.ref x_InvalidCounts) "__class__" = some (some (.builtin "object.__class__")))
    (xmr_InvalidCounts : PySem.W.mroIn K x_InvalidCounts (.type "object") = some true)
    (xn_InvalidCounts_tick : PySem.W.findIn K (.ref x_InvalidCounts) "tick" = some none)
    (xm_InvalidTick_ValueError : PySem.W.mroIn K x_InvalidTick (.type "ValueError") = some true)
    (xm_InvalidTick_LookupError : PySem.W.mroIn K x_InvalidTick (.type "LookupError") = some false)
    (xm_InvalidTick_ArithmeticError : PySem.W.mroIn K x_InvalidTick (.type "ArithmeticError") = some false)
    (xsa_InvalidTick : PySem.W.findIn K (.ref x_InvalidTick) "__setattr__" = some (some (.builtin "object.__setattr__")))
    (xk_InvalidTick : PySem.W.keepIn K (.ref x_InvalidTick) = true)
    (xga_InvalidTick : PySem.W.findIn K (.ref x_InvalidTick) "__getattribute__" = some (some (.builtin "BaseException.__getattribute__")))
    (xgg_InvalidTick : PySem.W.findIn K (.ref x_InvalidTick) "__getattr__" = some none)
    (xha_InvalidTick : PySem.W.findIn K (.ref x_InvalidTick) "__class__" = some (some (.builtin "object.__class__")))
    (xmr_InvalidTick : PySem.W.mroIn K x_InvalidTick (.type "object") = some true)
    (xn_InvalidTick_tick : PySem.W.findIn K (.ref x_InvalidTick) "tick" = some none)
    (xm_InvalidNumber_ValueError : PySem.W.mroIn K x_InvalidNumber (.type "ValueError") = some true)
    (xm_InvalidNumber_LookupError : PySem.W.mroIn K x_InvalidNumber (.type "LookupError") = some false)
    (xm_InvalidNumber_ArithmeticError : PySem.W.mroIn K x_InvalidNumber (.type "ArithmeticError") = some false)
    (xsa_InvalidNumber : PySem.W.findIn K (.ref x_InvalidNumber) "__setattr__" = some (some (.builtin "object.__setattr__")))
    (xk_InvalidNumber : PySem.W.keepIn K (.ref x_InvalidNumber) = true)
    (xga_InvalidNumber : PySem.W.findIn K (.ref x_InvalidNumber) "__getattribute__" = some (some (.builtin "BaseException.__getattribute__")))
    (xgg_InvalidNumber : PySem.W.findIn K (.ref x_InvalidNumber) "__getattr__" = some none)
    (xha_InvalidNumber : PySem.W.findIn K (.ref x_InvalidNumber) "__class__" = some (some (.builtin "object.__class__")))
    (xmr_InvalidNumber : PySem.W.mroIn K x_InvalidNumber (.type "object") = some true)
    (xn_InvalidNumber_number : PySem.W.findIn K (.ref x_InvalidNumber) "number" = some none)
    (xm_TooMany_ValueError : PySem.W.mroIn K x_TooMany (.type "ValueError") = some false)
    (xm_TooMany_LookupError : PySem.W.mroIn K x_TooMany (.type "LookupError") = some false)
    (xm_TooMany_ArithmeticError : PySem.W.mroIn K x_TooMany (.type "ArithmeticError") = some true)
    (xsa_TooMany : PySem.W.findIn K (.ref x_TooMany) "__setattr__" = some (some (.builtin "object.__setattr__")))
    (xk_TooMany : PySem.W.keepIn K (.ref x_TooMany) = true)
    (xga_TooMany : PySem.W.findIn K (.ref x_TooMany) "__getattribute__" = some (some (.builtin "BaseException.__getattribute__")))
    (xgg_TooMany : PySem.W.findIn K (.ref x_TooMany) "__getattr__" = some none)
    (xha_TooMany : PySem.W.findIn K (.ref x_TooMany) "__class__" = some (some (.builtin "object.__class__")))
    (xmr_TooMany : PySem.W.mroIn K x_TooMany (.type "object") = some true)
    (xn_TooMany_limit : PySem.W.findIn K (.ref x_TooMany) "limit" = some none)
    (xq_InvalidCounts : PySem.W.excInitIn K x_InvalidCounts [.type "ValueError", .type "Exception", .type "BaseException", .type "object"] "ValueError.__new__" = true)
    (xo_InvalidCounts : PySem.W.excOver K x_InvalidCounts [.type "ValueError", .type "Exception", .type "BaseException", .type "object"] = true)
    (xq_InvalidTick : PySem.W.excInitIn K x_InvalidTick [.type "ValueError", .type "Exception", .type "BaseException", .type "object"] "ValueError.__new__" = true)
    (xo_InvalidTick : PySem.W.excOver K x_InvalidTick [.type "ValueError", .type "Exception", .type "BaseException", .type "object"] = true)
    (xq_InvalidNumber : PySem.W.excInitIn K x_InvalidNumber [.type "ValueError", .type "Exception", .type "BaseException", .type "object"] "ValueError.__new__" = true)
    (xo_InvalidNumber : PySem.W.excOver K x_InvalidNumber [.type "ValueError", .type "Exception", .type "BaseException", .type "object"] = true)
    (xq_TooMany : PySem.W.excInitIn K x_TooMany [.type "ArithmeticError", .type "Exception", .type "BaseException", .type "object"] "ArithmeticError.__new__" = true)
    (xo_TooMany : PySem.W.excOver K x_TooMany [.type "ArithmeticError", .type "Exception", .type "BaseException", .type "object"] = true)
    (cdq_turn : cd_turn = .ref ccA_turn)
    (lcd_turn : K.lookup ccA_turn = some ⟨cls_turn, dcc_turn, .fields vsc_turn, slc_turn⟩)
    (v11_turn : vsc_turn[11]? = some (.ref cPA_turn))
    (np_turn : K.lookup cPA_turn = none)
    (cdq_hand : cd_hand = .ref ccA_hand)
    (lcd_hand : K.lookup ccA_hand = some ⟨cls_hand, dcc_hand, .fields vsc_hand, slc_hand⟩)
    (v11_hand : vsc_hand[11]? = some (.ref cPA_hand))
    (np_hand : K.lookup cPA_hand = none)
    (neP_0_1 : cPA_turn ≠ cPA_hand)
    : (K.lookup cP_turn = none ∧ K.lookup cP_hand = none ∧ cP_turn ≠ cP_hand) ∧ ∃ fd : FuncData, (∀ (s : Shared) (v : Value), BindsTo s fd ⟨[v], []⟩ [("_law_cells", v)])  ∧ ∀ base : Heap, K.In base → base.Ns mainGlobals mg → LamX.TabB base mg cc_turn cP_turn → LamX.TabB base mg cc_hand cP_hand → ∃ ca, FnG Pg w K mg base 12 fa fd ["_law_cells"] (spF K ca [(cP_turn, ("_law_turn_right" : Str) ++ ".<locals>." ++ "<lambda>"), (cP_hand, ("_law_by_hand" : Str) ++ ".<locals>." ++ "<lambda>")] F_law) := by
  have e := hfa.symm.trans (PySem.W.mg_of X G a_law)
  cases e
  obtain rfl : fx_turn = fa_turn := by
    have q := x1_turn.symm.trans (PySem.W.mg_of X G a_turn)
    cases q
    rfl
  have eO_turn := (X _ _ l_turn).symm.trans x2_turn
  cases eO_turn
  cases x3_turn
  have cdE_turn : cd_turn = .ref cc_turn := x4_turn
  have ecc_turn : ccA_turn = cc_turn := by
    have q := cdq_turn.symm.trans cdE_turn
    cases q
    rfl
  rw [ecc_turn] at lcd_turn
  obtain rfl : cP_turn = cPA_turn := by
    obtain ⟨oc, us, _, _, _, _, _, _, _, y1, _, y2, y3, _⟩ := x5_turn
    have eC := (X _ _ lcd_turn).symm.trans y1
    cases eC
    cases y2
    rw [v11_turn] at y3
    cases y3
    rfl
  obtain rfl : fx_hand = fa_hand := by
    have q := x1_hand.symm.trans (PySem.W.mg_of X G a_hand)
    cases q
    rfl
  have eO_hand := (X _ _ l_hand).symm.trans x2_hand
  cases eO_hand
  cases x3_hand
  have cdE_hand : cd_hand = .ref cc_hand := x4_hand
  have ecc_hand : ccA_hand = cc_hand := by
    have q := cdq_hand.symm.trans cdE_hand
    cases q
    rfl
  rw [ecc_hand] at lcd_hand
  obtain rfl : cP_hand = cPA_hand := by
    obtain ⟨oc, us, _, _, _, _, _, _, _, y1, _, y2, y3, _⟩ := x5_hand
    have eC := (X _ _ lcd_hand).symm.trans y1
    cases eC
    cases y2
    rw [v11_hand] at y3
    cases y3
    rfl
  have F_eIC := fun_mk (st := s_eIC) l_eIC c_eIC k_eIC
  have F_eIT := fun_mk (st := s_eIT) l_eIT c_eIT k_eIT
  have F_eIN := fun_mk (st := s_eIN) l_eIN c_eIN k_eIN
  have F_eTM := fun_mk (st := s_eTM) l_eTM c_eTM k_eTM
  have F_ii := fun_mk (st := s_ii) l_ii c_ii k_ii
  have F_ct := fun_mk (st := s_ct) l_ct c_ct k_ct
  have F_cnu := fun_mk (st := s_cnu) l_cnu c_cnu k_cnu
  have F_pra := fun_mk (st := s_pra) l_pra c_pra k_pra
  have F_cl := fun_mk (st := s_cl) l_cl c_cl k_cl
  have F_inu := fun_mk (st := s_inu) l_inu c_inu k_inu
  have F_cn := fun_mk (st := s_cn) l_cn c_cn k_cn
  have F_rep := fun_mk (st := s_rep) l_rep c_rep k_rep
  have F_ini := fun_mk (st := s_ini) l_ini c_ini k_ini
  have F_pre := fun_mk (st := s_pre) l_pre c_pre k_pre
  have F_peo := fun_mk (st := s_peo) l_peo c_peo k_peo
  have F_eq := fun_mk (st := s_eq) l_eq c_eq k_eq
  have F_str := fun_mk (st := s_str) l_str c_str k_str
  have F_qui := fun_mk (st := s_qui) l_qui c_qui k_qui
  have F_cha := fun_mk (st := s_cha) l_cha c_cha k_cha
  have F_exd := fun_mk (st := s_exd) l_exd c_exd k_exd
  have F_cell := fun_mk (st := s_cell) l_cell c_cell k_cell
  have F_pool := fun_mk (st := s_pool) l_pool c_pool k_pool
  have F_draw := fun_mk (st := s_draw) l_draw c_draw k_draw
  have F_flows := fun_mk (st := s_flows) l_flows c_flows k_flows
  have F_small := fun_mk (st := s_small) l_small c_small k_small
  have F_great := fun_mk (st := s_great) l_great c_great k_great
  have F_rest := fun_mk (st := s_rest) l_rest c_rest k_rest
  have F_error := fun_mk (st := s_error) l_error c_error k_error
  have F_any := fun_mk (st := s_any) l_any c_any k_any
  have F_wrong := fun_mk (st := s_wrong) l_wrong c_wrong k_wrong
  have F_written := fun_mk (st := s_written) l_written c_written k_written
  have F_field := fun_mk (st := s_field) l_field c_field k_field
  have F_caught := fun_mk (st := s_caught) l_caught c_caught k_caught
  have F_isn := fun_mk (st := s_isn) l_isn c_isn k_isn
  have F_shown := fun_mk (st := s_shown) l_shown c_shown k_shown
  have F_made := fun_mk (st := s_made) l_made c_made k_made
  have F_chd := fun_mk (st := s_chd) l_chd c_chd k_chd
  have F_exdu := fun_mk (st := s_exdu) l_exdu c_exdu k_exdu
  have F_thing := fun_mk (st := s_thing) l_thing c_thing k_thing
  have F_turn := fun_mk (st := s_turn) l_turn c_turn k_turn
  have F_whole := fun_mk (st := s_whole) l_whole c_whole k_whole
  have F_right := fun_mk (st := s_right) l_right c_right k_right
  have F_hand := fun_mk (st := s_hand) l_hand c_hand k_hand
  have F_law := fun_mk (st := s_law) l_law c_law k_law
  let ca0 : Str → Option Addr := fun c => List.lookup c ([("Counts", C), ("InvalidCounts", x_InvalidCounts), ("InvalidTick", x_InvalidTick), ("InvalidNumber", x_InvalidNumber), ("TooMany", x_TooMany)] : List (Str × Addr))
  have CX_C : ca0 "Counts" = some C := by kernel_rfl
  have CX_InvalidCounts : ca0 "InvalidCounts" = some x_InvalidCounts := by kernel_rfl
  have EX_InvalidCounts : ExnC K x_InvalidCounts := ⟨xhd_InvalidCounts, xga_InvalidCounts, xgg_InvalidCounts, xbe_InvalidCounts, xha_InvalidCounts, hn, tk, xmr_InvalidCounts⟩
  have CX_InvalidTick : ca0 "InvalidTick" = some x_InvalidTick := by kernel_rfl
  have EX_InvalidTick : ExnC K x_InvalidTick := ⟨xhd_InvalidTick, xga_InvalidTick, xgg_InvalidTick, xbe_InvalidTick, xha_InvalidTick, hn, tk, xmr_InvalidTick⟩
  have CX_InvalidNumber : ca0 "InvalidNumber" = some x_InvalidNumber := by kernel_rfl
  have EX_InvalidNumber : ExnC K x_InvalidNumber := ⟨xhd_InvalidNumber, xga_InvalidNumber, xgg_InvalidNumber, xbe_InvalidNumber, xha_InvalidNumber, hn, tk, xmr_InvalidNumber⟩
  have CX_TooMany : ca0 "TooMany" = some x_TooMany := by kernel_rfl
  have EX_TooMany : ExnC K x_TooMany := ⟨xhd_TooMany, xga_TooMany, xgg_TooMany, xbe_TooMany, xha_TooMany, hn, tk, xmr_TooMany⟩
  have T : ∀ base : Heap, LamX.TabB base mg cc_turn cP_turn → LamX.TabB base mg cc_hand cP_hand → Txt K mg base [(cP_turn, ("_law_turn_right" : Str) ++ ".<locals>." ++ "<lambda>"), (cP_hand, ("_law_by_hand" : Str) ++ ".<locals>." ++ "<lambda>")] ca0 C ⟨x_InvalidCounts, x_NotCounts, x_InvalidTick, x_InvalidNumber, x_InvalidText, x_InvalidStay, x_InvalidHistory, x_InvalidName, x_InvalidLength, x_InvalidDoors, x_InvalidDeed, x_InvalidCommand, x_Impossible, x_NotKnown, x_LimitBroken, x_NothingToUndo, x_TooMany, x_CountError, x_SearchError, x_LimitError⟩ := fun base bt_turn bt_hand => {
    free := fun x hx => by
      simp only [List.mem_cons, List.not_mem_nil, or_false] at hx
      rcases hx with rfl | rfl | rfl | rfl | rfl | rfl | rfl | rfl | rfl | rfl | rfl | rfl | rfl | rfl | rfl | rfl | rfl | rfl | rfl | rfl
      · exact PySem.W.mg_none_of X G z_isinstance
      · exact PySem.W.mg_none_of X G z_len
      · exact PySem.W.mg_none_of X G z_int
      · exact PySem.W.mg_none_of X G z_bool
      · exact PySem.W.mg_none_of X G z_tuple
      · exact PySem.W.mg_none_of X G z_list
      · exact PySem.W.mg_none_of X G z_str
      · exact PySem.W.mg_none_of X G z_enumerate
      · exact PySem.W.mg_none_of X G z_zip
      · exact PySem.W.mg_none_of X G z_range
      · exact PySem.W.mg_none_of X G z_min
      · exact PySem.W.mg_none_of X G z_max
      · exact PySem.W.mg_none_of X G z_repr
      · exact PySem.W.mg_none_of X G z_all
      · exact PySem.W.mg_none_of X G z_divmod
      · exact PySem.W.mg_none_of X G z_abs
      · exact PySem.W.mg_none_of X G z_sum
      · exact PySem.W.mg_none_of X G z_ValueError
      · exact PySem.W.mg_none_of X G z_LookupError
      · exact PySem.W.mg_none_of X G z_ArithmeticError
    caC := CX_C
    mgC := PySem.W.mg_of X G aC
    clC := ⟨pg, hd, po, sa⟩
    rdC := ⟨rd, ga⟩
    oCC := ⟨⟨⟨pg, hd, po, sa⟩, ha, hn, tk, mr⟩, fun T hT => by
        simp only [List.mem_cons, List.not_mem_nil, or_false] at hT
        rcases hT with rfl | rfl | rfl | rfl | rfl | rfl
        · exact kit_bt (by decide +kernel) bt_bool
        · exact kit_bt (by decide +kernel) bt_int
        · exact kit_bt (by decide +kernel) bt_str
        · exact kit_bt (by decide +kernel) bt_tuple
        · exact kit_bt (by decide +kernel) bt_list
        · exact kit_bt (by decide +kernel) bt_dict
      , me_of hd ty⟩
    cx_InvalidCounts := CX_InvalidCounts
    xb_InvalidCounts := oxb_V ⟨xq_InvalidCounts, xo_InvalidCounts, xhd_InvalidCounts, xsa_InvalidCounts, xbe_InvalidCounts, xty_InvalidCounts, xk_InvalidCounts⟩
    xn_InvalidCounts_tick := xn_InvalidCounts_tick
    cx_InvalidTick := CX_InvalidTick
    xb_InvalidTick := oxb_V ⟨xq_InvalidTick, xo_InvalidTick, xhd_InvalidTick, xsa_InvalidTick, xbe_InvalidTick, xty_InvalidTick, xk_InvalidTick⟩
    xn_InvalidTick_tick := xn_InvalidTick_tick
    cx_InvalidNumber := CX_InvalidNumber
    xb_InvalidNumber := oxb_V ⟨xq_InvalidNumber, xo_InvalidNumber, xhd_InvalidNumber, xsa_InvalidNumber, xbe_InvalidNumber, xty_InvalidNumber, xk_InvalidNumber⟩
    xn_InvalidNumber_number := xn_InvalidNumber_number
    cx_TooMany := CX_TooMany
    xb_TooMany := oxb_A ⟨xq_TooMany, xo_TooMany, xhd_TooMany, xsa_TooMany, xbe_TooMany, xty_TooMany, xk_TooMany⟩
    xn_TooMany_limit := xn_TooMany_limit
    mx_InvalidCounts := PySem.W.mg_of X G xa_InvalidCounts
    is_InvalidCounts := (fun c k h => lookup_all (P := fun c k => ∃ D, ca0 c = some D ∧ ExnC K D ∧ PySem.W.kitOne K (.ref D) (.ref x_InvalidCounts) = some k) (.cons ⟨x_InvalidCounts, CX_InvalidCounts, EX_InvalidCounts, kit_ref xhd_InvalidCounts xty_InvalidCounts xm_InvalidCounts_InvalidCounts xm_InvalidCounts_InvalidCounts⟩ (.cons ⟨x_InvalidTick, CX_InvalidTick, EX_InvalidTick, kit_ref xhd_InvalidCounts xty_InvalidCounts xm_InvalidTick_InvalidTick xm_InvalidTick_InvalidCounts⟩ (.cons ⟨x_InvalidNumber, CX_InvalidNumber, EX_InvalidNumber, kit_ref xhd_InvalidCounts xty_InvalidCounts xm_InvalidNumber_InvalidNumber xm_InvalidNumber_InvalidCounts⟩ (.cons ⟨x_TooMany, CX_TooMany, EX_TooMany, kit_ref xhd_InvalidCounts xty_InvalidCounts xm_TooMany_TooMany xm_TooMany_InvalidCounts⟩ .nil)))) h)
    mx_NotCounts := PySem.W.mg_of X G xa_NotCounts
    is_NotCounts := (fun c k h => lookup_all (P := fun c k => ∃ D, ca0 c = some D ∧ ExnC K D ∧ PySem.W.kitOne K (.ref D) (.ref x_NotCounts) = some k) (.cons ⟨x_InvalidCounts, CX_InvalidCounts, EX_InvalidCounts, kit_ref xhd_NotCounts xty_NotCounts xm_InvalidCounts_InvalidCounts xm_InvalidCounts_NotCounts⟩ (.cons ⟨x_InvalidTick, CX_InvalidTick, EX_InvalidTick, kit_ref xhd_NotCounts xty_NotCounts xm_InvalidTick_InvalidTick xm_InvalidTick_NotCounts⟩ (.cons ⟨x_InvalidNumber, CX_InvalidNumber, EX_InvalidNumber, kit_ref xhd_NotCounts xty_NotCounts xm_InvalidNumber_InvalidNumber xm_InvalidNumber_NotCounts⟩ (.cons ⟨x_TooMany, CX_TooMany, EX_TooMany, kit_ref xhd_NotCounts xty_NotCounts xm_TooMany_TooMany xm_TooMany_NotCounts⟩ .nil)))) h)
    mx_InvalidTick := PySem.W.mg_of X G xa_InvalidTick
    is_InvalidTick := (fun c k h => lookup_all (P := fun c k => ∃ D, ca0 c = some D ∧ ExnC K D ∧ PySem.W.kitOne K (.ref D) (.ref x_InvalidTick) = some k) (.cons ⟨x_InvalidCounts, CX_InvalidCounts, EX_InvalidCounts, kit_ref xhd_InvalidTick xty_InvalidTick xm_InvalidCounts_InvalidCounts xm_InvalidCounts_InvalidTick⟩ (.cons ⟨x_InvalidTick, CX_InvalidTick, EX_InvalidTick, kit_ref xhd_InvalidTick xty_InvalidTick xm_InvalidTick_InvalidTick xm_InvalidTick_InvalidTick⟩ (.cons ⟨x_InvalidNumber, CX_InvalidNumber, EX_InvalidNumber, kit_ref xhd_InvalidTick xty_InvalidTick xm_InvalidNumber_InvalidNumber xm_InvalidNumber_InvalidTick⟩ (.cons ⟨x_TooMany, CX_TooMany, EX_TooMany, kit_ref xhd_InvalidTick xty_InvalidTick xm_TooMany_TooMany xm_TooMany_InvalidTick⟩ .nil)))) h)
    mx_InvalidNumber := PySem.W.mg_of X G xa_InvalidNumber
    is_InvalidNumber := (fun c k h => lookup_all (P := fun c k => ∃ D, ca0 c = some D ∧ ExnC K D ∧ PySem.W.kitOne K (.ref D) (.ref x_InvalidNumber) = some k) (.cons ⟨x_InvalidCounts, CX_InvalidCounts, EX_InvalidCounts, kit_ref xhd_InvalidNumber xty_InvalidNumber xm_InvalidCounts_InvalidCounts xm_InvalidCounts_InvalidNumber⟩ (.cons ⟨x_InvalidTick, CX_InvalidTick, EX_InvalidTick, kit_ref xhd_InvalidNumber xty_InvalidNumber xm_InvalidTick_InvalidTick xm_InvalidTick_InvalidNumber⟩ (.cons ⟨x_InvalidNumber, CX_InvalidNumber, EX_InvalidNumber, kit_ref xhd_InvalidNumber xty_InvalidNumber xm_InvalidNumber_InvalidNumber xm_InvalidNumber_InvalidNumber⟩ (.cons ⟨x_TooMany, CX_TooMany, EX_TooMany, kit_ref xhd_InvalidNumber xty_InvalidNumber xm_TooMany_TooMany xm_TooMany_InvalidNumber⟩ .nil)))) h)
    mx_InvalidText := PySem.W.mg_of X G xa_InvalidText
    is_InvalidText := (fun c k h => lookup_all (P := fun c k => ∃ D, ca0 c = some D ∧ ExnC K D ∧ PySem.W.kitOne K (.ref D) (.ref x_InvalidText) = some k) (.cons ⟨x_InvalidCounts, CX_InvalidCounts, EX_InvalidCounts, kit_ref xhd_InvalidText xty_InvalidText xm_InvalidCounts_InvalidCounts xm_InvalidCounts_InvalidText⟩ (.cons ⟨x_InvalidTick, CX_InvalidTick, EX_InvalidTick, kit_ref xhd_InvalidText xty_InvalidText xm_InvalidTick_InvalidTick xm_InvalidTick_InvalidText⟩ (.cons ⟨x_InvalidNumber, CX_InvalidNumber, EX_InvalidNumber, kit_ref xhd_InvalidText xty_InvalidText xm_InvalidNumber_InvalidNumber xm_InvalidNumber_InvalidText⟩ (.cons ⟨x_TooMany, CX_TooMany, EX_TooMany, kit_ref xhd_InvalidText xty_InvalidText xm_TooMany_TooMany xm_TooMany_InvalidText⟩ .nil)))) h)
    mx_InvalidStay := PySem.W.mg_of X G xa_InvalidStay
    is_InvalidStay := (fun c k h => lookup_all (P := fun c k => ∃ D, ca0 c = some D ∧ ExnC K D ∧ PySem.W.kitOne K (.ref D) (.ref x_InvalidStay) = some k) (.cons ⟨x_InvalidCounts, CX_InvalidCounts, EX_InvalidCounts, kit_ref xhd_InvalidStay xty_InvalidStay xm_InvalidCounts_InvalidCounts xm_InvalidCounts_InvalidStay⟩ (.cons ⟨x_InvalidTick, CX_InvalidTick, EX_InvalidTick, kit_ref xhd_InvalidStay xty_InvalidStay xm_InvalidTick_InvalidTick xm_InvalidTick_InvalidStay⟩ (.cons ⟨x_InvalidNumber, CX_InvalidNumber, EX_InvalidNumber, kit_ref xhd_InvalidStay xty_InvalidStay xm_InvalidNumber_InvalidNumber xm_InvalidNumber_InvalidStay⟩ (.cons ⟨x_TooMany, CX_TooMany, EX_TooMany, kit_ref xhd_InvalidStay xty_InvalidStay xm_TooMany_TooMany xm_TooMany_InvalidStay⟩ .nil)))) h)
    mx_InvalidHistory := PySem.W.mg_of X G xa_InvalidHistory
    is_InvalidHistory := (fun c k h => lookup_all (P := fun c k => ∃ D, ca0 c = some D ∧ ExnC K D ∧ PySem.W.kitOne K (.ref D) (.ref x_InvalidHistory) = some k) (.cons ⟨x_InvalidCounts, CX_InvalidCounts, EX_InvalidCounts, kit_ref xhd_InvalidHistory xty_InvalidHistory xm_InvalidCounts_InvalidCounts xm_InvalidCounts_InvalidHistory⟩ (.cons ⟨x_InvalidTick, CX_InvalidTick, EX_InvalidTick, kit_ref xhd_InvalidHistory xty_InvalidHistory xm_InvalidTick_InvalidTick xm_InvalidTick_InvalidHistory⟩ (.cons ⟨x_InvalidNumber, CX_InvalidNumber, EX_InvalidNumber, kit_ref xhd_InvalidHistory xty_InvalidHistory xm_InvalidNumber_InvalidNumber xm_InvalidNumber_InvalidHistory⟩ (.cons ⟨x_TooMany, CX_TooMany, EX_TooMany, kit_ref xhd_InvalidHistory xty_InvalidHistory xm_TooMany_TooMany xm_TooMany_InvalidHistory⟩ .nil)))) h)
    mx_InvalidName := PySem.W.mg_of X G xa_InvalidName
    is_InvalidName := (fun c k h => lookup_all (P := fun c k => ∃ D, ca0 c = some D ∧ ExnC K D ∧ PySem.W.kitOne K (.ref D) (.ref x_InvalidName) = some k) (.cons ⟨x_InvalidCounts, CX_InvalidCounts, EX_InvalidCounts, kit_ref xhd_InvalidName xty_InvalidName xm_InvalidCounts_InvalidCounts xm_InvalidCounts_InvalidName⟩ (.cons ⟨x_InvalidTick, CX_InvalidTick, EX_InvalidTick, kit_ref xhd_InvalidName xty_InvalidName xm_InvalidTick_InvalidTick xm_InvalidTick_InvalidName⟩ (.cons ⟨x_InvalidNumber, CX_InvalidNumber, EX_InvalidNumber, kit_ref xhd_InvalidName xty_InvalidName xm_InvalidNumber_InvalidNumber xm_InvalidNumber_InvalidName⟩ (.cons ⟨x_TooMany, CX_TooMany, EX_TooMany, kit_ref xhd_InvalidName xty_InvalidName xm_TooMany_TooMany xm_TooMany_InvalidName⟩ .nil)))) h)
    mx_InvalidLength := PySem.W.mg_of X G xa_InvalidLength
    is_InvalidLength := (fun c k h => lookup_all (P := fun c k => ∃ D, ca0 c = some D ∧ ExnC K D ∧ PySem.W.kitOne K (.ref D) (.ref x_InvalidLength) = some k) (.cons ⟨x_InvalidCounts, CX_InvalidCounts, EX_InvalidCounts, kit_ref xhd_InvalidLength xty_InvalidLength xm_InvalidCounts_InvalidCounts xm_InvalidCounts_InvalidLength⟩ (.cons ⟨x_InvalidTick, CX_InvalidTick, EX_InvalidTick, kit_ref xhd_InvalidLength xty_InvalidLength xm_InvalidTick_InvalidTick xm_InvalidTick_InvalidLength⟩ (.cons ⟨x_InvalidNumber, CX_InvalidNumber, EX_InvalidNumber, kit_ref xhd_InvalidLength xty_InvalidLength xm_InvalidNumber_InvalidNumber xm_InvalidNumber_InvalidLength⟩ (.cons ⟨x_TooMany, CX_TooMany, EX_TooMany, kit_ref xhd_InvalidLength xty_InvalidLength xm_TooMany_TooMany xm_TooMany_InvalidLength⟩ .nil)))) h)
    mx_InvalidDoors := PySem.W.mg_of X G xa_InvalidDoors
    is_InvalidDoors := (fun c k h => lookup_all (P := fun c k => ∃ D, ca0 c = some D ∧ ExnC K D ∧ PySem.W.kitOne K (.ref D) (.ref x_InvalidDoors) = some k) (.cons ⟨x_InvalidCounts, CX_InvalidCounts, EX_InvalidCounts, kit_ref xhd_InvalidDoors xty_InvalidDoors xm_InvalidCounts_InvalidCounts xm_InvalidCounts_InvalidDoors⟩ (.cons ⟨x_InvalidTick, CX_InvalidTick, EX_InvalidTick, kit_ref xhd_InvalidDoors xty_InvalidDoors xm_InvalidTick_InvalidTick xm_InvalidTick_InvalidDoors⟩ (.cons ⟨x_InvalidNumber, CX_InvalidNumber, EX_InvalidNumber, kit_ref xhd_InvalidDoors xty_InvalidDoors xm_InvalidNumber_InvalidNumber xm_InvalidNumber_InvalidDoors⟩ (.cons ⟨x_TooMany, CX_TooMany, EX_TooMany, kit_ref xhd_InvalidDoors xty_InvalidDoors xm_TooMany_TooMany xm_TooMany_InvalidDoors⟩ .nil)))) h)
    mx_InvalidDeed := PySem.W.mg_of X G xa_InvalidDeed
    is_InvalidDeed := (fun c k h => lookup_all (P := fun c k => ∃ D, ca0 c = some D ∧ ExnC K D ∧ PySem.W.kitOne K (.ref D) (.ref x_InvalidDeed) = some k) (.cons ⟨x_InvalidCounts, CX_InvalidCounts, EX_InvalidCounts, kit_ref xhd_InvalidDeed xty_InvalidDeed xm_InvalidCounts_InvalidCounts xm_InvalidCounts_InvalidDeed⟩ (.cons ⟨x_InvalidTick, CX_InvalidTick, EX_InvalidTick, kit_ref xhd_InvalidDeed xty_InvalidDeed xm_InvalidTick_InvalidTick xm_InvalidTick_InvalidDeed⟩ (.cons ⟨x_InvalidNumber, CX_InvalidNumber, EX_InvalidNumber, kit_ref xhd_InvalidDeed xty_InvalidDeed xm_InvalidNumber_InvalidNumber xm_InvalidNumber_InvalidDeed⟩ (.cons ⟨x_TooMany, CX_TooMany, EX_TooMany, kit_ref xhd_InvalidDeed xty_InvalidDeed xm_TooMany_TooMany xm_TooMany_InvalidDeed⟩ .nil)))) h)
    mx_InvalidCommand := PySem.W.mg_of X G xa_InvalidCommand
    is_InvalidCommand := (fun c k h => lookup_all (P := fun c k => ∃ D, ca0 c = some D ∧ ExnC K D ∧ PySem.W.kitOne K (.ref D) (.ref x_InvalidCommand) = some k) (.cons ⟨x_InvalidCounts, CX_InvalidCounts, EX_InvalidCounts, kit_ref xhd_InvalidCommand xty_InvalidCommand xm_InvalidCounts_InvalidCounts xm_InvalidCounts_InvalidCommand⟩ (.cons ⟨x_InvalidTick, CX_InvalidTick, EX_InvalidTick, kit_ref xhd_InvalidCommand xty_InvalidCommand xm_InvalidTick_InvalidTick xm_InvalidTick_InvalidCommand⟩ (.cons ⟨x_InvalidNumber, CX_InvalidNumber, EX_InvalidNumber, kit_ref xhd_InvalidCommand xty_InvalidCommand xm_InvalidNumber_InvalidNumber xm_InvalidNumber_InvalidCommand⟩ (.cons ⟨x_TooMany, CX_TooMany, EX_TooMany, kit_ref xhd_InvalidCommand xty_InvalidCommand xm_TooMany_TooMany xm_TooMany_InvalidCommand⟩ .nil)))) h)
    mx_Impossible := PySem.W.mg_of X G xa_Impossible
    is_Impossible := (fun c k h => lookup_all (P := fun c k => ∃ D, ca0 c = some D ∧ ExnC K D ∧ PySem.W.kitOne K (.ref D) (.ref x_Impossible) = some k) (.cons ⟨x_InvalidCounts, CX_InvalidCounts, EX_InvalidCounts, kit_ref xhd_Impossible xty_Impossible xm_InvalidCounts_InvalidCounts xm_InvalidCounts_Impossible⟩ (.cons ⟨x_InvalidTick, CX_InvalidTick, EX_InvalidTick, kit_ref xhd_Impossible xty_Impossible xm_InvalidTick_InvalidTick xm_InvalidTick_Impossible⟩ (.cons ⟨x_InvalidNumber, CX_InvalidNumber, EX_InvalidNumber, kit_ref xhd_Impossible xty_Impossible xm_InvalidNumber_InvalidNumber xm_InvalidNumber_Impossible⟩ (.cons ⟨x_TooMany, CX_TooMany, EX_TooMany, kit_ref xhd_Impossible xty_Impossible xm_TooMany_TooMany xm_TooMany_Impossible⟩ .nil)))) h)
    mx_NotKnown := PySem.W.mg_of X G xa_NotKnown
    is_NotKnown := (fun c k h => lookup_all (P := fun c k => ∃ D, ca0 c = some D ∧ ExnC K D ∧ PySem.W.kitOne K (.ref D) (.ref x_NotKnown) = some k) (.cons ⟨x_InvalidCounts, CX_InvalidCounts, EX_InvalidCounts, kit_ref xhd_NotKnown xty_NotKnown xm_InvalidCounts_InvalidCounts xm_InvalidCounts_NotKnown⟩ (.cons ⟨x_InvalidTick, CX_InvalidTick, EX_InvalidTick, kit_ref xhd_NotKnown xty_NotKnown xm_InvalidTick_InvalidTick xm_InvalidTick_NotKnown⟩ (.cons ⟨x_InvalidNumber, CX_InvalidNumber, EX_InvalidNumber, kit_ref xhd_NotKnown xty_NotKnown xm_InvalidNumber_InvalidNumber xm_InvalidNumber_NotKnown⟩ (.cons ⟨x_TooMany, CX_TooMany, EX_TooMany, kit_ref xhd_NotKnown xty_NotKnown xm_TooMany_TooMany xm_TooMany_NotKnown⟩ .nil)))) h)
    mx_LimitBroken := PySem.W.mg_of X G xa_LimitBroken
    is_LimitBroken := (fun c k h => lookup_all (P := fun c k => ∃ D, ca0 c = some D ∧ ExnC K D ∧ PySem.W.kitOne K (.ref D) (.ref x_LimitBroken) = some k) (.cons ⟨x_InvalidCounts, CX_InvalidCounts, EX_InvalidCounts, kit_ref xhd_LimitBroken xty_LimitBroken xm_InvalidCounts_InvalidCounts xm_InvalidCounts_LimitBroken⟩ (.cons ⟨x_InvalidTick, CX_InvalidTick, EX_InvalidTick, kit_ref xhd_LimitBroken xty_LimitBroken xm_InvalidTick_InvalidTick xm_InvalidTick_LimitBroken⟩ (.cons ⟨x_InvalidNumber, CX_InvalidNumber, EX_InvalidNumber, kit_ref xhd_LimitBroken xty_LimitBroken xm_InvalidNumber_InvalidNumber xm_InvalidNumber_LimitBroken⟩ (.cons ⟨x_TooMany, CX_TooMany, EX_TooMany, kit_ref xhd_LimitBroken xty_LimitBroken xm_TooMany_TooMany xm_TooMany_LimitBroken⟩ .nil)))) h)
    mx_NothingToUndo := PySem.W.mg_of X G xa_NothingToUndo
    is_NothingToUndo := (fun c k h => lookup_all (P := fun c k => ∃ D, ca0 c = some D ∧ ExnC K D ∧ PySem.W.kitOne K (.ref D) (.ref x_NothingToUndo) = some k) (.cons ⟨x_InvalidCounts, CX_InvalidCounts, EX_InvalidCounts, kit_ref xhd_NothingToUndo xty_NothingToUndo xm_InvalidCounts_InvalidCounts xm_InvalidCounts_NothingToUndo⟩ (.cons ⟨x_InvalidTick, CX_InvalidTick, EX_InvalidTick, kit_ref xhd_NothingToUndo xty_NothingToUndo xm_InvalidTick_InvalidTick xm_InvalidTick_NothingToUndo⟩ (.cons ⟨x_InvalidNumber, CX_InvalidNumber, EX_InvalidNumber, kit_ref xhd_NothingToUndo xty_NothingToUndo xm_InvalidNumber_InvalidNumber xm_InvalidNumber_NothingToUndo⟩ (.cons ⟨x_TooMany, CX_TooMany, EX_TooMany, kit_ref xhd_NothingToUndo xty_NothingToUndo xm_TooMany_TooMany xm_TooMany_NothingToUndo⟩ .nil)))) h)
    mx_TooMany := PySem.W.mg_of X G xa_TooMany
    is_TooMany := (fun c k h => lookup_all (P := fun c k => ∃ D, ca0 c = some D ∧ ExnC K D ∧ PySem.W.kitOne K (.ref D) (.ref x_TooMany) = some k) (.cons ⟨x_InvalidCounts, CX_InvalidCounts, EX_InvalidCounts, kit_ref xhd_TooMany xty_TooMany xm_InvalidCounts_InvalidCounts xm_InvalidCounts_TooMany⟩ (.cons ⟨x_InvalidTick, CX_InvalidTick, EX_InvalidTick, kit_ref xhd_TooMany xty_TooMany xm_InvalidTick_InvalidTick xm_InvalidTick_TooMany⟩ (.cons ⟨x_InvalidNumber, CX_InvalidNumber, EX_InvalidNumber, kit_ref xhd_TooMany xty_TooMany xm_InvalidNumber_InvalidNumber xm_InvalidNumber_TooMany⟩ (.cons ⟨x_TooMany, CX_TooMany, EX_TooMany, kit_ref xhd_TooMany xty_TooMany xm_TooMany_TooMany xm_TooMany_TooMany⟩ .nil)))) h)
    mx_CountError := PySem.W.mg_of X G xa_CountError
    is_CountError := (fun c k h => lookup_all (P := fun c k => ∃ D, ca0 c = some D ∧ ExnC K D ∧ PySem.W.kitOne K (.ref D) (.ref x_CountError) = some k) (.cons ⟨x_InvalidCounts, CX_InvalidCounts, EX_InvalidCounts, kit_ref xhd_CountError xty_CountError xm_InvalidCounts_InvalidCounts xm_InvalidCounts_CountError⟩ (.cons ⟨x_InvalidTick, CX_InvalidTick, EX_InvalidTick, kit_ref xhd_CountError xty_CountError xm_InvalidTick_InvalidTick xm_InvalidTick_CountError⟩ (.cons ⟨x_InvalidNumber, CX_InvalidNumber, EX_InvalidNumber, kit_ref xhd_CountError xty_CountError xm_InvalidNumber_InvalidNumber xm_InvalidNumber_CountError⟩ (.cons ⟨x_TooMany, CX_TooMany, EX_TooMany, kit_ref xhd_CountError xty_CountError xm_TooMany_TooMany xm_TooMany_CountError⟩ .nil)))) h)
    mx_SearchError := PySem.W.mg_of X G xa_SearchError
    is_SearchError := (fun c k h => lookup_all (P := fun c k => ∃ D, ca0 c = some D ∧ ExnC K D ∧ PySem.W.kitOne K (.ref D) (.ref x_SearchError) = some k) (.cons ⟨x_InvalidCounts, CX_InvalidCounts, EX_InvalidCounts, kit_ref xhd_SearchError xty_SearchError xm_InvalidCounts_InvalidCounts xm_InvalidCounts_SearchError⟩ (.cons ⟨x_InvalidTick, CX_InvalidTick, EX_InvalidTick, kit_ref xhd_SearchError xty_SearchError xm_InvalidTick_InvalidTick xm_InvalidTick_SearchError⟩ (.cons ⟨x_InvalidNumber, CX_InvalidNumber, EX_InvalidNumber, kit_ref xhd_SearchError xty_SearchError xm_InvalidNumber_InvalidNumber xm_InvalidNumber_SearchError⟩ (.cons ⟨x_TooMany, CX_TooMany, EX_TooMany, kit_ref xhd_SearchError xty_SearchError xm_TooMany_TooMany xm_TooMany_SearchError⟩ .nil)))) h)
    mx_LimitError := PySem.W.mg_of X G xa_LimitError
    is_LimitError := (fun c k h => lookup_all (P := fun c k => ∃ D, ca0 c = some D ∧ ExnC K D ∧ PySem.W.kitOne K (.ref D) (.ref x_LimitError) = some k) (.cons ⟨x_InvalidCounts, CX_InvalidCounts, EX_InvalidCounts, kit_ref xhd_LimitError xty_LimitError xm_InvalidCounts_InvalidCounts xm_InvalidCounts_LimitError⟩ (.cons ⟨x_InvalidTick, CX_InvalidTick, EX_InvalidTick, kit_ref xhd_LimitError xty_LimitError xm_InvalidTick_InvalidTick xm_InvalidTick_LimitError⟩ (.cons ⟨x_InvalidNumber, CX_InvalidNumber, EX_InvalidNumber, kit_ref xhd_LimitError xty_LimitError xm_InvalidNumber_InvalidNumber xm_InvalidNumber_LimitError⟩ (.cons ⟨x_TooMany, CX_TooMany, EX_TooMany, kit_ref xhd_LimitError xty_LimitError xm_TooMany_TooMany xm_TooMany_LimitError⟩ .nil)))) h)
    is_ValueError := (fun c k h => lookup_all (P := fun c k => ∃ D, ca0 c = some D ∧ ExnC K D ∧ PySem.W.kitOne K (.ref D) (.type "ValueError") = some k) (.cons ⟨x_InvalidCounts, CX_InvalidCounts, EX_InvalidCounts, kit_bty (by decide +kernel) xm_InvalidCounts_ValueError⟩ (.cons ⟨x_InvalidTick, CX_InvalidTick, EX_InvalidTick, kit_bty (by decide +kernel) xm_InvalidTick_ValueError⟩ (.cons ⟨x_InvalidNumber, CX_InvalidNumber, EX_InvalidNumber, kit_bty (by decide +kernel) xm_InvalidNumber_ValueError⟩ (.cons ⟨x_TooMany, CX_TooMany, EX_TooMany, kit_bty (by decide +kernel) xm_TooMany_ValueError⟩ .nil)))) h)
    is_LookupError := (fun c k h => lookup_all (P := fun c k => ∃ D, ca0 c = some D ∧ ExnC K D ∧ PySem.W.kitOne K (.ref D) (.type "LookupError") = some k) (.cons ⟨x_InvalidCounts, CX_InvalidCounts, EX_InvalidCounts, kit_bty (by decide +kernel) xm_InvalidCounts_LookupError⟩ (.cons ⟨x_InvalidTick, CX_InvalidTick, EX_InvalidTick, kit_bty (by decide +kernel) xm_InvalidTick_LookupError⟩ (.cons ⟨x_InvalidNumber, CX_InvalidNumber, EX_InvalidNumber, kit_bty (by decide +kernel) xm_InvalidNumber_LookupError⟩ (.cons ⟨x_TooMany, CX_TooMany, EX_TooMany, kit_bty (by decide +kernel) xm_TooMany_LookupError⟩ .nil)))) h)
    is_ArithmeticError := (fun c k h => lookup_all (P := fun c k => ∃ D, ca0 c = some D ∧ ExnC K D ∧ PySem.W.kitOne K (.ref D) (.type "ArithmeticError") = some k) (.cons ⟨x_InvalidCounts, CX_InvalidCounts, EX_InvalidCounts, kit_bty (by decide +kernel) xm_InvalidCounts_ArithmeticError⟩ (.cons ⟨x_InvalidTick, CX_InvalidTick, EX_InvalidTick, kit_bty (by decide +kernel) xm_InvalidTick_ArithmeticError⟩ (.cons ⟨x_InvalidNumber, CX_InvalidNumber, EX_InvalidNumber, kit_bty (by decide +kernel) xm_InvalidNumber_ArithmeticError⟩ (.cons ⟨x_TooMany, CX_TooMany, EX_TooMany, kit_bty (by decide +kernel) xm_TooMany_ArithmeticError⟩ .nil)))) h)
    ct_CountError_SearchError_LimitError := (fun c D hc h => lookup_all (P := fun c k => ∀ D, ca0 c = some D → k = true → PySem.W.exmAny K (.ref D) [.ref x_CountError, .ref x_SearchError, .ref x_LimitError] = some true) (.cons (fun D hc _ => (Option.some.inj (CX_InvalidCounts.symm.trans hc)) ▸ exm_three (exm_ref xbe_CountError xhd_CountError xty_CountError xm_InvalidCounts_CountError) (exm_ref xbe_SearchError xhd_SearchError xty_SearchError xm_InvalidCounts_SearchError) (exm_ref xbe_LimitError xhd_LimitError xty_LimitError xm_InvalidCounts_LimitError)) (.cons (fun D hc _ => (Option.some.inj (CX_InvalidTick.symm.trans hc)) ▸ exm_three (exm_ref xbe_CountError xhd_CountError xty_CountError xm_InvalidTick_CountError) (exm_ref xbe_SearchError xhd_SearchError xty_SearchError xm_InvalidTick_SearchError) (exm_ref xbe_LimitError xhd_LimitError xty_LimitError xm_InvalidTick_LimitError)) (.cons (fun D hc _ => (Option.some.inj (CX_InvalidNumber.symm.trans hc)) ▸ exm_three (exm_ref xbe_CountError xhd_CountError xty_CountError xm_InvalidNumber_CountError) (exm_ref xbe_SearchError xhd_SearchError xty_SearchError xm_InvalidNumber_SearchError) (exm_ref xbe_LimitError xhd_LimitError xty_LimitError xm_InvalidNumber_LimitError)) (.cons (fun D hc _ => (Option.some.inj (CX_TooMany.symm.trans hc)) ▸ exm_three (exm_ref xbe_CountError xhd_CountError xty_CountError xm_TooMany_CountError) (exm_ref xbe_SearchError xhd_SearchError xty_SearchError xm_TooMany_SearchError) (exm_ref xbe_LimitError xhd_LimitError xty_LimitError xm_TooMany_LimitError)) .nil)))) h D hc rfl)
    xf_index := (fun _ h => nomatch h)
    xf_length := (fun _ h => nomatch h)
    xf_limit := (List.forall_mem_cons.mpr ⟨⟨x_TooMany, CX_TooMany, EX_TooMany, xn_TooMany_limit⟩, (fun _ h => nomatch h)⟩)
    xf_name := (fun _ h => nomatch h)
    xf_number := (List.forall_mem_cons.mpr ⟨⟨x_InvalidNumber, CX_InvalidNumber, EX_InvalidNumber, xn_InvalidNumber_number⟩, (fun _ h => nomatch h)⟩)
    xf_text := (fun _ h => nomatch h)
    xf_tick := (List.forall_mem_cons.mpr ⟨⟨x_InvalidCounts, CX_InvalidCounts, EX_InvalidCounts, xn_InvalidCounts_tick⟩, (List.forall_mem_cons.mpr ⟨⟨x_InvalidTick, CX_InvalidTick, EX_InvalidTick, xn_InvalidTick_tick⟩, (fun _ h => nomatch h)⟩)⟩)
    xf_value := (fun _ h => nomatch h)
    xf_word := (fun _ h => nomatch h)
    na_arrivals := na_arrivals
    na_departures := na_departures
    cv_MAX_TICKS := ⟨_, cv_MAX_TICKS, ⟨_, rfl⟩⟩
    cv_MAX_PEOPLE := ⟨_, cv_MAX_PEOPLE, ⟨_, rfl⟩⟩
    c_eIC := ⟨_, _, F_eIC, a_eIC, i_eIC, F_eIC.binds (ps := ["self", "tick"]) fun _ _ _ _ _ _ us hl => match us, hl with | [_, _], _ => rfl⟩
    c_eIT := ⟨_, _, F_eIT, a_eIT, i_eIT, F_eIT.binds (ps := ["self", "tick"]) fun _ _ _ _ _ _ us hl => match us, hl with | [_, _], _ => rfl⟩
    c_eIN := ⟨_, _, F_eIN, a_eIN, i_eIN, F_eIN.binds (ps := ["self", "number"]) fun _ _ _ _ _ _ us hl => match us, hl with | [_, _], _ => rfl⟩
    c_eTM := ⟨_, _, F_eTM, a_eTM, i_eTM, F_eTM.binds (ps := ["self", "limit"]) fun _ _ _ _ _ _ us hl => match us, hl with | [_, _], _ => rfl⟩
    c_ii := ⟨_, _, F_ii, PySem.W.mg_of X G a_ii, k_ii, F_ii.binds (ps := ["value", "low", "high"]) fun _ _ _ _ _ _ us hl => match us, hl with | [_, _, _], _ => rfl⟩
    c_ct := ⟨_, _, F_ct, PySem.W.mg_of X G a_ct, k_ct, F_ct.binds (ps := ["tick", "low", "high"]) fun _ _ _ _ _ _ us hl => match us, hl with | [_, _, _], _ => rfl⟩
    c_cnu := ⟨_, _, F_cnu, PySem.W.mg_of X G a_cnu, k_cnu, F_cnu.binds (ps := ["number", "low", "high"]) fun _ _ _ _ _ _ us hl => match us, hl with | [_, _, _], _ => rfl⟩
    c_pra := ⟨_, _, F_pra, PySem.W.mg_of X G a_pra, k_pra, F_pra.binds (ps := ["arrivals", "departures"]) fun _ _ _ _ _ _ us hl => match us, hl with | [_, _], _ => rfl⟩
    c_cl := ⟨_, _, F_cl, PySem.W.mg_of X G a_cl, k_cl, F_cl.binds (ps := ["arrivals", "departures"]) fun _ _ _ _ _ _ us hl => match us, hl with | [_, _], _ => rfl⟩
    c_inu := ⟨_, _, F_inu, PySem.W.mg_of X G a_inu, k_inu, F_inu.binds (ps := ["value"]) fun _ _ _ _ _ _ us hl => match us, hl with | [_], _ => rfl⟩
    c_cn := ⟨_, _, F_cn, PySem.W.mg_of X G a_cn, k_cn, F_cn.binds (ps := ["arrivals", "departures"]) fun _ _ _ _ _ _ us hl => match us, hl with | [_, _], _ => rfl⟩
    c_rep := ⟨_, _, F_rep, PySem.W.mg_of X G a_rep, k_rep, F_rep.binds (ps := ["numbers", "tick", "number"]) fun _ _ _ _ _ _ us hl => match us, hl with | [_, _, _], _ => rfl⟩
    c_ini := ⟨_, _, F_ini, ⟨mk, a_ini, i_ini, kc⟩, ⟨fun s us ws _ h1 h2 => match us, h1, ws, h2 with | [_, _, _], _, [], _ => .of_eq rfl⟩⟩
    c_pre := ⟨_, _, F_pre, ⟨_, ⟨a_pre, g_pre, t_pre, ⟨_, r_pre⟩⟩⟩, F_pre.binds (ps := ["self"]) fun _ _ _ _ _ _ us hl => match us, hl with | [_], _ => rfl⟩
    c_peo := ⟨_, _, F_peo, ⟨_, ⟨a_peo, g_peo, t_peo, ⟨_, r_peo⟩⟩⟩, F_peo.binds (ps := ["self"]) fun _ _ _ _ _ _ us hl => match us, hl with | [_], _ => rfl⟩
    c_eq := ⟨_, _, F_eq, ⟨a_eq, i_eq, neb, mr, fun T hT => by
        simp only [known, List.mem_cons, List.not_mem_nil, or_false] at hT
        rcases hT with rfl | rfl | rfl | rfl | rfl | rfl | rfl
        · exact bt_NoneType
        · exact bt_bool
        · exact bt_int
        · exact bt_str
        · exact bt_tuple
        · exact bt_list
        · exact bt_dict⟩, F_eq.binds (ps := ["self", "other"]) fun _ _ _ _ _ _ us hl => match us, hl with | [_, _], _ => rfl⟩
    c_str := ⟨_, _, F_str, a_str, i_str, F_str.binds (ps := ["self"]) fun _ _ _ _ _ _ us hl => match us, hl with | [_], _ => rfl⟩
    c_qui := ⟨_, _, F_qui, ⟨_, ⟨a_qui, ⟨_, r_qui⟩, i_qui⟩⟩, F_qui.binds (ps := ["cls", "ticks"]) fun _ _ _ _ _ _ us hl => match us, hl with | [_, _], _ => rfl⟩
    c_cha := ⟨_, _, F_cha, ⟨a_cha, i_cha, k_cha⟩, KBp.plain fun s us ws _ h1 h2 => match us, h1, ws, h2 with | [_, _], _, [_, _], _ => .of_eq rfl, KBp.lacks (A := kD_cha) [("arrivals", V.non)] (List.forall_mem_cons.mpr ⟨⟨_, kn_cha_arrivals, rfl⟩, fun _ h => nomatch h⟩) (fun us mv ws h1 h2 h3 => match us, h1, mv, h2, ws, h3 with | [_], _, [_], _, [_, _], _ => ⟨_, _, _, _, _, _, rfl, rfl, rfl⟩), KBp.lacks (A := kD_cha) [("departures", V.non)] (List.forall_mem_cons.mpr ⟨⟨_, kn_cha_departures, rfl⟩, fun _ h => nomatch h⟩) (fun us mv ws h1 h2 h3 => match us, h1, mv, h2, ws, h3 with | [_, _], _, [_], _, [_], _ => ⟨_, _, _, _, _, _, rfl, rfl, rfl⟩), KBp.plain fun s us ws _ h1 h2 => match us, h1, ws, h2 with | [_, _], _, [_, _], _ => .of_eq rfl, KBp.lacks (A := kD_cha) [("arrivals", V.non), ("departures", V.non)] (List.forall_mem_cons.mpr ⟨⟨_, kn_cha_arrivals, rfl⟩, List.forall_mem_cons.mpr ⟨⟨_, kn_cha_departures, rfl⟩, fun _ h => nomatch h⟩⟩) (fun us mv ws h1 h2 h3 => match us, h1, mv, h2, ws, h3 with | [_, _], _, [_, _], _, [], _ => ⟨_, _, _, _, _, _, rfl, rfl, ⟨_, _, _, _, _, _, rfl, rfl, rfl⟩⟩), KBp.lacks (A := kD_cha) [("arrivals", V.non)] (List.forall_mem_cons.mpr ⟨⟨_, kn_cha_arrivals, rfl⟩, fun _ h => nomatch h⟩) (fun us mv ws h1 h2 h3 => match us, h1, mv, h2, ws, h3 with | [_, _], _, [_], _, [_], _ => ⟨_, _, _, _, _, _, rfl, rfl, rfl⟩)⟩
    c_exd := ⟨_, _, F_exd, ⟨a_exd, i_exd, k_exd⟩, KBp.plain fun s us ws _ h1 h2 => match us, h1, ws, h2 with | [_, _, _], _, [], _ => .of_eq rfl, KBp.plain fun s us ws _ h1 h2 => match us, h1, ws, h2 with | [_], _, [_, _], _ => .of_eq rfl⟩
    c_cell := ⟨_, _, F_cell, PySem.W.mg_of X G a_cell, k_cell, F_cell.binds (ps := ["_law_cells", "_law_k"]) fun _ _ _ _ _ _ us hl => match us, hl with | [_, _], _ => rfl⟩
    c_pool := ⟨_, _, F_pool, PySem.W.mg_of X G a_pool, k_pool, F_pool.binds (ps := ["_law_cell_here"]) fun _ _ _ _ _ _ us hl => match us, hl with | [_], _ => rfl⟩
    c_draw := ⟨_, _, F_draw, PySem.W.mg_of X G a_draw, k_draw, F_draw.binds (ps := ["_law_pool_here", "_law_many"]) fun _ _ _ _ _ _ us hl => match us, hl with | [_, _], _ => rfl⟩
    c_flows := ⟨_, _, F_flows, PySem.W.mg_of X G a_flows, k_flows, F_flows.binds (ps := ["_law_pool_here", "_law_size", "_law_most_in", "_law_people"]) fun _ _ _ _ _ _ us hl => match us, hl with | [_, _, _, _], _ => rfl⟩
    c_small := ⟨_, _, F_small, PySem.W.mg_of X G a_small, k_small, F_small.binds (ps := ["_law_pool_here"]) fun _ _ _ _ _ _ us hl => match us, hl with | [_], _ => rfl⟩
    c_great := ⟨_, _, F_great, PySem.W.mg_of X G a_great, k_great, F_great.binds (ps := ["_law_pool_here"]) fun _ _ _ _ _ _ us hl => match us, hl with | [_], _ => rfl⟩
    c_rest := ⟨_, _, F_rest, PySem.W.mg_of X G a_rest, k_rest, F_rest.binds (ps := ["_law_comes", "_law_goes"]) fun _ _ _ _ _ _ us hl => match us, hl with | [_, _], _ => rfl⟩
    c_error := ⟨_, _, F_error, PySem.W.mg_of X G a_error, k_error, F_error.binds (ps := ["_law_e"]) fun _ _ _ _ _ _ us hl => match us, hl with | [_], _ => rfl⟩
    c_any := ⟨_, _, F_any, PySem.W.mg_of X G a_any, k_any, F_any.binds (ps := ["_law_pool_here"]) fun _ _ _ _ _ _ us hl => match us, hl with | [_], _ => rfl⟩
    c_wrong := ⟨_, _, F_wrong, PySem.W.mg_of X G a_wrong, k_wrong, F_wrong.binds (ps := ["_law_comes", "_law_goes"]) fun _ _ _ _ _ _ us hl => match us, hl with | [_, _], _ => rfl⟩
    c_written := ⟨_, _, F_written, PySem.W.mg_of X G a_written, k_written, F_written.binds (ps := ["_law_comes", "_law_goes"]) fun _ _ _ _ _ _ us hl => match us, hl with | [_, _], _ => rfl⟩
    c_field := ⟨_, _, F_field, PySem.W.mg_of X G a_field, k_field, F_field.binds (ps := ["_law_e", "_law_at"]) fun _ _ _ _ _ _ us hl => match us, hl with | [_, _], _ => rfl⟩
    c_caught := ⟨_, _, F_caught, PySem.W.mg_of X G a_caught, k_caught, F_caught.binds (ps := ["_law_act"]) fun _ _ _ _ _ _ us hl => match us, hl with | [_], _ => rfl⟩
    c_isn := ⟨_, _, F_isn, PySem.W.mg_of X G a_isn, k_isn, F_isn.binds (ps := ["_law_thing_here"]) fun _ _ _ _ _ _ us hl => match us, hl with | [_], _ => rfl⟩
    c_shown := ⟨_, _, F_shown, PySem.W.mg_of X G a_shown, k_shown, F_shown.binds (ps := ["_law_comes", "_law_goes"]) fun _ _ _ _ _ _ us hl => match us, hl with | [_, _], _ => rfl⟩
    c_made := ⟨_, _, F_made, PySem.W.mg_of X G a_made, k_made, F_made.binds (ps := ["_law_comes", "_law_goes"]) fun _ _ _ _ _ _ us hl => match us, hl with | [_, _], _ => rfl⟩
    c_chd := ⟨_, _, F_chd, PySem.W.mg_of X G a_chd, k_chd, F_chd.binds (ps := ["_law_comes", "_law_goes", "_law_at", "_law_new", "_law_gone"]) fun _ _ _ _ _ _ us hl => match us, hl with | [_, _, _, _, _], _ => rfl⟩
    c_exdu := ⟨_, _, F_exdu, PySem.W.mg_of X G a_exdu, k_exdu, F_exdu.binds (ps := ["_law_comes", "_law_goes", "_law_new", "_law_gone"]) fun _ _ _ _ _ _ us hl => match us, hl with | [_, _, _, _], _ => rfl⟩
    c_thing := ⟨_, _, F_thing, PySem.W.mg_of X G a_thing, k_thing, F_thing.binds (ps := ["_law_pool_here", "_law_here"]) fun _ _ _ _ _ _ us hl => match us, hl with | [_, _], _ => rfl⟩
    c_turn := ⟨_, _, F_turn, PySem.W.mg_of X G a_turn, k_turn, F_turn.binds (ps := ["_law_pool_here", "_law_log"]) fun _ _ _ _ _ _ us hl => match us, hl with | [_, _], _ => rfl, ⟨_, _, cdE_turn, bt_turn, by simp, fun p hp e => by
      simp only [List.mem_cons, List.not_mem_nil, or_false] at hp
      rcases hp with rfl | rfl
      · rfl
      · exact absurd e.symm neP_0_1⟩⟩
    c_whole := ⟨_, _, F_whole, PySem.W.mg_of X G a_whole, k_whole, F_whole.binds (ps := ["_law_log", "_law_comes", "_law_goes"]) fun _ _ _ _ _ _ us hl => match us, hl with | [_, _, _], _ => rfl⟩
    c_right := ⟨_, _, F_right, PySem.W.mg_of X G a_right, k_right, F_right.binds (ps := ["_law_pool_here"]) fun _ _ _ _ _ _ us hl => match us, hl with | [_], _ => rfl⟩
    c_hand := ⟨_, _, F_hand, PySem.W.mg_of X G a_hand, k_hand, F_hand.binds (ps := []) fun _ _ _ _ _ _ us hl => match us, hl with | [], _ => rfl, ⟨_, _, cdE_hand, bt_hand, by simp, fun p hp e => by
      simp only [List.mem_cons, List.not_mem_nil, or_false] at hp
      rcases hp with rfl | rfl
      · exact absurd e neP_0_1
      · rfl⟩⟩
    c_law := ⟨_, _, F_law, PySem.W.mg_of X G a_law, k_law, F_law.binds (ps := ["_law_cells"]) fun _ _ _ _ _ _ us hl => match us, hl with | [_], _ => rfl⟩
  }
  exact ⟨⟨np_turn, np_hand, neP_0_1⟩, ⟨PySem.W.fnOf "law" "law" (defArgs s_law) (defBody s_law) (defScope s_law) .none kV_law dc_law pm_law an_law cd_law ct_law, fun s v => .of_eq rfl, fun base _ _ bt_turn bt_hand => ⟨_, ok_law (T base bt_turn bt_hand) F_law⟩⟩⟩
end K05
open PySem PySem.W PyProof.Rows
set_option maxRecDepth 100000 in
set_option maxHeartbeats 0 in
theorem PySem.Challenge.cw_staycounts_k05_counts_changed_holds : PySem.Challenge.rw_staycounts_k05_counts_changed.Holds := by
  w_on; o_law; k_head; (case hw => w_witness2)
  k_fill
  refine PL.walk_gT2 (nm1 := "_law_turn_right") (nm2 := "_law_by_hand") (l := PySem.Challenge.rw_staycounts_k05_counts_changed) (x := "_law_cells") (k := 12) (G := K05.F_law) rfl rfl ⟨rfl, by decide, by decide⟩ (fun w h Y => PySem.W.km_in_of Y) (by decide +kernel) (by decide +kernel) ?F K05.holds
  case F =>
    intro w mg fa h KX G hmg f0_turn c0_turn P0_turn o0_turn fd0_turn f0_hand c0_hand P0_hand o0_hand fd0_hand x1_turn x2_turn x3_turn x4_turn x5_turn x1_hand x2_hand x3_hand x4_hand x5_hand
    refine' K05.all_mk KX G hmg x1_turn x2_turn x3_turn x4_turn x5_turn x1_hand x2_hand x3_hand x4_hand x5_hand ?aC ?xa_InvalidCounts ?xa_NotCounts ?xa_InvalidTick ?xa_InvalidNumber ?xa_InvalidText ?xa_InvalidStay ?xa_InvalidHistory ?xa_InvalidName ?xa_InvalidLength ?xa_InvalidDoors ?xa_InvalidDeed ?xa_InvalidCommand ?xa_Impossible ?xa_NotKnown ?xa_LimitBroken ?xa_NothingToUndo ?xa_TooMany ?xa_CountError ?xa_SearchError ?xa_LimitError ?a_eIC ?i_eIC ?l_eIC ?c_eIC ?k_eIC ?a_eIT ?i_eIT ?l_eIT ?c_eIT ?k_eIT ?a_eIN ?i_eIN ?l_eIN ?c_eIN ?k_eIN ?a_eTM ?i_eTM ?l_eTM ?c_eTM ?k_eTM ?a_ii ?l_ii ?c_ii ?k_ii ?a_ct ?l_ct ?c_ct ?k_ct ?a_cnu ?l_cnu ?c_cnu ?k_cnu ?a_pra ?l_pra ?c_pra ?k_pra ?a_cl ?l_cl ?c_cl ?k_cl ?a_inu ?l_inu ?c_inu ?k_inu ?a_cn ?l_cn ?c_cn ?k_cn ?a_rep ?l_rep ?c_rep ?k_rep ?a_ini ?i_ini ?l_ini ?c_ini ?k_ini ?a_pre ?g_pre ?t_pre ?r_pre ?l_pre ?c_pre ?k_pre ?a_peo ?g_peo ?t_peo ?r_peo ?l_peo ?c_peo ?k_peo ?a_eq ?i_eq ?l_eq ?c_eq ?k_eq ?a_str ?i_str ?l_str ?c_str ?k_str ?a_qui ?r_qui ?i_qui ?l_qui ?c_qui ?k_qui ?a_cha ?i_cha ?kn_cha_arrivals ?kn_cha_departures ?l_cha ?c_cha ?k_cha ?a_exd ?i_exd ?l_exd ?c_exd ?k_exd ?a_cell ?l_cell ?c_cell ?k_cell ?a_pool ?l_pool ?c_pool ?k_pool ?a_draw ?l_draw ?c_draw ?k_draw ?a_flows ?l_flows ?c_flows ?k_flows ?a_small ?l_small ?c_small ?k_small ?a_great ?l_great ?c_great ?k_great ?a_rest ?l_rest ?c_rest ?k_rest ?a_error ?l_error ?c_error ?k_error ?a_any ?l_any ?c_any ?k_any ?a_wrong ?l_wrong ?c_wrong ?k_wrong ?a_written ?l_written ?c_written ?k_written ?a_field ?l_field ?c_field ?k_field ?a_caught ?l_caught ?c_caught ?k_caught ?a_isn ?l_isn ?c_isn ?k_isn ?a_shown ?l_shown ?c_shown ?k_shown ?a_made ?l_made ?c_made ?k_made ?a_chd ?l_chd ?c_chd ?k_chd ?a_exdu ?l_exdu ?c_exdu ?k_exdu ?a_thing ?l_thing ?c_thing ?k_thing ?a_turn ?l_turn ?c_turn ?k_turn ?a_whole ?l_whole ?c_whole ?k_whole ?a_right ?l_right ?c_right ?k_right ?a_hand ?l_hand ?c_hand ?k_hand ?a_law ?l_law ?c_law ?k_law ?pg ?hd ?po ?sa ?mk ?kc ?rd ?ga ?ha ?hn ?tk ?mr ?ty ?bt_bool ?bt_int ?bt_str ?bt_tuple ?bt_list ?bt_dict ?bt_NoneType ?neb ?na_arrivals ?na_departures ?cv_MAX_TICKS ?cv_MAX_PEOPLE ?z_isinstance ?z_len ?z_int ?z_bool ?z_tuple ?z_list ?z_str ?z_enumerate ?z_zip ?z_range ?z_min ?z_max ?z_repr ?z_all ?z_divmod ?z_abs ?z_sum ?z_ValueError ?z_LookupError ?z_ArithmeticError ?xhd_InvalidCounts ?xty_InvalidCounts ?xbe_InvalidCounts ?xm_InvalidCounts_InvalidCounts ?xm_InvalidTick_InvalidCounts ?xm_InvalidNumber_InvalidCounts ?xm_TooMany_InvalidCounts ?xhd_NotCounts ?xty_NotCounts ?xm_InvalidCounts_NotCounts ?xm_InvalidTick_NotCounts ?xm_InvalidNumber_NotCounts ?xm_TooMany_NotCounts ?xhd_InvalidTick ?xty_InvalidTick ?xbe_InvalidTick ?xm_InvalidCounts_InvalidTick ?xm_InvalidTick_InvalidTick ?xm_InvalidNumber_InvalidTick ?xm_TooMany_InvalidTick ?xhd_InvalidNumber ?xty_InvalidNumber ?xbe_InvalidNumber ?xm_InvalidCounts_InvalidNumber ?xm_InvalidTick_InvalidNumber ?xm_InvalidNumber_InvalidNumber ?xm_TooMany_InvalidNumber ?xhd_InvalidText ?xty_InvalidText ?xm_InvalidCounts_InvalidText ?xm_InvalidTick_InvalidText ?xm_InvalidNumber_InvalidText ?xm_TooMany_InvalidText ?xhd_InvalidStay ?xty_InvalidStay ?xm_InvalidCounts_InvalidStay ?xm_InvalidTick_InvalidStay ?xm_InvalidNumber_InvalidStay ?xm_TooMany_InvalidStay ?xhd_InvalidHistory ?xty_InvalidHistory ?xm_InvalidCounts_InvalidHistory ?xm_InvalidTick_InvalidHistory ?xm_InvalidNumber_InvalidHistory ?xm_TooMany_InvalidHistory ?xhd_InvalidName ?xty_InvalidName ?xm_InvalidCounts_InvalidName ?xm_InvalidTick_InvalidName ?xm_InvalidNumber_InvalidName ?xm_TooMany_InvalidName ?xhd_InvalidLength ?xty_InvalidLength ?xm_InvalidCounts_InvalidLength ?xm_InvalidTick_InvalidLength ?xm_InvalidNumber_InvalidLength ?xm_TooMany_InvalidLength ?xhd_InvalidDoors ?xty_InvalidDoors ?xm_InvalidCounts_InvalidDoors ?xm_InvalidTick_InvalidDoors ?xm_InvalidNumber_InvalidDoors ?xm_TooMany_InvalidDoors ?xhd_InvalidDeed ?xty_InvalidDeed ?xm_InvalidCounts_InvalidDeed ?xm_InvalidTick_InvalidDeed ?xm_InvalidNumber_InvalidDeed ?xm_TooMany_InvalidDeed ?xhd_InvalidCommand ?xty_InvalidCommand ?xm_InvalidCounts_InvalidCommand ?xm_InvalidTick_InvalidCommand ?xm_InvalidNumber_InvalidCommand ?xm_TooMany_InvalidCommand ?xhd_Impossible ?xty_Impossible ?xm_InvalidCounts_Impossible ?xm_InvalidTick_Impossible ?xm_InvalidNumber_Impossible ?xm_TooMany_Impossible ?xhd_NotKnown ?xty_NotKnown ?xm_InvalidCounts_NotKnown ?xm_InvalidTick_NotKnown ?xm_InvalidNumber_NotKnown ?xm_TooMany_NotKnown ?xhd_LimitBroken ?xty_LimitBroken ?xm_InvalidCounts_LimitBroken ?xm_InvalidTick_LimitBroken ?xm_InvalidNumber_LimitBroken ?xm_TooMany_LimitBroken ?xhd_NothingToUndo ?xty_NothingToUndo ?xm_InvalidCounts_NothingToUndo ?xm_InvalidTick_NothingToUndo ?xm_InvalidNumber_NothingToUndo ?xm_TooMany_NothingToUndo ?xhd_TooMany ?xty_TooMany ?xbe_TooMany ?xm_InvalidCounts_TooMany ?xm_InvalidTick_TooMany ?xm_InvalidNumber_TooMany ?xm_TooMany_TooMany ?xhd_CountError ?xty_CountError ?xbe_CountError ?xm_InvalidCounts_CountError ?xm_InvalidTick_CountError ?xm_InvalidNumber_CountError ?xm_TooMany_CountError ?xhd_SearchError ?xty_SearchError ?xbe_SearchError ?xm_InvalidCounts_SearchError ?xm_InvalidTick_SearchError ?xm_InvalidNumber_SearchError ?xm_TooMany_SearchError ?xhd_LimitError ?xty_LimitError ?xbe_LimitError ?xm_InvalidCounts_LimitError ?xm_InvalidTick_LimitError ?xm_InvalidNumber_LimitError ?xm_TooMany_LimitError ?xm_InvalidCounts_ValueError ?xm_InvalidCounts_LookupError ?xm_InvalidCounts_ArithmeticError ?xsa_InvalidCounts ?xk_InvalidCounts ?xga_InvalidCounts ?xgg_InvalidCounts ?xha_InvalidCounts ?xmr_InvalidCounts ?xn_InvalidCounts_tick ?xm_InvalidTick_ValueError ?xm_InvalidTick_LookupError ?xm_InvalidTick_ArithmeticError ?xsa_InvalidTick ?xk_InvalidTick ?xga_InvalidTick ?xgg_InvalidTick ?xha_InvalidTick ?xmr_InvalidTick ?xn_InvalidTick_tick ?xm_InvalidNumber_ValueError ?xm_InvalidNumber_LookupError ?xm_InvalidNumber_ArithmeticError ?xsa_InvalidNumber ?xk_InvalidNumber ?xga_InvalidNumber ?xgg_InvalidNumber ?xha_InvalidNumber ?xmr_InvalidNumber ?xn_InvalidNumber_number ?xm_TooMany_ValueError ?xm_TooMany_LookupError ?xm_TooMany_ArithmeticError ?xsa_TooMany ?xk_TooMany ?xga_TooMany ?xgg_TooMany ?xha_TooMany ?xmr_TooMany ?xn_TooMany_limit ?xq_InvalidCounts ?xo_InvalidCounts ?xq_InvalidTick ?xo_InvalidTick ?xq_InvalidNumber ?xo_InvalidNumber ?xq_TooMany ?xo_TooMany ?cdq_turn ?lcd_turn ?v11_turn ?np_turn ?cdq_hand ?lcd_hand ?v11_hand ?np_hand ?neP_0_1
    (case aC => k_is)
    (case xa_InvalidCounts => k_is)
    (case xa_NotCounts => k_is)
    (case xa_InvalidTick => k_is)
    (case xa_InvalidNumber => k_is)
    (case xa_InvalidText => k_is)
    (case xa_InvalidStay => k_is)
    (case xa_InvalidHistory => k_is)
    (case xa_InvalidName => k_is)
    (case xa_InvalidLength => k_is)
    (case xa_InvalidDoors => k_is)
    (case xa_InvalidDeed => k_is)
    (case xa_InvalidCommand => k_is)
    (case xa_Impossible => k_is)
    (case xa_NotKnown => k_is)
    (case xa_LimitBroken => k_is)
    (case xa_NothingToUndo => k_is)
    (case xa_TooMany => k_is)
    (case xa_CountError => k_is)
    (case xa_SearchError => k_is)
    (case xa_LimitError => k_is)
    (case a_eIC => k_is)
    (case i_eIC => k_is)
    (case l_eIC => k_is)
    (case c_eIC => k_is)
    (case k_eIC => k_is)
    (case a_eIT => k_is)
    (case i_eIT => k_is)
    (case l_eIT => k_is)
    (case c_eIT => k_is)
    (case k_eIT => k_is)
    (case a_eIN => k_is)
    (case i_eIN => k_is)
    (case l_eIN => k_is)
    (case c_eIN => k_is)
    (case k_eIN => k_is)
    (case a_eTM => k_is)
    (case i_eTM => k_is)
    (case l_eTM => k_is)
    (case c_eTM => k_is)
    (case k_eTM => k_is)
    (case a_ii => k_is)
    (case l_ii => k_is)
    (case c_ii => k_is)
    (case k_ii => k_is)
    (case a_ct => k_is)
    (case l_ct => k_is)
    (case c_ct => k_is)
    (case k_ct => k_is)
    (case a_cnu => k_is)
    (case l_cnu => k_is)
    (case c_cnu => k_is)
    (case k_cnu => k_is)
    (case a_pra => k_is)
    (case l_pra => k_is)
    (case c_pra => k_is)
    (case k_pra => k_is)
    (case a_cl => k_is)
    (case l_cl => k_is)
    (case c_cl => k_is)
    (case k_cl => k_is)
    (case a_inu => k_is)
    (case l_inu => k_is)
    (case c_inu => k_is)
    (case k_inu => k_is)
    (case a_cn => k_is)
    (case l_cn => k_is)
    (case c_cn => k_is)
    (case k_cn => k_is)
    (case a_rep => k_is)
    (case l_rep => k_is)
    (case c_rep => k_is)
    (case k_rep => k_is)
    (case a_ini => k_is)
    (case i_ini => k_is)
    (case l_ini => k_is)
    (case c_ini => k_is)
    (case k_ini => k_is)
    (case a_pre => k_is)
    (case g_pre => k_is)
    (case t_pre => k_is)
    (case r_pre => k_is)
    (case l_pre => k_is)
    (case c_pre => k_is)
    (case k_pre => k_is)
    (case a_peo => k_is)
    (case g_peo => k_is)
    (case t_peo => k_is)
    (case r_peo => k_is)
    (case l_peo => k_is)
    (case c_peo => k_is)
    (case k_peo => k_is)
    (case a_eq => k_is)
    (case i_eq => k_is)
    (case l_eq => k_is)
    (case c_eq => k_is)
    (case k_eq => k_is)
    (case a_str => k_is)
    (case i_str => k_is)
    (case l_str => k_is)
    (case c_str => k_is)
    (case k_str => k_is)
    (case a_qui => k_is)
    (case r_qui => k_is)
    (case i_qui => k_is)
    (case l_qui => k_is)
    (case c_qui => k_is)
    (case k_qui => k_is)
    (case a_cha => k_is)
    (case i_cha => k_is)
    (case l_cha => k_is)
    (case kn_cha_arrivals => k_is)
    (case kn_cha_departures => k_is)
    (case c_cha => k_is)
    (case k_cha => k_is)
    (case a_exd => k_is)
    (case i_exd => k_is)
    (case l_exd => k_is)
    (case c_exd => k_is)
    (case k_exd => k_is)
    (case a_cell => k_is)
    (case l_cell => k_is)
    (case c_cell => k_is)
    (case k_cell => k_is)
    (case a_pool => k_is)
    (case l_pool => k_is)
    (case c_pool => k_is)
    (case k_pool => k_is)
    (case a_draw => k_is)
    (case l_draw => k_is)
    (case c_draw => k_is)
    (case k_draw => k_is)
    (case a_flows => k_is)
    (case l_flows => k_is)
    (case c_flows => k_is)
    (case k_flows => k_is)
    (case a_small => k_is)
    (case l_small => k_is)
    (case c_small => k_is)
    (case k_small => k_is)
    (case a_great => k_is)
    (case l_great => k_is)
    (case c_great => k_is)
    (case k_great => k_is)
    (case a_rest => k_is)
    (case l_rest => k_is)
    (case c_rest => k_is)
    (case k_rest => k_is)
    (case a_error => k_is)
    (case l_error => k_is)
    (case c_error => k_is)
    (case k_error => k_is)
    (case a_any => k_is)
    (case l_any => k_is)
    (case c_any => k_is)
    (case k_any => k_is)
    (case a_wrong => k_is)
    (case l_wrong => k_is)
    (case c_wrong => k_is)
    (case k_wrong => k_is)
    (case a_written => k_is)
    (case l_written => k_is)
    (case c_written => k_is)
    (case k_written => k_is)
    (case a_field => k_is)
    (case l_field => k_is)
    (case c_field => k_is)
    (case k_field => k_is)
    (case a_caught => k_is)
    (case l_caught => k_is)
    (case c_caught => k_is)
    (case k_caught => k_is)
    (case a_isn => k_is)
    (case l_isn => k_is)
    (case c_isn => k_is)
    (case k_isn => k_is)
    (case a_shown => k_is)
    (case l_shown => k_is)
    (case c_shown => k_is)
    (case k_shown => k_is)
    (case a_made => k_is)
    (case l_made => k_is)
    (case c_made => k_is)
    (case k_made => k_is)
    (case a_chd => k_is)
    (case l_chd => k_is)
    (case c_chd => k_is)
    (case k_chd => k_is)
    (case a_exdu => k_is)
    (case l_exdu => k_is)
    (case c_exdu => k_is)
    (case k_exdu => k_is)
    (case a_thing => k_is)
    (case l_thing => k_is)
    (case c_thing => k_is)
    (case k_thing => k_is)
    (case a_turn => k_is)
    (case l_turn => k_is)
    (case c_turn => k_is)
    (case k_turn => k_is)
    (case a_whole => k_is)
    (case l_whole => k_is)
    (case c_whole => k_is)
    (case k_whole => k_is)
    (case a_right => k_is)
    (case l_right => k_is)
    (case c_right => k_is)
    (case k_right => k_is)
    (case a_hand => k_is)
    (case l_hand => k_is)
    (case c_hand => k_is)
    (case k_hand => k_is)
    (case a_law => k_is)
    (case l_law => k_is)
    (case c_law => k_is)
    (case k_law => k_is)
    (case pg => k_is)
    (case hd => k_is)
    (case po => k_is)
    (case sa => k_is)
    (case mk => k_is)
    (case kc => k_is)
    (case rd => k_is)
    (case ga => k_is)
    (case ha => k_is)
    (case hn => k_is)
    (case tk => k_is)
    (case mr => k_is)
    (case ty => k_is)
    (case bt_bool => k_is)
    (case bt_int => k_is)
    (case bt_str => k_is)
    (case bt_tuple => k_is)
    (case bt_list => k_is)
    (case bt_dict => k_is)
    (case bt_NoneType => k_is)
    (case neb => k_is)
    (case na_arrivals => k_is)
    (case na_departures => k_is)
    (case cv_MAX_TICKS => k_is)
    (case cv_MAX_PEOPLE => k_is)
    (case z_isinstance => k_is)
    (case z_len => k_is)
    (case z_int => k_is)
    (case z_bool => k_is)
    (case z_tuple => k_is)
    (case z_list => k_is)
    (case z_str => k_is)
    (case z_enumerate => k_is)
    (case z_zip => k_is)
    (case z_range => k_is)
    (case z_min => k_is)
    (case z_max => k_is)
    (case z_repr => k_is)
    (case z_all => k_is)
    (case z_divmod => k_is)
    (case z_abs => k_is)
    (case z_sum => k_is)
    (case z_ValueError => k_is)
    (case z_LookupError => k_is)
    (case z_ArithmeticError => k_is)
    (case xhd_InvalidCounts => k_is)
    (case xty_InvalidCounts => k_is)
    (case xbe_InvalidCounts => k_is)
    (case xm_InvalidCounts_InvalidCounts => k_is)
    (case xm_InvalidTick_InvalidCounts => k_is)
    (case xm_InvalidNumber_InvalidCounts => k_is)
    (case xm_TooMany_InvalidCounts => k_is)
    (case xhd_NotCounts => k_is)
    (case xty_NotCounts => k_is)
    (case xm_InvalidCounts_NotCounts => k_is)
    (case xm_InvalidTick_NotCounts => k_is)
    (case xm_InvalidNumber_NotCounts => k_is)
    (case xm_TooMany_NotCounts => k_is)
    (case xhd_InvalidTick => k_is)
    (case xty_InvalidTick => k_is)
    (case xbe_InvalidTick => k_is)
    (case xm_InvalidCounts_InvalidTick => k_is)
    (case xm_InvalidTick_InvalidTick => k_is)
    (case xm_InvalidNumber_InvalidTick => k_is)
    (case xm_TooMany_InvalidTick => k_is)
    (case xhd_InvalidNumber => k_is)
    (case xty_InvalidNumber => k_is)
    (case xbe_InvalidNumber => k_is)
    (case xm_InvalidCounts_InvalidNumber => k_is)
    (case xm_InvalidTick_InvalidNumber => k_is)
    (case xm_InvalidNumber_InvalidNumber => k_is)
    (case xm_TooMany_InvalidNumber => k_is)
    (case xhd_InvalidText => k_is)
    (case xty_InvalidText => k_is)
    (case xm_InvalidCounts_InvalidText => k_is)
    (case xm_InvalidTick_InvalidText => k_is)
    (case xm_InvalidNumber_InvalidText => k_is)
    (case xm_TooMany_InvalidText => k_is)
    (case xhd_InvalidStay => k_is)
    (case xty_InvalidStay => k_is)
    (case xm_InvalidCounts_InvalidStay => k_is)
    (case xm_InvalidTick_InvalidStay => k_is)
    (case xm_InvalidNumber_InvalidStay => k_is)
    (case xm_TooMany_InvalidStay => k_is)
    (case xhd_InvalidHistory => k_is)
    (case xty_InvalidHistory => k_is)
    (case xm_InvalidCounts_InvalidHistory => k_is)
    (case xm_InvalidTick_InvalidHistory => k_is)
    (case xm_InvalidNumber_InvalidHistory => k_is)
    (case xm_TooMany_InvalidHistory => k_is)
    (case xhd_InvalidName => k_is)
    (case xty_InvalidName => k_is)
    (case xm_InvalidCounts_InvalidName => k_is)
    (case xm_InvalidTick_InvalidName => k_is)
    (case xm_InvalidNumber_InvalidName => k_is)
    (case xm_TooMany_InvalidName => k_is)
    (case xhd_InvalidLength => k_is)
    (case xty_InvalidLength => k_is)
    (case xm_InvalidCounts_InvalidLength => k_is)
    (case xm_InvalidTick_InvalidLength => k_is)
    (case xm_InvalidNumber_InvalidLength => k_is)
    (case xm_TooMany_InvalidLength => k_is)
    (case xhd_InvalidDoors => k_is)
    (case xty_InvalidDoors => k_is)
    (case xm_InvalidCounts_InvalidDoors => k_is)
    (case xm_InvalidTick_InvalidDoors => k_is)
    (case xm_InvalidNumber_InvalidDoors => k_is)
    (case xm_TooMany_InvalidDoors => k_is)
    (case xhd_InvalidDeed => k_is)
    (case xty_InvalidDeed => k_is)
    (case xm_InvalidCounts_InvalidDeed => k_is)
    (case xm_InvalidTick_InvalidDeed => k_is)
    (case xm_InvalidNumber_InvalidDeed => k_is)
    (case xm_TooMany_InvalidDeed => k_is)
    (case xhd_InvalidCommand => k_is)
    (case xty_InvalidCommand => k_is)
    (case xm_InvalidCounts_InvalidCommand => k_is)
    (case xm_InvalidTick_InvalidCommand => k_is)
    (case xm_InvalidNumber_InvalidCommand => k_is)
    (case xm_TooMany_InvalidCommand => k_is)
    (case xhd_Impossible => k_is)
    (case xty_Impossible => k_is)
    (case xm_InvalidCounts_Impossible => k_is)
    (case xm_InvalidTick_Impossible => k_is)
    (case xm_InvalidNumber_Impossible => k_is)
    (case xm_TooMany_Impossible => k_is)
    (case xhd_NotKnown => k_is)
    (case xty_NotKnown => k_is)
    (case xm_InvalidCounts_NotKnown => k_is)
    (case xm_InvalidTick_NotKnown => k_is)
    (case xm_InvalidNumber_NotKnown => k_is)
    (case xm_TooMany_NotKnown => k_is)
    (case xhd_LimitBroken => k_is)
    (case xty_LimitBroken => k_is)
    (case xm_InvalidCounts_LimitBroken => k_is)
    (case xm_InvalidTick_LimitBroken => k_is)
    (case xm_InvalidNumber_LimitBroken => k_is)
    (case xm_TooMany_LimitBroken => k_is)
    (case xhd_NothingToUndo => k_is)
    (case xty_NothingToUndo => k_is)
    (case xm_InvalidCounts_NothingToUndo => k_is)
    (case xm_InvalidTick_NothingToUndo => k_is)
    (case xm_InvalidNumber_NothingToUndo => k_is)
    (case xm_TooMany_NothingToUndo => k_is)
    (case xhd_TooMany => k_is)
    (case xty_TooMany => k_is)
    (case xbe_TooMany => k_is)
    (case xm_InvalidCounts_TooMany => k_is)
    (case xm_InvalidTick_TooMany => k_is)
    (case xm_InvalidNumber_TooMany => k_is)
    (case xm_TooMany_TooMany => k_is)
    (case xhd_CountError => k_is)
    (case xty_CountError => k_is)
    (case xbe_CountError => k_is)
    (case xm_InvalidCounts_CountError => k_is)
    (case xm_InvalidTick_CountError => k_is)
    (case xm_InvalidNumber_CountError => k_is)
    (case xm_TooMany_CountError => k_is)
    (case xhd_SearchError => k_is)
    (case xty_SearchError => k_is)
    (case xbe_SearchError => k_is)
    (case xm_InvalidCounts_SearchError => k_is)
    (case xm_InvalidTick_SearchError => k_is)
    (case xm_InvalidNumber_SearchError => k_is)
    (case xm_TooMany_SearchError => k_is)
    (case xhd_LimitError => k_is)
    (case xty_LimitError => k_is)
    (case xbe_LimitError => k_is)
    (case xm_InvalidCounts_LimitError => k_is)
    (case xm_InvalidTick_LimitError => k_is)
    (case xm_InvalidNumber_LimitError => k_is)
    (case xm_TooMany_LimitError => k_is)
    (case xm_InvalidCounts_ValueError => k_is)
    (case xm_InvalidCounts_LookupError => k_is)
    (case xm_InvalidCounts_ArithmeticError => k_is)
    (case xsa_InvalidCounts => k_is)
    (case xk_InvalidCounts => k_is)
    (case xga_InvalidCounts => k_is)
    (case xgg_InvalidCounts => k_is)
    (case xha_InvalidCounts => k_is)
    (case xmr_InvalidCounts => k_is)
    (case xn_InvalidCounts_tick => k_is)
    (case xm_InvalidTick_ValueError => k_is)
    (case xm_InvalidTick_LookupError => k_is)
    (case xm_InvalidTick_ArithmeticError => k_is)
    (case xsa_InvalidTick => k_is)
    (case xk_InvalidTick => k_is)
    (case xga_InvalidTick => k_is)
    (case xgg_InvalidTick => k_is)
    (case xha_InvalidTick => k_is)
    (case xmr_InvalidTick => k_is)
    (case xn_InvalidTick_tick => k_is)
    (case xm_InvalidNumber_ValueError => k_is)
    (case xm_InvalidNumber_LookupError => k_is)
    (case xm_InvalidNumber_ArithmeticError => k_is)
    (case xsa_InvalidNumber => k_is)
    (case xk_InvalidNumber => k_is)
    (case xga_InvalidNumber => k_is)
    (case xgg_InvalidNumber => k_is)
    (case xha_InvalidNumber => k_is)
    (case xmr_InvalidNumber => k_is)
    (case xn_InvalidNumber_number => k_is)
    (case xm_TooMany_ValueError => k_is)
    (case xm_TooMany_LookupError => k_is)
    (case xm_TooMany_ArithmeticError => k_is)
    (case xsa_TooMany => k_is)
    (case xk_TooMany => k_is)
    (case xga_TooMany => k_is)
    (case xgg_TooMany => k_is)
    (case xha_TooMany => k_is)
    (case xmr_TooMany => k_is)
    (case xn_TooMany_limit => k_is)
    (case xq_InvalidCounts => kernel_rfl)
    (case xo_InvalidCounts => kernel_rfl)
    (case xq_InvalidTick => kernel_rfl)
    (case xo_InvalidTick => kernel_rfl)
    (case xq_InvalidNumber => kernel_rfl)
    (case xo_InvalidNumber => kernel_rfl)
    (case xq_TooMany => kernel_rfl)
    (case xo_TooMany => kernel_rfl)
    (case cdq_turn => exact rfl)
    (case lcd_turn => k_is)
    (case v11_turn => exact rfl)
    (case np_turn => first | kernel_rfl | exact rfl | decide +kernel)
    (case cdq_hand => exact rfl)
    (case lcd_hand => k_is)
    (case v11_hand => exact rfl)
    (case np_hand => first | kernel_rfl | exact rfl | decide +kernel)
    (case neP_0_1 => decide)
#print axioms PySem.Challenge.cw_staycounts_k05_counts_changed_holds
