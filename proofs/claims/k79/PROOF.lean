import PyProof.Rows.All
import Wide.All
import OpenK.AllK
import Wide.FinOn
import HandS.ForMost
import HandS.Zip
import HandS.IsInst
import HandS.Property
import HandS.Wide
import HandS.WideBits
import HandS.TupMul
import HandS.TupAny
import HandS.OwnEq
import HandS.Lambda
import HandS.Flow
import HandS.TryOnly
import HandS.MakeKwOnly
import HandS.Defaults
import HandS.Conv
import KE.GoesMore
import HandS.ClsMeth
import HandS.FStr
import KE.KCallOwn
import PyProof.NeKinds
import PyProof.FactsAll.dict
import KE.KFmtOwn
import HandS.Style
import KE.KTupSum
import HandS.EndTab
import KE.DataMinKey
import HandS.ForExc
import HandS.ExcInit
import HandS.ExcIs
import HandS.ExcField
import HandS.TryMany
import HandS.HotCalls
import KE.KExcLine
import KE.KTryMore
import KE.KExcIs
import HandS.NestedK
import KE.KExcMake
import KE.KxField
import PyProof.StrOps2
import HandS.RaiseMore
import PySem.Challenge.RW_staycounts_k79_table_in_columns
set_option Elab.async false
set_option linter.all false
set_option maxRecDepth 100000
set_option maxHeartbeats 4000000
/-! A layer of plain data over the hand layer: values as data D, results R, what stands in the heap (Rp), a frame's places (Rel), expressions and statements as plain functions (PD, PB, PQ). -/
namespace PL
open PySem PySem.Spec PyProof.Rows L2
/-! ### data -/
inductive D where
  | non | bl (b : Bool) | int (i : Int) | str (s : Str)
  | tup (xs : List D) | lst (xs : List D)
  | scr (ns : List Int)
  | dic (ks : List Key) (vs : List D)
  | ins (C : Str) (ns : List Str) (vs : List D)
  | cls (c : Str)
  | exn (c : Str) (ns : List Str) (vs : List D)
/-- a result: a value, an exception by its class's name and its attributes, or a step that no rule here serves -/
inductive R (α : Type) where
  | ok (a : α) | exc (c : Str) (ns : List Str) (vs : List D) | bad
namespace R
def bind {α β : Type} (x : R α) (f : α → R β) : R β := match x with
  | ok a => f a
  | exc c ns vs => exc c ns vs
  | bad => bad
instance : Monad R where
  pure := ok
  bind := bind
def of {α : Type} : Option α → R α
  | some a => ok a
  | none => bad
@[simp] theorem ok_bind {α β : Type} (a : α) (f : α → R β) : (R.ok a >>= f) = f a := rfl
@[simp] theorem pure_bind' {α β : Type} (a : α) (f : α → R β) : ((pure a : R α) >>= f) = f a := rfl
@[simp] theorem exc_bind {α β : Type} (c : Str) (ns : List Str) (vs : List D) (f : α → R β) : (R.exc c ns vs >>= f) = R.exc c ns vs := rfl
@[simp] theorem bad_bind {α β : Type} (f : α → R β) : ((R.bad : R α) >>= f) = R.bad := rfl
@[simp] theorem of_some {α : Type} (a : α) : R.of (some a) = R.ok a := rfl
@[simp] theorem of_none {α : Type} : R.of (none : Option α) = R.bad := rfl
@[simp] theorem pure_eq {α : Type} (a : α) : (pure a : R α) = R.ok a := rfl
end R
abbrev EXT := Str → List Str → List D → Prop
/-- a result that is wanted -/
def Sat {α : Type} (r : R α) (Q : α → Prop) (EX : EXT) : Prop := match r with
  | .ok a => Q a
  | .exc c ns vs => EX c ns vs
  | .bad => False
theorem sat_bind {α β : Type} {x : R α} {f : α → R β} {Q : β → Prop} {EX : EXT} : Sat (x >>= f) Q EX ↔ Sat x (fun a => Sat (f a) Q EX) EX := by cases x <;> exact Iff.rfl
theorem sat_of {α : Type} {x : Option α} {Q : α → Prop} {EX : EXT} (h : Sat (R.of x) Q EX) : ∃ a, x = some a ∧ Q a := by
  cases x with
  | none => exact h.elim
  | some a => exact ⟨a, rfl, h⟩
theorem Sat.imp {α : Type} {x : R α} {Q Q' : α → Prop} {EX : EXT} (h : Sat x Q EX) (hq : ∀ a, Q a → Q' a) : Sat x Q' EX := by
  cases x with
  | ok a => exact hq a h
  | exc _ _ _ => exact h
  | bad => exact h
/-! ### heaps -/
def Ex (H H' : Hp) : Prop := ∀ a o, H a = some o → H' a = some o
theorem Ex.refl (H : Hp) : Ex H H := fun _ _ h => h
theorem Ex.trans {H H1 H2 : Hp} (a : Ex H H1) (b : Ex H1 H2) : Ex H H2 := fun x o h => b x o (a x o h)
theorem Ex.new {H : Hp} {p : Addr} {o : HO} (h : H p = none) : Ex H (upd H p o) := fun a u e => by
  rw [upd_ne (ne_of_none e h)]
  exact e
theorem ex_rd {H H' : Hp} {a : Addr} {u : HO} (e : Ex H H') (h : Rd H a u) : Rd H' a u := by
  rcases h with h | ⟨o, h⟩
  · exact Or.inl (e a _ h)
  · exact Or.inr ⟨o, e a _ h⟩
theorem ex_l {K : PySem.W.Frag} {H H' : Hp} {a : Addr} {xs : List V} (e : Ex H H') (h : SqL K H a xs) : SqL K H' a xs := by
  rcases h with h | h
  · exact Or.inl (ex_rd e h)
  · exact Or.inr h
theorem ex_t {K : PySem.W.Frag} {H H' : Hp} {a : Addr} {xs : List V} (e : Ex H H') (h : SqT K H a xs) : SqT K H' a xs := by
  rcases h with h | h
  · exact Or.inl (ex_rd e h)
  · exact Or.inr h
/-- the heap without the addresses of L -/
def Frz (H : Hp) (L : List Addr) : Hp := fun a => if a ∈ L then none else H a
theorem frz_ex (H : Hp) (L : List Addr) : Ex (Frz H L) H := fun a o h => by
  unfold Frz at h
  split at h
  · cases h
  · exact h
theorem frz_of {H : Hp} {L : List Addr} {a : Addr} {o : HO} (h : H a = some o) (n : a ∉ L) : Frz H L a = some o := by
  unfold Frz
  rw [if_neg n]
  exact h
theorem frz_mono {H H' : Hp} {L : List Addr} (e : ∀ a o, a ∉ L → H a = some o → H' a = some o) : Ex (Frz H L) (Frz H' L) := fun a o h => by
  unfold Frz at h ⊢
  split at h
  · cases h
  · rename_i n
    rw [if_neg n]
    exact e a o n h
theorem frz_sub {H : Hp} {L L' : List Addr} (s : ∀ a ∈ L', a ∈ L) : Ex (Frz H L) (Frz H L') := fun a o h => by
  unfold Frz at h ⊢
  split at h
  · cases h
  · rename_i n
    rw [if_neg fun z => n (s a z)]
    exact h
/-! ### what a value is -/
/-- an exception at rest -/
def exT (a C : Addr) (d : Option Addr) : HO := .ext fun h => ∃ (o : Obj) (fv : Array Value), h.get? a = some o ∧ o.cls = .ref C ∧ o.dict = d ∧ o.data = .fields fv
mutual
inductive Rp (K : PySem.W.Frag) (ca : Str → Option Addr) (F : Hp) : V → D → Prop
  | non : Rp K ca F .non .non
  | bl (b : Bool) : Rp K ca F (.bl b) (.bl b)
  | int (i : Int) : Rp K ca F (.int i) (.int i)
  | str (x : Str) : Rp K ca F (.str x) (.str x)
  | tup {a : Addr} {xs : List V} {ds : List D} : SqT K F a xs → RpA K ca F xs ds → Rp K ca F (.ref a) (.tup ds)
  | lst {a : Addr} {xs : List V} {ds : List D} : F a = some (.lst xs) → RpA K ca F xs ds → Rp K ca F (.ref a) (.lst ds)
  | scr {a : Addr} {ns : List Int} : SqL K F a (ns.map V.int) → Rp K ca F (.ref a) (.scr ns)
  | dic {a : Addr} {kvs : List (Key × V)} {ds : List D} : F a = some (.dK kvs) → RpA K ca F (kvs.map (·.2)) ds → Rp K ca F (.ref a) (.dic (kvs.map (·.1)) ds)
  | ins {a C dx : Addr} {c : Str} {fs : List (Str × V)} {ds : List D} : F a = some (.ins C dx fs) → ca c = some C → RpA K ca F (fs.map (·.2)) ds → Rp K ca F (.ref a) (.ins c (fs.map (·.1)) ds)
  | cls {C : Addr} {c : Str} : ca c = some C → Rp K ca F (.ref C) (.cls c)
  | exn0 {a C : Addr} {c : Str} : F a = some (exT a C none) → ca c = some C → Rp K ca F (.ref a) (.exn c [] [])
  | exnD {a C dx : Addr} {c : Str} {fs : List (Str × V)} {ds : List D} : F a = some (exT a C (some dx)) → F dx = some (.xd fs) → ca c = some C → RpA K ca F (fs.map (·.2)) ds → Rp K ca F (.ref a) (.exn c (fs.map (·.1)) ds)
inductive RpA (K : PySem.W.Frag) (ca : Str → Option Addr) (F : Hp) : List V → List D → Prop
  | nil : RpA K ca F [] []
  | cons {v : V} {vs : List V} {d : D} {ds : List D} : Rp K ca F v d → RpA K ca F vs ds → RpA K ca F (v :: vs) (d :: ds)
end
section
variable {K : PySem.W.Frag} {ca : Str → Option Addr} {F F' : Hp}
mutual
theorem Rp.mono (e : Ex F F') : ∀ {v : V} {d : D}, Rp K ca F v d → Rp K ca F' v d
  | _, _, .non => .non
  | _, _, .bl b => .bl b
  | _, _, .int i => .int i
  | _, _, .str x => .str x
  | _, _, .tup h r => .tup (ex_t e h) (RpA.mono e r)
  | _, _, .lst h r => .lst (e _ _ h) (RpA.mono e r)
  | _, _, .scr h => .scr (ex_l e h)
  | _, _, .dic h r => .dic (e _ _ h) (RpA.mono e r)
  | _, _, .ins h c r => .ins (e _ _ h) c (RpA.mono e r)
  | _, _, .cls c => .cls c
  | _, _, .exn0 h c => .exn0 (e _ _ h) c
  | _, _, .exnD h g c r => .exnD (e _ _ h) (e _ _ g) c (RpA.mono e r)
theorem RpA.mono (e : Ex F F') : ∀ {vs : List V} {ds : List D}, RpA K ca F vs ds → RpA K ca F' vs ds
  | _, _, .nil => .nil
  | _, _, .cons h r => .cons (Rp.mono e h) (RpA.mono e r)
end
theorem RpA.length : ∀ {vs : List V} {ds : List D}, RpA K ca F vs ds → vs.length = ds.length
  | _, _, .nil => rfl
  | _, _, .cons _ r => congrArg (· + 1) (RpA.length r)
theorem RpA.get : ∀ {vs : List V} {ds : List D} {i : Nat} {d : D}, RpA K ca F vs ds → ds[i]? = some d → ∃ v, vs[i]? = some v ∧ Rp K ca F v d
  | _, _, 0, d, .cons h _, e => by
    simp only [List.length_cons, List.getElem?_cons_zero, Option.some.injEq] at e
    subst e
    exact ⟨_, rfl, h⟩
  | _, _, i + 1, d, .cons _ r, e => by
    obtain ⟨v, e1, h⟩ := RpA.get (i := i) (d := d) r (by simpa using e)
    exact ⟨v, by simpa using e1, h⟩
  | _, _, _, _, .nil, e => by simp at e
theorem RpA.getV : ∀ {vs : List V} {ds : List D} {i : Nat} {v : V}, RpA K ca F vs ds → vs[i]? = some v → ∃ d, ds[i]? = some d ∧ Rp K ca F v d
  | _, _, 0, v, .cons h _, e => by
    simp only [List.length_cons, List.getElem?_cons_zero, Option.some.injEq] at e
    subst e
    exact ⟨_, rfl, h⟩
  | _, _, i + 1, v, .cons _ r, e => by
    obtain ⟨d, e1, h⟩ := RpA.getV (i := i) (v := v) r (by simpa using e)
    exact ⟨d, by simpa using e1, h⟩
  | _, _, _, _, .nil, e => by simp at e
theorem RpA.append : ∀ {vs ws : List V} {ds es : List D}, RpA K ca F vs ds → RpA K ca F ws es → RpA K ca F (vs ++ ws) (ds ++ es)
  | _, _, _, _, .nil, s => s
  | _, _, _, _, .cons h r, s => .cons h (RpA.append r s)
theorem RpA.take : ∀ {vs : List V} {ds : List D} (n : Nat), RpA K ca F vs ds → RpA K ca F (vs.take n) (ds.take n)
  | _, _, 0, _ => .nil
  | _, _, _ + 1, .nil => .nil
  | _, _, n + 1, .cons h r => .cons h (RpA.take n r)
theorem RpA.drop : ∀ {vs : List V} {ds : List D} (n : Nat), RpA K ca F vs ds → RpA K ca F (vs.drop n) (ds.drop n)
  | _, _, 0, r => r
  | _, _, _ + 1, .nil => .nil
  | _, _, n + 1, .cons _ r => RpA.drop n r
theorem RpA.set {v : V} {d : D} (h : Rp K ca F v d) : ∀ {vs : List V} {ds : List D} (i : Nat), RpA K ca F vs ds → RpA K ca F (vs.set i v) (ds.set i d)
  | _, _, _, .nil => .nil
  | _, _, 0, .cons _ r => .cons h r
  | _, _, i + 1, .cons q r => .cons q (RpA.set h i r)
/-- ints, bools, texts: values by themselves -/
def D.ints : List D → Option (List Int)
  | [] => some []
  | .int i :: r => (D.ints r).map (i :: ·)
  | _ :: _ => none
def D.bls : List D → Option (List Bool)
  | [] => some []
  | .bl i :: r => (D.bls r).map (i :: ·)
  | _ :: _ => none
def D.strs : List D → Option (List Str)
  | [] => some []
  | .str i :: r => (D.strs r).map (i :: ·)
  | _ :: _ => none
theorem RpA.ints : ∀ {vs : List V} {ds : List D} {ns : List Int}, RpA K ca F vs ds → D.ints ds = some ns → vs = ns.map V.int
  | _, _, ns, .nil, e => by cases e; rfl
  | _, _, ns, .cons h r, e => by
    cases h with
    | int i =>
      simp only [D.ints, Option.map_eq_some_iff] at e
      obtain ⟨m, e1, rfl⟩ := e
      rw [RpA.ints r e1]; rfl
    | _ => simp [D.ints] at e
theorem RpA.bls : ∀ {vs : List V} {ds : List D} {ns : List Bool}, RpA K ca F vs ds → D.bls ds = some ns → vs = ns.map V.bl
  | _, _, ns, .nil, e => by cases e; rfl
  | _, _, ns, .cons h r, e => by
    cases h with
    | bl i =>
      simp only [D.bls, Option.map_eq_some_iff] at e
      obtain ⟨m, e1, rfl⟩ := e
      rw [RpA.bls r e1]; rfl
    | _ => simp [D.bls] at e
theorem RpA.strs : ∀ {vs : List V} {ds : List D} {ns : List Str}, RpA K ca F vs ds → D.strs ds = some ns → vs = ns.map V.str
  | _, _, ns, .nil, e => by cases e; rfl
  | _, _, ns, .cons h r, e => by
    cases h with
    | str i =>
      simp only [D.strs, Option.map_eq_some_iff] at e
      obtain ⟨m, e1, rfl⟩ := e
      rw [RpA.strs r e1]; rfl
    | _ => simp [D.strs] at e
theorem RpA.ofInts : ∀ (ns : List Int), RpA K ca F (ns.map V.int) (ns.map D.int)
  | [] => .nil
  | n :: r => .cons (.int n) (RpA.ofInts r)
theorem D.ints_map : ∀ ns : List Int, D.ints (ns.map D.int) = some ns
  | [] => rfl
  | n :: r => by simp [D.ints, D.ints_map r]
theorem D.strs_map : ∀ ns : List Str, D.strs (ns.map D.str) = some ns
  | [] => rfl
  | n :: r => by simp [D.strs, D.strs_map r]
end
/-! ### a value that may be a list that the frame owns -/
/-- L: the addresses that are hidden; N: those that may change within an expression -/
def Rb (K : PySem.W.Frag) (ca : Str → Option Addr) (H : Hp) (L N : List Addr) (v : V) (d : D) : Prop :=
  Rp K ca (Frz H L) v d ∨ ∃ a xs ds, v = .ref a ∧ d = .lst ds ∧ a ∉ N ∧ H a = some (.lst xs) ∧ RpA K ca (Frz H L) xs ds
theorem Rb.rp {K : PySem.W.Frag} {ca : Str → Option Addr} {H : Hp} {L N : List Addr} {v : V} {d : D} (h : Rb K ca H L N v d) : Rp K ca H v d := by
  rcases h with h | ⟨a, xs, ds, rfl, rfl, _, h, r⟩
  · exact h.mono (frz_ex H L)
  · exact .lst h (r.mono (frz_ex H L))
theorem Rb.lst {K : PySem.W.Frag} {ca : Str → Option Addr} {H : Hp} {L N : List Addr} {v : V} {ds : List D} (h : Rb K ca H L N v (.lst ds)) :
    ∃ a xs, v = .ref a ∧ H a = some (.lst xs) ∧ RpA K ca (Frz H L) xs ds := by
  rcases h with h | ⟨a, xs, ds', rfl, e, _, h, r⟩
  · cases h with
    | lst h r => exact ⟨_, _, rfl, frz_ex H L _ _ h, r⟩
  · cases e
    exact ⟨a, xs, rfl, h, r⟩
theorem Rb.flat {K : PySem.W.Frag} {ca : Str → Option Addr} {H : Hp} {L N : List Addr} {v : V} {d : D} (h : Rb K ca H L N v d) (n : ∀ ds, d ≠ .lst ds) : Rp K ca (Frz H L) v d := by
  rcases h with h | ⟨a, xs, ds', _, e, _⟩
  · exact h
  · exact absurd e (n ds')
/-! ### tables of code objects -/
abbrev Tb := List (Addr × Str)
def tbs (T : Tb) : List Addr := T.map (·.1)
/-- all but the tables stay -/
def GrT (T : Tb) (H H' : Hp) : Prop := ∀ a o, a ∉ tbs T → H a = some o → H' a = some o
theorem GrT.of {T : Tb} {H H' : Hp} (e : Ex H H') : GrT T H H' := fun a o _ h => e a o h
theorem GrT.refl {T : Tb} {H : Hp} : GrT T H H := fun _ _ _ h => h
theorem GrT.trans {T : Tb} {H H1 H2 : Hp} (a : GrT T H H1) (b : GrT T H1 H2) : GrT T H H2 := fun x o n h => b x o n (a x o n h)
/-- the tables are hidden, and as they are wanted -/
structure TIn (T : Tb) (L : List Addr) (H : Hp) : Prop where
  nd : (tbs T).Nodup
  sub : ∀ a ∈ tbs T, a ∈ L
  tabs : LamX.Tabs T H
theorem TIn.nil {L : List Addr} {H : Hp} : TIn [] L H := ⟨List.nodup_nil, fun _ h => (nomatch h), fun _ h => (nomatch h)⟩
/-- an object that is neither a table nor a code object is written -/
theorem tabs_upd {T : Tb} {H : Hp} {a : Addr} {u o : HO} (t : LamX.Tabs T H) (h : H a = some u) (n1 : ∀ ps, u ≠ .tbl ps) (n2 : ∀ φ, u ≠ .ext φ) : LamX.Tabs T (upd H a o) := fun p hp => by
  obtain ⟨ps, h1, h2, h3⟩ := t p hp
  refine ⟨ps, ?_, h2, fun pos cv hc => ?_⟩
  · rw [upd_ne fun z => ?_]
    · exact h1
    · rw [z, h] at h1
      exact n1 ps (Option.some.inj h1)
  · obtain ⟨c, e1, e2⟩ := h3 pos cv hc
    refine ⟨c, e1, ?_⟩
    rw [upd_ne fun z => ?_]
    · exact e2
    · rw [z, h] at e2
      exact n2 _ (Option.some.inj e2)
theorem tabs_new {T : Tb} {H : Hp} {a : Addr} {o : HO} (t : LamX.Tabs T H) (h : H a = none) : LamX.Tabs T (upd H a o) := t.ext fun b u e => (Ex.new h) b u e
/-! ### a frame -/
/-- what stays through a def's run: the written part, the classes' addresses, the heap at the entry, the in-out object, its place and how it looks -/
structure Z where
  K : PySem.W.Frag
  ca : Str → Option Addr
  H0 : Hp
  pl : Option (Nat × Addr)
  sh : List V → HO
  tb : Tb := []
  /-- what the callers hide; the places that are kept, as they were -/
  bs : List Addr := []
  s0 : L2.St := []
  kp : List Nat := []
abbrev Env := List (Option D)
/-- what may change: the in-out object, the tables of code objects -/
def Z.pls (z : Z) : List Addr := z.pl.toList.map (·.2) ++ tbs z.tb
/-- all that is hidden: the owned lists, the in-out list, what is not to be touched -/
def Z.L (z : Z) (B : List Addr) (P : List (Nat × Addr)) : List Addr := P.map (·.2) ++ (z.pls ++ B)
/-- what an exception's way out leans on -/
def XtOk (z : Z) (B : List Addr) (σ : L2.St) : Prop := (∀ a ∈ z.bs, z.H0 a ≠ none ∧ a ∈ B) ∧ ∀ i ∈ z.kp, σ[i]? = z.s0[i]?
structure Rel (z : Z) (B : List Addr) (P : List (Nat × Addr)) (σ : L2.St) (H : Hp) (ρ : Env) (S : List D) : Prop where
  val : ∀ i d, (∀ p ∈ P, p.1 ≠ i) → ρ[i]? = some (some d) → ∃ v, σ[i]? = some (some v) ∧ Rp z.K z.ca (Frz H (z.L B P)) v d
  own : ∀ p ∈ P, σ[p.1]? = some (some (.ref p.2)) ∧ ∃ xs ds, H p.2 = some (.lst xs) ∧ ρ[p.1]? = some (some (.lst ds)) ∧ RpA z.K z.ca (Frz H (z.L B P)) xs ds
  pool : ∀ i a, z.pl = some (i, a) → σ[i]? = some (some (.ref a)) ∧ ρ[i]? = some none ∧ ∃ xs, H a = some (z.sh xs) ∧ RpA z.K z.ca (Frz H (z.L B P)) xs S
  nd : (z.L B P).Nodup
  there : ∀ b ∈ B, H b ≠ none
  ex : ∀ a o, z.H0 a = some o → a ∉ z.pls → H a = some o
  new : ∀ p ∈ P, z.H0 p.2 = none
  len : σ.length = ρ.length
  tabs : LamX.Tabs z.tb H
  xt : XtOk z B σ
/-- the in-out list alone may have changed -/
def Grow (z : Z) (H H' : Hp) : Prop := ∀ a o, a ∉ z.pls → H a = some o → H' a = some o
theorem Grow.of {z : Z} {H H' : Hp} (e : Ex H H') : Grow z H H' := fun a o _ h => e a o h
theorem Grow.refl {z : Z} {H : Hp} : Grow z H H := fun _ _ _ h => h
theorem Grow.trans {z : Z} {H H1 H2 : Hp} (a : Grow z H H1) (b : Grow z H1 H2) : Grow z H H2 := fun x o n h => b x o n (a x o n h)
theorem Grow.frz {z : Z} {B : List Addr} {P : List (Nat × Addr)} {H H' : Hp} (g : Grow z H H') : Ex (Frz H (z.L B P)) (Frz H' (z.L B P)) := frz_mono fun a o n h => g a o (fun q => n (by
  unfold Z.L
  exact List.mem_append_right _ (List.mem_append_left _ q))) h
theorem Rel.grow {z : Z} {B : List Addr} {P : List (Nat × Addr)} {σ : L2.St} {H H' : Hp} {ρ : Env} {S : List D} (r : Rel z B P σ H ρ S) (e : Ex H H') : Rel z B P σ H' ρ S where
  val := fun i d n h => let ⟨v, e1, q⟩ := r.val i d n h; ⟨v, e1, q.mono ((Grow.of e).frz)⟩
  own := fun p hp => let ⟨e1, xs, ds, e2, e3, q⟩ := r.own p hp; ⟨e1, xs, ds, e _ _ e2, e3, q.mono ((Grow.of e).frz)⟩
  pool := fun i a h => let ⟨e1, e0, xs, e2, q⟩ := r.pool i a h; ⟨e1, e0, xs, e _ _ e2, q.mono ((Grow.of e).frz)⟩
  nd := r.nd
  there := fun b hb => by
    have h := r.there b hb
    cases q : H b with
    | none => exact absurd q h
    | some o => rw [e b o q]; exact fun z => nomatch z
  ex := fun a o h n => e _ _ (r.ex a o h n)
  new := r.new
  len := r.len
  tabs := r.tabs.ext e
  xt := r.xt
theorem Rel.lt {z : Z} {B : List Addr} {P : List (Nat × Addr)} {σ : L2.St} {H : Hp} {ρ : Env} {S : List D} (r : Rel z B P σ H ρ S) {a : Addr} (h : a ∈ z.L B P) : H a ≠ none := by
  unfold Z.L at h
  rcases List.mem_append.mp h with h | h
  · obtain ⟨p, hp, rfl⟩ := List.mem_map.mp h
    obtain ⟨_, xs, ds, e, _⟩ := r.own p hp
    rw [e]; exact fun z => nomatch z
  · rcases List.mem_append.mp h with h | h
    · unfold Z.pls at h
      rcases List.mem_append.mp h with h | h
      · obtain ⟨p, hp, rfl⟩ := List.mem_map.mp h
        obtain ⟨i, a⟩ := p
        have q : z.pl = some (i, a) := by
          cases e : z.pl with
          | none => rw [e] at hp; cases hp
          | some u => rw [e] at hp; simp at hp; rw [hp]
        obtain ⟨_, _, xs, e, _⟩ := r.pool i a q
        rw [e]; exact fun z => nomatch z
      · obtain ⟨p, hp, rfl⟩ := List.mem_map.mp h
        obtain ⟨ps, e, _⟩ := r.tabs p hp
        rw [e]; exact fun z => nomatch z
    · exact r.there a h
/-- a fresh address is not hidden -/
theorem Rel.fresh {z : Z} {B : List Addr} {P : List (Nat × Addr)} {σ : L2.St} {H : Hp} {ρ : Env} {S : List D} (r : Rel z B P σ H ρ S) {a : Addr} (h : H a = none) : a ∉ z.L B P := fun q => r.lt q h
/-! ### expressions -/
/-- e gives what f tells. O: the places of the owned lists -/
def EvE (z : Z) (O : List Nat) (EX : EXT) (t : TE) (f : Env → List D → R (D × List D)) : Prop :=
  ∀ B P σ H ρ S Q, P.map (·.1) = O → Rel z B P σ H ρ S →
    Sat (f ρ S) (fun r => ∀ v H', Grow z H H' → Rel z B P σ H' ρ r.2 → Rp z.K z.ca (Frz H' (z.L B P)) v r.1 → Q v H') EX → t σ H Q
/-- .. it may be an owned list -/
def EvB (z : Z) (O : List Nat) (EX : EXT) (t : TE) (f : Env → List D → R (D × List D)) : Prop :=
  ∀ B P σ H ρ S Q, P.map (·.1) = O → Rel z B P σ H ρ S →
    Sat (f ρ S) (fun r => ∀ v H', Grow z H H' → Rel z B P σ H' ρ r.2 → Rb z.K z.ca H' (z.L B P) z.pls v r.1 → Q v H') EX → t σ H Q
structure PD (X : Cx) (z : Z) (O : List Nat) (EX : EXT) (e : Expr) (f : Env → List D → R (D × List D)) : Prop where
  ex : ∃ t, PE X e t ∧ EvE z O EX t f
structure PB (X : Cx) (z : Z) (O : List Nat) (EX : EXT) (e : Expr) (f : Env → List D → R (D × List D)) : Prop where
  ex : ∃ t, PE X e t ∧ EvB z O EX t f
theorem PD.pb {X : Cx} {z : Z} {O : List Nat} {EX : EXT} {e : Expr} {f : Env → List D → R (D × List D)} (h : PD X z O EX e f) : PB X z O EX e f := by
  obtain ⟨t, h1, h2⟩ := h.ex
  exact ⟨t, h1, fun B P σ H ρ S Q hP r hs => h2 B P σ H ρ S Q hP r (hs.imp fun a q v H' g r' hv => q v H' g r' (.inl hv))⟩
theorem Rb.grow {z : Z} {B : List Addr} {P : List (Nat × Addr)} {H H' : Hp} {v : V} {d : D} (h : Rb z.K z.ca H (z.L B P) z.pls v d) (g : Grow z H H') : Rb z.K z.ca H' (z.L B P) z.pls v d := by
  rcases h with h | ⟨a, xs, ds, rfl, rfl, n, h, r⟩
  · exact .inl (h.mono g.frz)
  · exact .inr ⟨a, xs, ds, rfl, rfl, n, g _ _ n h, r.mono g.frz⟩
end PL
set_option Elab.async false
set_option linter.all false
set_option maxRecDepth 100000
set_option maxHeartbeats 4000000
namespace PL
open PySem PySem.Spec PyProof.Rows L2
/-! ### operators on data -/
abbrev LINE : Nat := 16777216
theorem line_le {n : Nat} (h : n ≤ LINE) : n ≤ sizeLine := by rw [sizeLine_eq]; exact h
theorem line_lt {n : Nat} (h : n < LINE) : n < sizeLine := by rw [sizeLine_eq]; exact h
/-- a two-place rule r answers as g does -/
def Op2 (K : PySem.W.Frag) (ca : Str → Option Addr) (r : R2) (g : D → D → Option D) : Prop :=
  ∀ (H : Hp) (L N : List Addr) (x y : V) (dx dy d : D) (Q : VK), (∀ p, H p = none → p ∉ L) → Rb K ca H L N x dx → Rb K ca H L N y dy → g dx dy = some d →
    (∀ v H', Ex H H' → Rp K ca (Frz H' L) v d → Q v H') → r x y H Q
section
variable {K : PySem.W.Frag} {ca : Str → Option Addr}
theorem Op2.or {r r' : R2} {g g' : D → D → Option D} (h : Op2 K ca r g) (h' : Op2 K ca r' g') : Op2 K ca (fun x y H Q => r x y H Q ∨ r' x y H Q) (fun a b => (g a b).or (g' a b)) := by
  intro H L N x y dx dy d Q fr hx hy hg hq
  dsimp only at hg
  cases e : g dx dy with
  | some u =>
    rw [e] at hg
    cases hg
    exact .inl (h H L N x y dx dy _ Q fr hx hy e hq)
  | none =>
    rw [e] at hg
    exact .inr (h' H L N x y dx dy _ Q fr hx hy hg hq)
theorem frz_new {H : Hp} {L : List Addr} {p : Addr} {o : HO} (n : p ∉ L) : Frz (upd H p o) L p = some o := frz_of upd_same n
theorem frz_up {H : Hp} {L : List Addr} {p : Addr} {o : HO} (h : H p = none) : Ex (Frz H L) (Frz (upd H p o) L) := frz_mono fun a u n e => (Ex.new h) a u e
theorem new_lst {H : Hp} {L : List Addr} {p : Addr} {xs : List V} {ds : List D} (h : H p = none) (n : p ∉ L) (r : RpA K ca (Frz H L) xs ds) : Rp K ca (Frz (upd H p (.lst xs)) L) (.ref p) (.lst ds) :=
  .lst (frz_new n) (r.mono (frz_up h))
theorem new_tup {H : Hp} {L : List Addr} {p : Addr} {xs : List V} {ds : List D} (h : H p = none) (n : p ∉ L) (r : RpA K ca (Frz H L) xs ds) : Rp K ca (Frz (upd H p (.tup xs)) L) (.ref p) (.tup ds) :=
  .tup (SqT.of (frz_new n)) (r.mono (frz_up h))
theorem Rb.int {H : Hp} {L N : List Addr} {v : V} {i : Int} (h : Rb K ca H L N v (.int i)) : v = .int i := by
  cases h.flat (fun _ z => nomatch z); rfl
theorem Rb.bl {H : Hp} {L N : List Addr} {v : V} {i : Bool} (h : Rb K ca H L N v (.bl i)) : v = .bl i := by
  cases h.flat (fun _ z => nomatch z); rfl
theorem Rb.str {H : Hp} {L N : List Addr} {v : V} {i : Str} (h : Rb K ca H L N v (.str i)) : v = .str i := by
  cases h.flat (fun _ z => nomatch z); rfl
theorem Rb.non {H : Hp} {L N : List Addr} {v : V} (h : Rb K ca H L N v .non) : v = .non := by
  cases h.flat (fun _ z => nomatch z); rfl
theorem Rb.tup {H : Hp} {L N : List Addr} {v : V} {ds : List D} (h : Rb K ca H L N v (.tup ds)) : ∃ a xs, v = .ref a ∧ SqT K (Frz H L) a xs ∧ RpA K ca (Frz H L) xs ds := by
  cases h.flat (fun _ z => nomatch z) with
  | tup q r => exact ⟨_, _, rfl, q, r⟩
theorem Rb.scr {H : Hp} {L N : List Addr} {v : V} {ns : List Int} (h : Rb K ca H L N v (.scr ns)) : ∃ a, v = .ref a ∧ SqL K (Frz H L) a (ns.map V.int) := by
  cases h.flat (fun _ z => nomatch z) with
  | scr q => exact ⟨_, rfl, q⟩
/-- + -/
def addI : D → D → Option D | .int a, .int b => some (.int (a + b)) | _, _ => none
def addS : D → D → Option D | .str a, .str b => if a.length + b.length ≤ LINE then some (.str (a ++ b)) else none | _, _ => none
def addL : D → D → Option D | .lst a, .lst b => if a.length + b.length ≤ LINE then some (.lst (a ++ b)) else none | _, _ => none
def addT : D → D → Option D | .tup a, .tup b => if a.length + b.length ≤ LINE then some (.tup (a ++ b)) else none | _, _ => none
def addD (a b : D) : Option D := (addI a b).or ((addS a b).or ((addL a b).or (addT a b)))
theorem op2_rI0 {f : Int → Int → Int} {g : D → D → Option D} (hg : ∀ a b d, g a b = some d → ∃ i j, a = .int i ∧ b = .int j ∧ d = .int (f i j)) : Op2 K ca (rI0 fun i j => .int (f i j)) g := by
  intro H L N x y dx dy d Q fr hx hy e hq
  obtain ⟨i, j, rfl, rfl, rfl⟩ := hg _ _ _ e
  exact ⟨i, j, hx.int, hy.int, hq _ H (Ex.refl H) (.int _)⟩
theorem op2_rI {C : Int → Int → Prop} {f : Int → Int → Int} {g : D → D → Option D} (hg : ∀ a b d, g a b = some d → ∃ i j, a = .int i ∧ b = .int j ∧ C i j ∧ d = .int (f i j)) : Op2 K ca (rI C fun i j => .int (f i j)) g := by
  intro H L N x y dx dy d Q fr hx hy e hq
  obtain ⟨i, j, rfl, rfl, c, rfl⟩ := hg _ _ _ e
  exact ⟨i, j, hx.int, hy.int, c, hq _ H (Ex.refl H) (.int _)⟩
theorem op2_rB {f : Int → Int → Bool} {g : D → D → Option D} (hg : ∀ a b d, g a b = some d → ∃ i j, a = .int i ∧ b = .int j ∧ d = .bl (f i j)) : Op2 K ca (rI0 fun i j => .bl (f i j)) g := by
  intro H L N x y dx dy d Q fr hx hy e hq
  obtain ⟨i, j, rfl, rfl, rfl⟩ := hg _ _ _ e
  exact ⟨i, j, hx.int, hy.int, hq _ H (Ex.refl H) (.bl _)⟩
theorem op2_addI : Op2 K ca (rI0 fun i j => .int (i + j)) addI := op2_rI0 fun a b d h => by
  cases a <;> cases b <;> simp only [addI, reduceCtorEq, Option.some.injEq] at h
  exact ⟨_, _, rfl, rfl, h.symm⟩
def rAddStr : R2 := fun x y H Q => ∃ i j, x = .str i ∧ y = .str j ∧ i.length + j.length ≤ sizeLine ∧ Q (.str (i ++ j)) H
theorem op2_addS : Op2 K ca rAddStr addS := by
  intro H L N x y dx dy d Q fr hx hy e hq
  cases dx <;> cases dy <;> simp only [addS, reduceCtorEq] at e
  split at e
  · rename_i z
    cases e
    exact ⟨_, _, hx.str, hy.str, line_le z, hq _ H (Ex.refl H) (.str _)⟩
  · cases e
theorem op2_addL : Op2 K ca rCat addL := by
  intro H L N x y dx dy d Q fr hx hy e hq
  cases dx <;> cases dy <;> simp only [addL, reduceCtorEq] at e
  split at e
  · rename_i z
    cases e
    obtain ⟨a, xs, rfl, h1, r1⟩ := hx.lst
    obtain ⟨b, ys, rfl, h2, r2⟩ := hy.lst
    exact ⟨a, b, xs, ys, rfl, rfl, h1, h2, line_le (by rw [r1.length, r2.length]; exact z), fun p hp => hq _ _ (Ex.new hp) (new_lst hp (fr p hp) (r1.append r2))⟩
  · cases e
theorem RpA.nil_iff {F : Hp} {xs : List V} {ds : List D} (r : RpA K ca F xs ds) : xs = [] ↔ ds = [] := by
  cases r <;> simp
theorem op2_addT : Op2 K ca (rCatA K) addT := by
  intro H L N x y dx dy d Q fr hx hy e hq
  cases dx <;> cases dy <;> simp only [addT, reduceCtorEq] at e
  split at e
  · rename_i z
    cases e
    obtain ⟨a, xs, rfl, h1, r1⟩ := hx.tup
    obtain ⟨b, ys, rfl, h2, r2⟩ := hy.tup
    refine ⟨a, b, xs, ys, rfl, rfl, ex_t (frz_ex H L) h1, ex_t (frz_ex H L) h2, line_le (by rw [r1.length, r2.length]; exact z), fun q => ?_, fun _ q => ?_, fun _ _ p hp => hq _ _ (Ex.new hp) (new_tup hp (fr p hp) (r1.append r2))⟩
    · rw [r1.nil_iff.mp q, List.nil_append] at hq
      exact hq _ H (Ex.refl H) (.tup h2 r2)
    · rw [r2.nil_iff.mp q, List.append_nil] at hq
      exact hq _ H (Ex.refl H) (.tup h1 r1)
  · cases e
def rAddD (K : PySem.W.Frag) : R2 := fun x y H Q => rI0 (fun i j => .int (i + j)) x y H Q ∨ (rAddStr x y H Q ∨ (rCat x y H Q ∨ rCatA K x y H Q))
theorem op2_add : Op2 K ca (rAddD K) addD := op2_addI.or (op2_addS.or (op2_addL.or op2_addT))
theorem op_addD {X : Cx} : OpR X (binaryOp .Add) (rAddD X.K) := op_add.or (op_add_str.or (op_cat.or op_catA))
/-- - -/
def subD : D → D → Option D | .int a, .int b => some (.int (a - b)) | _, _ => none
theorem op2_sub : Op2 K ca (rI0 fun i j => .int (i - j)) subD := op2_rI0 fun a b d h => by
  cases a <;> cases b <;> simp only [subD, reduceCtorEq, Option.some.injEq] at h
  exact ⟨_, _, rfl, rfl, h.symm⟩
/-- * -/
def mulI : D → D → Option D | .int a, .int b => if (-(2 ^ 64) < a ∧ a < 2 ^ 64) ∨ (-(2 ^ 64) < b ∧ b < 2 ^ 64) then some (.int (a * b)) else none | _, _ => none
def mulL : D → D → Option D | .lst a, .int k => if -(2 ^ 63) ≤ k ∧ k < 2 ^ 63 ∧ a.length * k.toNat ≤ LINE then some (.lst (List.replicate k.toNat a).flatten) else none | _, _ => none
def mulT : D → D → Option D | .tup a, .int k => if a ≠ [] ∧ 2 ≤ k ∧ k ≤ 1000 ∧ a.length ≤ 1000 then some (.tup (List.replicate k.toNat a).flatten) else none | _, _ => none
def mulD (a b : D) : Option D := (mulI a b).or ((mulL a b).or (mulT a b))
theorem op2_mulI : Op2 K ca (rI CMul fun i j => .int (i * j)) mulI := op2_rI fun a b d h => by
  cases a <;> cases b <;> simp only [mulI, reduceCtorEq] at h
  split at h
  · rename_i c
    cases h
    exact ⟨_, _, rfl, rfl, c, rfl⟩
  · cases h
theorem RpA.rep {F : Hp} {xs : List V} {ds : List D} (r : RpA K ca F xs ds) : ∀ k : Nat, RpA K ca F (List.replicate k xs).flatten (List.replicate k ds).flatten
  | 0 => .nil
  | k + 1 => by rw [List.replicate_succ, List.replicate_succ, List.flatten_cons, List.flatten_cons]; exact r.append (RpA.rep r k)
theorem op2_mulL : Op2 K ca rRep mulL := by
  intro H L N x y dx dy d Q fr hx hy e hq
  cases dx <;> cases dy <;> simp only [mulL, reduceCtorEq] at e
  split at e
  · rename_i z
    cases e
    obtain ⟨a, xs, rfl, h1, r1⟩ := hx.lst
    exact ⟨a, _, xs, rfl, hy.int, h1, z.1, z.2.1, line_le (by rw [r1.length]; exact z.2.2), fun p hp => hq _ _ (Ex.new hp) (new_lst hp (fr p hp) (r1.rep _))⟩
  · cases e
theorem op2_mulT : Op2 K ca (rRepT K) mulT := by
  intro H L N x y dx dy d Q fr hx hy e hq
  cases dx <;> cases dy <;> simp only [mulT, reduceCtorEq] at e
  split at e
  · rename_i z
    cases e
    obtain ⟨a, xs, rfl, h1, r1⟩ := hx.tup
    exact ⟨a, _, xs, rfl, hy.int, ex_t (frz_ex H L) h1, fun q => z.1 (r1.nil_iff.mp q), z.2.1, z.2.2.1, by rw [r1.length]; exact z.2.2.2, fun p hp => hq _ _ (Ex.new hp) (new_tup hp (fr p hp) (r1.rep _))⟩
  · cases e
def rMulD (K : PySem.W.Frag) : R2 := fun x y H Q => rI CMul (fun i j => .int (i * j)) x y H Q ∨ (rRep x y H Q ∨ rRepT K x y H Q)
theorem op2_mul : Op2 K ca (rMulD K) mulD := op2_mulI.or (op2_mulL.or op2_mulT)
theorem op_mulD {X : Cx} : OpR X (binaryOp .Mult) (rMulD X.K) := op_mul.or (op_rep.or op_repT)
/-- //, % -/
def fdivD : D → D → Option D | .int a, .int b => if 0 < b ∧ b < 1073741824 then some (.int (a / b)) else none | _, _ => none
def modD : D → D → Option D | .int a, .int b => if 0 < b then some (.int (a % b)) else none | _, _ => none
def powD : D → D → Option D | .int a, .int b => if 0 ≤ b ∧ b ≤ 1000000 ∧ a.natAbs < 2 ^ 64 then some (.int (a ^ b.toNat)) else none | _, _ => none
theorem op2_fdiv : Op2 K ca (rI CDiv fun i j => .int (i / j)) fdivD := op2_rI fun a b d h => by
  cases a <;> cases b <;> simp only [fdivD, reduceCtorEq] at h
  split at h
  · rename_i c
    cases h
    exact ⟨_, _, rfl, rfl, c, rfl⟩
  · cases h
theorem op2_mod : Op2 K ca (rI (fun _ j => 0 < j) fun i j => .int (i % j)) modD := op2_rI fun a b d h => by
  cases a <;> cases b <;> simp only [modD, reduceCtorEq] at h
  split at h
  · rename_i c
    cases h
    exact ⟨_, _, rfl, rfl, c, rfl⟩
  · cases h
theorem op2_pow : Op2 K ca (rI CPow fun i j => .int (i ^ j.toNat)) powD := op2_rI fun a b d h => by
  cases a <;> cases b <;> simp only [powD, reduceCtorEq] at h
  split at h
  · rename_i c
    cases h
    exact ⟨_, _, rfl, rfl, c, rfl⟩
  · cases h
/-- < <= > >= of ints -/
def ltD : D → D → Option D | .int a, .int b => some (.bl (decide (a < b))) | _, _ => none
def leD : D → D → Option D | .int a, .int b => some (.bl (decide (a ≤ b))) | _, _ => none
def gtD : D → D → Option D | .int a, .int b => some (.bl (decide (b < a))) | _, _ => none
def geD : D → D → Option D | .int a, .int b => some (.bl (decide (b ≤ a))) | _, _ => none
theorem op2_lt : Op2 K ca (rI0 fun i j => .bl (decide (i < j))) ltD := op2_rB fun a b d h => by
  cases a <;> cases b <;> simp only [ltD, reduceCtorEq, Option.some.injEq] at h
  exact ⟨_, _, rfl, rfl, h.symm⟩
theorem op2_le : Op2 K ca (rI0 fun i j => .bl (decide (i ≤ j))) leD := op2_rB fun a b d h => by
  cases a <;> cases b <;> simp only [leD, reduceCtorEq, Option.some.injEq] at h
  exact ⟨_, _, rfl, rfl, h.symm⟩
theorem op2_gt : Op2 K ca (rI0 fun i j => .bl (decide (j < i))) gtD := op2_rB fun a b d h => by
  cases a <;> cases b <;> simp only [gtD, reduceCtorEq, Option.some.injEq] at h
  exact ⟨_, _, rfl, rfl, h.symm⟩
theorem op2_ge : Op2 K ca (rI0 fun i j => .bl (decide (j ≤ i))) geD := op2_rB fun a b d h => by
  cases a <;> cases b <;> simp only [geD, reduceCtorEq, Option.some.injEq] at h
  exact ⟨_, _, rfl, rfl, h.symm⟩
/-! == of data at any depth -/
mutual
def toPy : D → Option PyData
  | .non => some .none
  | .bl b => some (.bool b)
  | .int i => some (.int i)
  | .str s => some (.str s)
  | .tup xs => (toPyA xs).map .tuple
  | .lst xs => (toPyA xs).map .list
  | .scr ns => some (.list (ns.map .int))
  | .dic _ _ => none
  | .ins _ _ _ => none
  | .cls _ => none
  | .exn _ _ _ => none
def toPyA : List D → Option (List PyData)
  | [] => some []
  | d :: r => (toPy d).bind fun p => (toPyA r).map fun q => p :: q
end
theorem dp_ints {F : Hp} : ∀ ns : List Int, DpAll K F (ns.map V.int) (ns.map PyData.int)
  | [] => .nil
  | n :: r => .cons (.int n) (dp_ints r)
mutual
theorem Rp.dp {F : Hp} : ∀ {v : V} {d : D} {p : PyData}, Rp K ca F v d → toPy d = some p → Dp K F v p
  | _, _, _, .non, e => by cases e; exact .non
  | _, _, _, .bl b, e => by cases e; exact .bl b
  | _, _, _, .int i, e => by cases e; exact .int i
  | _, _, _, .str x, e => by cases e; exact .str x
  | _, _, _, .tup h r, e => by
    simp only [toPy, Option.map_eq_some_iff] at e
    obtain ⟨q, e1, rfl⟩ := e
    exact .tup h (RpA.dp r e1)
  | _, _, _, .lst h r, e => by
    simp only [toPy, Option.map_eq_some_iff] at e
    obtain ⟨q, e1, rfl⟩ := e
    exact .lst (SqL.of h) (RpA.dp r e1)
  | _, _, _, .scr h, e => by cases e; exact .lst h (dp_ints _)
  | _, _, _, .dic h r, e => by cases e
  | _, _, _, .ins h c r, e => by cases e
  | _, _, _, .cls c, e => by cases e
  | _, _, _, .exn0 _ _, e => by cases e
  | _, _, _, .exnD _ _ _ _, e => by cases e
theorem RpA.dp {F : Hp} : ∀ {vs : List V} {ds : List D} {ps : List PyData}, RpA K ca F vs ds → toPyA ds = some ps → DpAll K F vs ps
  | _, _, _, .nil, e => by cases e; exact .nil
  | _, _, _, .cons h r, e => by
    simp only [toPyA, Option.bind_eq_some_iff, Option.map_eq_some_iff] at e
    obtain ⟨p, e1, q, e2, rfl⟩ := e
    exact .cons (Rp.dp h e1) (RpA.dp r e2)
end
def eqP (a b : D) : Option Bool := (toPy a).bind fun p => (toPy b).bind fun q => if SeqAt.shaped p && SeqAt.shaped q then some (PyData.eqv p q) else none
def eqD (a b : D) : Option D := (eqP a b).map .bl
def neD (a b : D) : Option D := (eqP a b).map fun k => .bl (!k)
theorem eqP_some {a b : D} {k : Bool} (h : eqP a b = some k) : ∃ p q, toPy a = some p ∧ toPy b = some q ∧ SeqAt.shaped p = true ∧ SeqAt.shaped q = true ∧ k = PyData.eqv p q := by
  unfold eqP at h
  simp only [Option.bind_eq_some_iff] at h
  obtain ⟨p, e1, q, e2, h⟩ := h
  split at h
  · rename_i s
    cases h
    rw [Bool.and_eq_true] at s
    exact ⟨p, q, e1, e2, s.1, s.2, rfl⟩
  · cases h
theorem op2_eq : Op2 K ca (rEqD K) eqD := by
  intro H L N x y dx dy d Q fr hx hy e hq
  simp only [eqD, Option.map_eq_some_iff] at e
  obtain ⟨k, e, rfl⟩ := e
  obtain ⟨p, q, e1, e2, s1, s2, rfl⟩ := eqP_some e
  exact ⟨p, q, hx.rp.dp e1, hy.rp.dp e2, s1, s2, hq _ H (Ex.refl H) (.bl _)⟩
theorem op2_ne : Op2 K ca (rNeD K) neD := by
  intro H L N x y dx dy d Q fr hx hy e hq
  simp only [neD, Option.map_eq_some_iff] at e
  obtain ⟨k, e, rfl⟩ := e
  obtain ⟨p, q, e1, e2, s1, s2, rfl⟩ := eqP_some e
  exact ⟨p, q, hx.rp.dp e1, hy.rp.dp e2, s1, s2, hq _ H (Ex.refl H) (.bl _)⟩
/-! ### subscripts -/
theorem RpA.atI {F : Hp} {xs : List V} {ds : List D} {i : Int} {d : D} (r : RpA K ca F xs ds) (h : L2.atI ds i = some d) : ∃ v, L2.atI xs i = some v ∧ Rp K ca F v d := by
  unfold L2.atI at h ⊢
  rw [r.length]
  cases e : ixN ds.length i with
  | none => rw [e] at h; cases h
  | some j =>
    rw [e] at h
    obtain ⟨v, e1, q⟩ := r.get h
    exact ⟨v, e1, q⟩
def idxL : D → D → Option D | .lst ds, .int i => L2.atI ds i | .scr ns, .int i => (L2.atI ns i).map .int | _, _ => none
def idxT : D → D → Option D | .tup ds, .int i => L2.atI ds i | _, _ => none
def idxS : D → D → Option D | .str z, .int i => if z.length ≤ LINE then (L2.atI z.cps.toList i).map fun c => .str ⟨#[c]⟩ else none | _, _ => none
def idxD (a b : D) : Option D := (idxL a b).or ((idxT a b).or (idxS a b))
theorem atI_map {α β : Type} (f : α → β) (xs : List α) (i : Int) : L2.atI (xs.map f) i = (L2.atI xs i).map f := by
  unfold L2.atI
  rw [List.length_map]
  cases ixN xs.length i with
  | none => rfl
  | some j => simp
theorem op2_idxL : Op2 K ca (rIxL K) idxL := by
  intro H L N x y dx dy d Q fr hx hy e hq
  cases dy <;> cases dx <;> simp only [idxL, reduceCtorEq] at e
  · obtain ⟨a, xs, rfl, h1, r1⟩ := hx.lst
    obtain ⟨v, e1, q⟩ := r1.atI e
    exact ⟨a, xs, _, v, rfl, hy.int, SqL.of h1, e1, hq _ H (Ex.refl H) q⟩
  · obtain ⟨a, rfl, h1⟩ := hx.scr
    simp only [Option.map_eq_some_iff] at e
    obtain ⟨n, e, rfl⟩ := e
    exact ⟨a, _, _, .int n, rfl, hy.int, ex_l (frz_ex H L) h1, by rw [atI_map, e]; rfl, hq _ H (Ex.refl H) (.int n)⟩
theorem op2_idxT : Op2 K ca (rIxT K) idxT := by
  intro H L N x y dx dy d Q fr hx hy e hq
  cases dy <;> cases dx <;> simp only [idxT, reduceCtorEq] at e
  obtain ⟨a, xs, rfl, h1, r1⟩ := hx.tup
  obtain ⟨v, e1, q⟩ := r1.atI e
  exact ⟨a, xs, _, v, rfl, hy.int, ex_t (frz_ex H L) h1, e1, hq _ H (Ex.refl H) q⟩
theorem op2_idxS : Op2 K ca rIxS idxS := by
  intro H L N x y dx dy d Q fr hx hy e hq
  cases dy <;> cases dx <;> simp only [idxS, reduceCtorEq] at e
  split at e
  · rename_i z
    simp only [Option.map_eq_some_iff] at e
    obtain ⟨c, e, rfl⟩ := e
    exact ⟨_, _, c, hx.str, hy.int, line_le z, e, hq _ H (Ex.refl H) (.str _)⟩
  · cases e
theorem op2_idx : Op2 K ca (rIx K) idxD := op2_idxL.or (op2_idxT.or op2_idxS)
/-- slices -/
def cutG {α : Type} (xs : List α) (lo hi : Option Int) : List α := (xs.drop (HT.sIx xs.length 0 lo)).take (HT.sIx xs.length xs.length hi - HT.sIx xs.length 0 lo)
theorem RpA.cut {F : Hp} {xs : List V} {ds : List D} (r : RpA K ca F xs ds) (lo hi : Option Int) : RpA K ca F (cutV xs lo hi) (cutG ds lo hi) := by
  unfold cutV cutG
  rw [r.length]
  exact (r.drop _).take _
def slcD (x : D) (lo hi : Option Int) : Option D := match x with
  | .lst ds => some (.lst (cutG ds lo hi))
  | .tup ds => some (.tup (cutG ds lo hi))
  | .scr ns => some (.lst ((cutG ns lo hi).map .int))
  | .str z => if z.length ≤ LINE then some (.str (cutS z lo hi)) else none
  | _ => none
def rSlD (K : PySem.W.Frag) : V → Option Int → Option Int → Hp → VK → Prop := fun x lo hi H Q => rSlL K x lo hi H Q ∨ (rSlA K x lo hi H Q ∨ rSlS x lo hi H Q)
theorem sl_D {X : Cx} : SlR X (rSlD X.K) := sl_list.or (sl_tupA.or sl_str)
theorem cut_whole {α : Type} (xs : List α) (lo hi : Option Int) (h : HT.sIx xs.length 0 lo = 0 ∧ HT.sIx xs.length xs.length hi = xs.length) : cutG xs lo hi = xs := by
  unfold cutG
  rw [h.1, h.2]
  simp
theorem cutV_map (ns : List Int) (lo hi : Option Int) : cutV (ns.map V.int) lo hi = (cutG ns lo hi).map V.int := by
  unfold cutV cutG
  rw [List.length_map, ← List.map_drop, ← List.map_take]
theorem slc_ok {H : Hp} {L N : List Addr} {x : V} {dx d : D} {lo hi : Option Int} {Q : VK} (fr : ∀ p, H p = none → p ∉ L) (hx : Rb K ca H L N x dx) (e : slcD dx lo hi = some d)
    (hq : ∀ v H', Ex H H' → Rp K ca (Frz H' L) v d → Q v H') : rSlD K x lo hi H Q := by
  cases dx <;> simp only [slcD, reduceCtorEq, Option.some.injEq] at e
  · split at e
    · rename_i z
      cases e
      exact .inr (.inr ⟨_, hx.str, line_le z, hq _ H (Ex.refl H) (.str _)⟩)
    · cases e
  · subst e
    obtain ⟨a, xs, rfl, h1, r1⟩ := hx.tup
    refine .inr (.inl ⟨a, xs, rfl, ex_t (frz_ex H L) h1, fun w => ?_, fun _ p hp => hq _ _ (Ex.new hp) (new_tup hp (fr p hp) (r1.cut lo hi))⟩)
    refine hq _ H (Ex.refl H) (.tup h1 ?_)
    rw [r1.length] at w
    rw [cut_whole _ _ _ w]
    exact r1
  · subst e
    obtain ⟨a, xs, rfl, h1, r1⟩ := hx.lst
    exact .inl ⟨a, xs, rfl, SqL.of h1, fun p hp => hq _ _ (Ex.new hp) (new_lst hp (fr p hp) (r1.cut lo hi))⟩
  · subst e
    obtain ⟨a, rfl, h1⟩ := hx.scr
    refine .inl ⟨a, _, rfl, ex_l (frz_ex H L) h1, fun p hp => hq _ _ (Ex.new hp) (new_lst hp (fr p hp) ?_)⟩
    rw [cutV_map]
    exact RpA.ofInts _
end
end PL
set_option Elab.async false
set_option linter.all false
set_option maxRecDepth 100000
set_option maxHeartbeats 4000000
namespace PL
open PySem PySem.Spec PyProof.Rows L2
abbrev FE := Env → List D → R (D × List D)
abbrev FA := Env → List D → R (List D × List D)
abbrev FT := Env → List D → R (Bool × List D)
/-- a name's value -/
def lk (ρ : Env) (i : Nat) : R D := R.of (ρ[i]?.join)
section
variable {X : Cx} {z : Z} {O : List Nat} {EX : EXT} {a b c e : Expr} {es : List Expr} {f g h : FE} {pos : Pos}
/-! ### constants and names -/
theorem evE_c {v : V} {d : D} (r : ∀ F, Rp z.K z.ca F v d) : EvE z O EX (tC v) (fun _ S => R.ok (d, S)) := fun B P σ H ρ S Q hP rr hs => hs v H Grow.refl rr (r _)
theorem pd_int {i j pos} : PD X z O EX (.Constant (.int i) j pos) (fun _ S => R.ok (.int i, S)) := ⟨_, pe_int, evE_c fun _ => .int i⟩
theorem pd_bl {i j pos} : PD X z O EX (.Constant (.bool i) j pos) (fun _ S => R.ok (.bl i, S)) := ⟨_, pe_bl, evE_c fun _ => .bl i⟩
theorem pd_non {j pos} : PD X z O EX (.Constant .none j pos) (fun _ S => R.ok (.non, S)) := ⟨_, pe_non, evE_c fun _ => .non⟩
theorem pd_str {i j pos} : PD X z O EX (.Constant (.str i) j pos) (fun _ S => R.ok (.str i, S)) := ⟨_, pe_str, evE_c fun _ => .str i⟩
theorem lk_get {ρ : Env} {i : Nat} {d : D} (h : ρ[i]?.join = some d) : ρ[i]? = some (some d) := by
  cases e : ρ[i]? with
  | none => rw [e] at h; cases h
  | some o => rw [e] at h; cases o with
    | none => cases h
    | some u => cases h; rfl
theorem pd_name (i : Nat) (hi : O.all (· != i) = true := by rfl) {x : Str} (hN : X.N[i]? = some x := by rfl) (hv : Vis X.env.scope x := by first | exact Or.inl rfl | exact Or.inr (Or.inl rfl) | exact Or.inr (Or.inr rfl))
    (hd : (x == ("__debug__" : Str)) = false := by decide) (hcd : (x == ("__classdict__" : Str)) = false := by decide) : PD X z O EX (.Name x pos) (fun ρ S => lk ρ i >>= fun d => R.ok (d, S)) := by
  refine ⟨_, pe_var hN hv hd hcd, fun B P σ H ρ S Q hP rr hs => ?_⟩
  obtain ⟨d, hd, hq⟩ := sat_of (sat_bind.mp hs)
  obtain ⟨v, e, r⟩ := rr.val i d (fun p hp q => by
    have hm : p.1 ∈ O := by rw [← hP]; exact List.mem_map_of_mem hp
    have := List.all_eq_true.mp hi p.1 hm
    rw [q] at this
    simp at this) (lk_get hd)
  exact ⟨v, e, hq v H Grow.refl rr r⟩
/-- an owned list, looked at -/
theorem pb_own (i : Nat) (hi : O.contains i = true := by rfl) {x : Str} (hN : X.N[i]? = some x := by rfl) (hv : Vis X.env.scope x := by first | exact Or.inl rfl | exact Or.inr (Or.inl rfl) | exact Or.inr (Or.inr rfl))
    (hd : (x == ("__debug__" : Str)) = false := by decide) (hcd : (x == ("__classdict__" : Str)) = false := by decide) : PB X z O EX (.Name x pos) (fun ρ S => lk ρ i >>= fun d => R.ok (d, S)) := by
  refine ⟨_, pe_var hN hv hd hcd, fun B P σ H ρ S Q hP rr hs => ?_⟩
  obtain ⟨d, hd, hq⟩ := sat_of (sat_bind.mp hs)
  have hm : i ∈ P.map (·.1) := by rw [hP]; simpa using hi
  obtain ⟨p, hp, e⟩ := List.mem_map.mp hm
  obtain ⟨e1, xs, ds, e2, e3, q⟩ := rr.own p hp
  rw [e] at e1 e3
  have e4 := lk_get hd
  rw [e3] at e4
  cases e4
  refine ⟨_, e1, hq _ H Grow.refl rr (.inr ⟨p.2, xs, ds, rfl, rfl, fun n => ?_, e2, q⟩)⟩
  have nd := rr.nd
  unfold Z.L at nd
  exact (List.nodup_append.mp nd).2.2 p.2 (List.mem_map_of_mem hp) p.2 (List.mem_append_left _ n) rfl
/-! ### operators -/
def bin2 (g2 : D → D → Option D) (f g : FE) : FE := fun ρ S => f ρ S >>= fun x => g ρ x.2 >>= fun y => R.of (g2 x.1 y.1) >>= fun d => R.ok (d, y.2)
theorem ev_bin {ta tb : TE} {r : R2} {g2 : D → D → Option D} (e1 : EvB z O EX ta f) (e2 : EvB z O EX tb g) (hg : Op2 z.K z.ca r g2) : EvE z O EX (tOp r ta tb) (bin2 g2 f g) := by
  intro B P σ H ρ S Q hP rr hs
  refine e1 B P σ H ρ S _ hP rr ((sat_bind.mp hs).imp fun x hx v H1 g1 r1 hv => ?_)
  refine e2 B P σ H1 ρ x.2 _ hP r1 ((sat_bind.mp hx).imp fun y hy u H2 g2' r2 hu => ?_)
  obtain ⟨d, hd, hq⟩ := sat_of (sat_bind.mp hy)
  exact hg H2 (z.L B P) z.pls v u x.1 y.1 d Q (fun p hp => r2.fresh hp) (hv.grow g2') hu hd fun w H' e' hw => hq w H' ((g1.trans g2').trans (Grow.of e')) (r2.grow e') hw
theorem pd_op {op : Operator} {r : R2} {g2 : D → D → Option D} (ho : OpR X (binaryOp op) r) (hg : Op2 z.K z.ca r g2) (ha : PB X z O EX a f) (hb : PB X z O EX b g) : PD X z O EX (.BinOp a op b pos) (bin2 g2 f g) := by
  obtain ⟨ta, p1, e1⟩ := ha.ex
  obtain ⟨tb, p2, e2⟩ := hb.ex
  exact ⟨_, pe_op ho p1 p2, ev_bin e1 e2 hg⟩
theorem pd_add (hK : X.K = z.K) (ha : PB X z O EX a f) (hb : PB X z O EX b g) : PD X z O EX (.BinOp a .Add b pos) (bin2 addD f g) := pd_op (hK ▸ op_addD) op2_add ha hb
theorem pd_sub (ha : PB X z O EX a f) (hb : PB X z O EX b g) : PD X z O EX (.BinOp a .Sub b pos) (bin2 subD f g) := pd_op op_sub op2_sub ha hb
theorem pd_mul (hK : X.K = z.K) (ha : PB X z O EX a f) (hb : PB X z O EX b g) : PD X z O EX (.BinOp a .Mult b pos) (bin2 mulD f g) := pd_op (hK ▸ op_mulD) op2_mul ha hb
theorem pd_fdiv (ha : PB X z O EX a f) (hb : PB X z O EX b g) : PD X z O EX (.BinOp a .FloorDiv b pos) (bin2 fdivD f g) := pd_op op_fdiv op2_fdiv ha hb
theorem pd_mod (ha : PB X z O EX a f) (hb : PB X z O EX b g) : PD X z O EX (.BinOp a .Mod b pos) (bin2 modD f g) := pd_op op_mod op2_mod ha hb
theorem pd_pow (ha : PB X z O EX a f) (hb : PB X z O EX b g) : PD X z O EX (.BinOp a .Pow b pos) (bin2 powD f g) := pd_op op_pow op2_pow ha hb
/-- -a -/
def negD : D → Option D | .int i => some (.int (-i)) | _ => none
def un1 (g1 : D → Option D) (f : FE) : FE := fun ρ S => f ρ S >>= fun x => R.of (g1 x.1) >>= fun d => R.ok (d, x.2)
theorem pd_neg (ha : PB X z O EX a f) : PD X z O EX (.UnaryOp .USub a pos) (un1 negD f) := by
  obtain ⟨ta, p1, e1⟩ := ha.ex
  refine ⟨_, pe_un un_neg p1, fun B P σ H ρ S Q hP rr hs => ?_⟩
  refine e1 B P σ H ρ S _ hP rr ((sat_bind.mp hs).imp fun x hx v H1 g1 r1 hv => ?_)
  obtain ⟨d, hd, hq⟩ := sat_of (sat_bind.mp hx)
  obtain ⟨x1, x2⟩ := x
  cases x1 <;> simp only [negD, reduceCtorEq, Option.some.injEq] at hd
  subst hd
  exact ⟨_, hv.int, hq _ H1 g1 r1 (.int _)⟩
/-- one comparison as a value -/
theorem pd_cmp {op : CmpOp} {r : R2} {g2 : D → D → Option D} (ho : OpR X (compareOp op) r) (hg : Op2 z.K z.ca r g2) (ha : PB X z O EX a f) (hb : PB X z O EX b g) (hm : behindInMarks op b = false) : PD X z O EX (.Compare a [op] [b] pos) (bin2 g2 f g) := by
  obtain ⟨ta, p1, e1⟩ := ha.ex
  obtain ⟨tb, p2, e2⟩ := hb.ex
  exact ⟨_, pe_cmpR ho p1 p2 hm, ev_bin e1 e2 hg⟩
theorem pd_lt (ha : PB X z O EX a f) (hb : PB X z O EX b g) : PD X z O EX (.Compare a [.Lt] [b] pos) (bin2 ltD f g) := pd_cmp op_lt op2_lt ha hb (nomark _)
theorem pd_eq (hK : X.K = z.K) (hu : X.A.units + 64 < cLine) (ha : PB X z O EX a f) (hb : PB X z O EX b g) : PD X z O EX (.Compare a [.Eq] [b] pos) (bin2 eqD f g) := pd_cmp (hK ▸ op_eqD hu) op2_eq ha hb (nomark _)
/-- a op b op' c -/
def chn (g2 g3 : D → D → Option D) (f g h : FE) : FE := fun ρ S => f ρ S >>= fun x => g ρ x.2 >>= fun y => R.of (g2 x.1 y.1) >>= fun d => match d with
  | .bl true => h ρ y.2 >>= fun w => R.of (g3 y.1 w.1) >>= fun d' => R.ok (d', w.2)
  | .bl false => R.ok (.bl false, y.2)
  | _ => R.bad
theorem pd_chain {op op' : CmpOp} {r r' : R2} {g2 g3 : D → D → Option D} (ho : OpR X (compareOp op) r) (ho' : OpR X (compareOp op') r') (hg : Op2 z.K z.ca r g2) (hg' : Op2 z.K z.ca r' g3)
    (ha : PB X z O EX a f) (hb : PB X z O EX b g) (hc : PB X z O EX c h) (hm : lastMarks [op, op'] [b, c] = false := by with_unfolding_all rfl) : PD X z O EX (.Compare a [op, op'] [b, c] pos) (chn g2 g3 f g h) := by
  obtain ⟨ta, p1, e1⟩ := ha.ex
  obtain ⟨tb, p2, e2⟩ := hb.ex
  obtain ⟨tc, p3, e3⟩ := hc.ex
  refine ⟨_, pe_chain ho ho' p1 p2 p3 hm, fun B P σ H ρ S Q hP rr hs => ?_⟩
  refine e1 B P σ H ρ S _ hP rr ((sat_bind.mp hs).imp fun x hx v H1 g1 r1 hv => ?_)
  refine e2 B P σ H1 ρ x.2 _ hP r1 ((sat_bind.mp hx).imp fun y hy u H2 g2' r2 hu => ?_)
  obtain ⟨d, hd, hq⟩ := sat_of (sat_bind.mp hy)
  refine hg H2 (z.L B P) z.pls v u x.1 y.1 d _ (fun p hp => r2.fresh hp) (hv.grow g2') hu hd fun w H3 e3' hw => ?_
  cases d with
  | bl k =>
    cases hw
    refine ⟨k, rfl, ?_⟩
    cases k with
    | true =>
      rw [if_pos rfl]
      have hq : Sat (h ρ y.2 >>= fun w => R.of (g3 y.1 w.1) >>= fun d' => R.ok (d', w.2)) (fun r => ∀ v H', Grow z H H' → Rel z B P σ H' ρ r.2 → Rp z.K z.ca (Frz H' (z.L B P)) v r.1 → Q v H') EX := hq
      refine e3 B P σ H3 ρ y.2 _ hP (r2.grow e3') ((sat_bind.mp hq).imp fun w hw w' H4 g4 r4 hw' => ?_)
      obtain ⟨d', hd', hq'⟩ := sat_of (sat_bind.mp hw)
      exact hg' H4 (z.L B P) z.pls u w' y.1 w.1 d' Q (fun p hp => r4.fresh hp) ((hu.grow (Grow.of e3')).grow g4) hw' hd' fun w5 H5 e5 hw5 =>
        hq' w5 H5 (((g1.trans g2').trans (Grow.of e3')).trans (g4.trans (Grow.of e5))) (r4.grow e5) hw5
    | false =>
      rw [if_neg Bool.false_ne_true]
      exact hq _ H3 ((g1.trans g2').trans (Grow.of e3')) (r2.grow e3') (.bl false)
  | _ => exact hq.elim
/-! ### tests -/
def EvT (z : Z) (O : List Nat) (EX : EXT) (t : TT) (f : FT) : Prop :=
  ∀ B P σ H ρ S Q, P.map (·.1) = O → Rel z B P σ H ρ S →
    Sat (f ρ S) (fun r => ∀ H', Grow z H H' → Rel z B P σ H' ρ r.2 → Q r.1 H') EX → t σ H Q
structure PTd (X : Cx) (z : Z) (O : List Nat) (EX : EXT) (e : Expr) (f : FT) : Prop where
  ex : ∃ t, PT X e t ∧ EvT z O EX t f
structure PWd (X : Cx) (z : Z) (O : List Nat) (EX : EXT) (e : Expr) (f : FT) : Prop where
  ex : ∃ t, PW X e t ∧ EvT z O EX t f
theorem PWd.pt {f : FT} (h : PWd X z O EX e f) : PTd X z O EX e f := by
  obtain ⟨t, p, q⟩ := h.ex
  exact ⟨t, p.pt, q⟩
/-- a value's truth -/
def truD : D → Option Bool
  | .non => some false
  | .bl b => some b
  | .int i => some (i != 0)
  | .str y => if y.length ≤ LINE then some ((y.length : Int) != 0) else none
  | .tup xs => some (!xs.isEmpty)
  | .lst xs => some (!xs.isEmpty)
  | .scr xs => some (!xs.isEmpty)
  | .dic ks _ => some (!ks.isEmpty)
  | .ins _ _ _ => none
  | .cls _ => none
  | .exn _ _ _ => none
theorem RpA.isEmpty {K : PySem.W.Frag} {ca : Str → Option Addr} {F : Hp} {xs : List V} {ds : List D} (r : RpA K ca F xs ds) : xs.isEmpty = ds.isEmpty := by cases r <;> rfl
theorem tru_rp {K : PySem.W.Frag} {ca : Str → Option Addr} {H : Hp} {v : V} {d : D} {k : Bool} (h : Rp K ca H v d) (e : truD d = some k) : TruV K v H k := by
  cases h with
  | non => cases e; rfl
  | bl b => cases e; rfl
  | int i => cases e; rfl
  | str x =>
    simp only [truD] at e
    split at e
    · rename_i w
      cases e
      exact ⟨line_le w, rfl⟩
    · cases e
  | tup h r => cases e; exact .inr (.inl ⟨_, h, by rw [r.isEmpty]⟩)
  | lst h r => cases e; exact .inl ⟨_, SqL.of h, by rw [r.isEmpty]⟩
  | scr h => cases e; exact .inl ⟨_, h, by simp⟩
  | dic h r => cases e; exact .inr (.inr ⟨_, h, by simp⟩)
  | ins h c r => cases e
  | cls h => cases e
  | exn0 _ _ => cases e
  | exnD _ _ _ _ => cases e
def tst (f : FE) : FT := fun ρ S => f ρ S >>= fun x => R.of (truD x.1) >>= fun k => R.ok (k, x.2)
/-- the truth of a value of any kind -/
theorem pt_tru (hK : X.K = z.K) (ha : PB X z O EX a f) (he : ∀ whole, isTrue a X.env whole = (do let v ← whole; standAt a.pos; holding [v] (truthy v)) := by intro _; rfl) : PTd X z O EX a (tst f) := by
  obtain ⟨ta, p1, e1⟩ := ha.ex
  refine ⟨_, pt_truth p1 he, fun B P σ H ρ S Q hP rr hs => ?_⟩
  refine e1 B P σ H ρ S _ hP rr ((sat_bind.mp hs).imp fun x hx v H1 g1 r1 hv => ?_)
  obtain ⟨d, hd, hq⟩ := sat_of (sat_bind.mp hx)
  exact ⟨d, hK ▸ tru_rp hv.rp hd, hq H1 g1 r1⟩
def tstB (f : FE) : FT := fun ρ S => f ρ S >>= fun x => match x.1 with
  | .bl k => R.ok (k, x.2)
  | _ => R.bad
theorem evT_test {t : TE} (e1 : EvE z O EX t f) : EvT z O EX (tTest t) (tstB f) := fun B P σ H ρ S Q hP rr hs => by
  refine e1 B P σ H ρ S _ hP rr ((sat_bind.mp hs).imp fun x hx v H1 g1 r1 hv => ?_)
  obtain ⟨x1, x2⟩ := x
  cases x1 with
  | bl k => cases hv; exact ⟨k, rfl, hx H1 g1 r1⟩
  | _ => exact hx.elim
/-- one comparison as a test -/
theorem pt_cmp1 {op : CmpOp} {r : R2} {g2 : D → D → Option D} (ho : OpR X (compareOp op) r) (hg : Op2 z.K z.ca r g2) (ha : PB X z O EX a f) (hb : PB X z O EX b g) (hm : behindInMarks op b = false) : PTd X z O EX (.Compare a [op] [b] pos) (tstB (bin2 g2 f g)) := by
  obtain ⟨ta, p1, e1⟩ := ha.ex
  obtain ⟨tb, p2, e2⟩ := hb.ex
  exact ⟨_, pt_cmpR ho p1 p2 hm, evT_test (ev_bin e1 e2 hg)⟩
theorem pt_lt (ha : PB X z O EX a f) (hb : PB X z O EX b g) : PTd X z O EX (.Compare a [.Lt] [b] pos) (tstB (bin2 ltD f g)) := pt_cmp1 op_lt op2_lt ha hb (nomark _)
theorem pt_gt (ha : PB X z O EX a f) (hb : PB X z O EX b g) : PTd X z O EX (.Compare a [.Gt] [b] pos) (tstB (bin2 gtD f g)) := pt_cmp1 op_gt op2_gt ha hb (nomark _)
theorem pt_ge (ha : PB X z O EX a f) (hb : PB X z O EX b g) : PTd X z O EX (.Compare a [.GtE] [b] pos) (tstB (bin2 geD f g)) := pt_cmp1 op_ge op2_ge ha hb (nomark _)
theorem pt_eq (hK : X.K = z.K) (hu : X.A.units + 64 < cLine) (ha : PB X z O EX a f) (hb : PB X z O EX b g) : PTd X z O EX (.Compare a [.Eq] [b] pos) (tstB (bin2 eqD f g)) := pt_cmp1 (hK ▸ op_eqD hu) op2_eq ha hb (nomark _)
theorem pt_ne (hK : X.K = z.K) (hu : X.A.units + 64 < cLine) (ha : PB X z O EX a f) (hb : PB X z O EX b g) : PTd X z O EX (.Compare a [.NotEq] [b] pos) (tstB (bin2 neD f g)) := pt_cmp1 (hK ▸ op_neD hu) op2_ne ha hb (nomark _)
theorem pt_chain1 {op op' : CmpOp} {r r' : R2} {g2 g3 : D → D → Option D} (ho : OpR X (compareOp op) r) (ho' : OpR X (compareOp op') r') (hg : Op2 z.K z.ca r g2) (hg' : Op2 z.K z.ca r' g3)
    (ha : PB X z O EX a f) (hb : PB X z O EX b g) (hc : PB X z O EX c h) (hm : lastMarks [op, op'] [b, c] = false := by with_unfolding_all rfl) : PTd X z O EX (.Compare a [op, op'] [b, c] pos) (tstB (chn g2 g3 f g h)) := by
  obtain ⟨ta, p1, e1⟩ := ha.ex
  obtain ⟨tb, p2, e2⟩ := hb.ex
  obtain ⟨tc, p3, e3⟩ := hc.ex
  refine ⟨_, pt_chain ho ho' p1 p2 p3 hm, evT_test (f := chn g2 g3 f g h) fun B P σ H ρ S Q hP rr hs => ?_⟩
  refine e1 B P σ H ρ S _ hP rr ((sat_bind.mp hs).imp fun x hx v H1 g1 r1 hv => ?_)
  refine e2 B P σ H1 ρ x.2 _ hP r1 ((sat_bind.mp hx).imp fun y hy u H2 g2' r2 hu => ?_)
  obtain ⟨d, hd, hq⟩ := sat_of (sat_bind.mp hy)
  refine hg H2 (z.L B P) z.pls v u x.1 y.1 d _ (fun p hp => r2.fresh hp) (hv.grow g2') hu hd fun w H3 e3' hw => ?_
  cases d with
  | bl k =>
    cases hw
    refine ⟨k, rfl, ?_⟩
    cases k with
    | true =>
      rw [if_pos rfl]
      have hq : Sat (h ρ y.2 >>= fun w => R.of (g3 y.1 w.1) >>= fun d' => R.ok (d', w.2)) (fun r => ∀ v H', Grow z H H' → Rel z B P σ H' ρ r.2 → Rp z.K z.ca (Frz H' (z.L B P)) v r.1 → Q v H') EX := hq
      refine e3 B P σ H3 ρ y.2 _ hP (r2.grow e3') ((sat_bind.mp hq).imp fun w hw w' H4 g4 r4 hw' => ?_)
      obtain ⟨d', hd', hq'⟩ := sat_of (sat_bind.mp hw)
      exact hg' H4 (z.L B P) z.pls u w' y.1 w.1 d' Q (fun p hp => r4.fresh hp) ((hu.grow (Grow.of e3')).grow g4) hw' hd' fun w5 H5 e5 hw5 =>
        hq' w5 H5 (((g1.trans g2').trans (Grow.of e3')).trans (g4.trans (Grow.of e5))) (r4.grow e5) hw5
    | false =>
      rw [if_neg Bool.false_ne_true]
      exact hq _ H3 ((g1.trans g2').trans (Grow.of e3')) (r2.grow e3') (.bl false)
  | _ => exact hq.elim
/-- and, or, not as tests -/
def andT (f g : FT) : FT := fun ρ S => f ρ S >>= fun x => if x.1 then g ρ x.2 else R.ok (false, x.2)
def orT (f g : FT) : FT := fun ρ S => f ρ S >>= fun x => if x.1 then R.ok (true, x.2) else g ρ x.2
def notT (f : FT) : FT := fun ρ S => f ρ S >>= fun x => R.ok (!x.1, x.2)
variable {ft gt : FT} {rest : List Expr}
theorem ptw_or1 (ha : PTd X z O EX a ft) : PWd X z O EX (.BoolOp .Or [a] pos) ft := by
  obtain ⟨t, p, q⟩ := ha.ex
  exact ⟨t, pw_or1 p, q⟩
theorem ptw_or (ha : PTd X z O EX a ft) (hb : PWd X z O EX (.BoolOp .Or (b :: rest) pos) gt) : PWd X z O EX (.BoolOp .Or (a :: b :: rest) pos) (orT ft gt) := by
  obtain ⟨t, p, q⟩ := ha.ex
  obtain ⟨u, p2, q2⟩ := hb.ex
  refine ⟨_, pw_or p p2, fun B P σ H ρ S Q hP rr hs => ?_⟩
  refine q B P σ H ρ S _ hP rr ((sat_bind.mp hs).imp fun x hx H1 g1 r1 => ?_)
  obtain ⟨k, S1⟩ := x
  cases k with
  | false =>
    rw [if_neg Bool.false_ne_true]
    have hx : Sat (gt ρ S1) _ EX := hx
    exact q2 B P σ H1 ρ S1 Q hP r1 (hx.imp fun y hy H' g' r' => hy H' (g1.trans g') r')
  | true =>
    rw [if_pos rfl]
    exact hx H1 g1 r1
theorem ptd_not (ha : PTd X z O EX a ft) : PTd X z O EX (.UnaryOp .Not a pos) (notT ft) := by
  obtain ⟨t, p, q⟩ := ha.ex
  refine ⟨_, pt_not p, fun B P σ H ρ S Q hP rr hs => ?_⟩
  exact q B P σ H ρ S _ hP rr ((sat_bind.mp hs).imp fun x hx H1 g1 r1 => hx H1 g1 r1)
/-- and, or, not as values -/
def andV (f g : FE) : FE := fun ρ S => f ρ S >>= fun x => R.of (truD x.1) >>= fun k => if k then g ρ x.2 else R.ok x
def orV (f g : FE) : FE := fun ρ S => f ρ S >>= fun x => R.of (truD x.1) >>= fun k => if k then R.ok x else g ρ x.2
def notV (f : FE) : FE := fun ρ S => f ρ S >>= fun x => R.of (truD x.1) >>= fun k => R.ok (.bl (!k), x.2)
theorem pd_one {op} (ha : PD X z O EX a f) : PD X z O EX (.BoolOp op [a] pos) f := by
  obtain ⟨t, p, q⟩ := ha.ex
  exact ⟨t, pe_one p, q⟩
theorem pd_and (hK : X.K = z.K) (ha : PD X z O EX a f) (hb : PD X z O EX (.BoolOp .And (b :: rest) pos) g) : PD X z O EX (.BoolOp .And (a :: b :: rest) pos) (andV f g) := by
  obtain ⟨t, p, q⟩ := ha.ex
  obtain ⟨u, p2, q2⟩ := hb.ex
  refine ⟨_, pe_andT p p2, fun B P σ H ρ S Q hP rr hs => ?_⟩
  refine q B P σ H ρ S _ hP rr ((sat_bind.mp hs).imp fun x hx v H1 g1 r1 hv => ?_)
  obtain ⟨k, hd, hq⟩ := sat_of (sat_bind.mp hx)
  refine ⟨k, hK ▸ tru_rp (hv.mono (frz_ex _ _)) hd, ?_⟩
  cases k with
  | true =>
    rw [if_pos rfl]
    have hq : Sat (g ρ x.2) _ EX := hq
    exact q2 B P σ H1 ρ x.2 Q hP r1 (hq.imp fun y hy v' H' g' r' hv' => hy v' H' (g1.trans g') r' hv')
  | false =>
    rw [if_neg Bool.false_ne_true]
    exact hq v H1 g1 r1 hv
theorem pd_not (hK : X.K = z.K) (ha : PB X z O EX a f) : PD X z O EX (.UnaryOp .Not a pos) (notV f) := by
  obtain ⟨t, p, q⟩ := ha.ex
  refine ⟨_, pe_notT p, fun B P σ H ρ S Q hP rr hs => ?_⟩
  refine q B P σ H ρ S _ hP rr ((sat_bind.mp hs).imp fun x hx v H1 g1 r1 hv => ?_)
  obtain ⟨k, hd, hq⟩ := sat_of (sat_bind.mp hx)
  exact ⟨k, hK ▸ tru_rp hv.rp hd, hq _ H1 g1 r1 (.bl _)⟩
/-- a if t else b -/
def ifE (t : FT) (f g : FE) : FE := fun ρ S => t ρ S >>= fun x => if x.1 then f ρ x.2 else g ρ x.2
theorem pd_ifE (hc : PTd X z O EX c ft) (ha : PD X z O EX a f) (hb : PD X z O EX b g) : PD X z O EX (.IfExp c a b pos) (ifE ft f g) := by
  obtain ⟨t, p, q⟩ := hc.ex
  obtain ⟨ta, p1, q1⟩ := ha.ex
  obtain ⟨tb, p2, q2⟩ := hb.ex
  refine ⟨_, pe_ifExp p p1 p2, fun B P σ H ρ S Q hP rr hs => ?_⟩
  refine q B P σ H ρ S _ hP rr ((sat_bind.mp hs).imp fun x hx H1 g1 r1 => ?_)
  obtain ⟨k, S1⟩ := x
  cases k with
  | true =>
    rw [if_pos rfl]
    have hx : Sat (f ρ S1) _ EX := hx
    exact q1 B P σ H1 ρ S1 Q hP r1 (hx.imp fun y hy v' H' g' r' hv' => hy v' H' (g1.trans g') r' hv')
  | false =>
    rw [if_neg Bool.false_ne_true]
    have hx : Sat (g ρ S1) _ EX := hx
    exact q2 B P σ H1 ρ S1 Q hP r1 (hx.imp fun y hy v' H' g' r' hv' => hy v' H' (g1.trans g') r' hv')
/-! ### lists of arguments, displays -/
def EvA (z : Z) (O : List Nat) (EX : EXT) (t : TA) (f : FA) : Prop :=
  ∀ B P σ H ρ S Q, P.map (·.1) = O → Rel z B P σ H ρ S →
    Sat (f ρ S) (fun r => ∀ vs H', Grow z H H' → Rel z B P σ H' ρ r.2 → RpA z.K z.ca (Frz H' (z.L B P)) vs r.1 → Q vs H') EX → t σ H Q
structure PAd (X : Cx) (z : Z) (O : List Nat) (EX : EXT) (es : List Expr) (f : FA) : Prop where
  ex : ∃ t, PA X es t ∧ EvA z O EX t f
def consA (f : FE) (g : FA) : FA := fun ρ S => f ρ S >>= fun x => g ρ x.2 >>= fun y => R.ok (x.1 :: y.1, y.2)
def nilA : FA := fun _ S => R.ok ([], S)
variable {fa ga : FA}
theorem pad_nil : PAd X z O EX [] nilA := ⟨_, pa_nil, fun B P σ H ρ S Q hP rr hs => hs [] H Grow.refl rr .nil⟩
theorem pad_cons (ha : PD X z O EX e f) (hr : PAd X z O EX es fa) (hs : starEach (e :: es) X.env = (false, eval e X.env) :: starEach es X.env := by rfl) : PAd X z O EX (e :: es) (consA f fa) := by
  obtain ⟨t, p, q⟩ := ha.ex
  obtain ⟨u, p2, q2⟩ := hr.ex
  refine ⟨_, pa_cons p p2 hs, fun B P σ H ρ S Q hP rr hs => ?_⟩
  refine q B P σ H ρ S _ hP rr ((sat_bind.mp hs).imp fun x hx v H1 g1 r1 hv => ?_)
  refine q2 B P σ H1 ρ x.2 _ hP r1 ((sat_bind.mp hx).imp fun y hy vs H2 g2 r2 hvs => ?_)
  exact hy (v :: vs) H2 (g1.trans g2) r2 (.cons (hv.mono g2.frz) hvs)
def tupE (fa : FA) : FE := fun ρ S => fa ρ S >>= fun x => if x.1.length ≤ LINE then R.ok (.tup x.1, x.2) else R.bad
def lstE (fa : FA) : FE := fun ρ S => fa ρ S >>= fun x => if x.1.length ≤ LINE then R.ok (.lst x.1, x.2) else R.bad
theorem pd_tup {x1} (ha : PAd X z O EX es fa) : PD X z O EX (.Tuple es x1 pos) (tupE fa) := by
  obtain ⟨t, p, q⟩ := ha.ex
  refine ⟨_, pe_tup p, fun B P σ H ρ S Q hP rr hs => ?_⟩
  refine q B P σ H ρ S _ hP rr ((sat_bind.mp hs).imp fun x hx vs H1 g1 r1 hv => ?_)
  split at hx
  · rename_i w
    exact ⟨line_le (by rw [hv.length]; exact w), fun p hp => hx _ _ (g1.trans (Grow.of (Ex.new hp))) (r1.grow (Ex.new hp)) (new_tup hp (r1.fresh hp) hv)⟩
  · exact hx.elim
/-- {} -/
theorem pd_dic0 (hp : PE X (.Dict [] [] pos) (fun _ H Q => ∀ p, H p = none → Q (.ref p) (upd H p (.dK [])))) : PD X z O EX (.Dict [] [] pos) (fun _ S => R.ok (.dic [] [], S)) :=
  ⟨_, hp, fun B P σ H ρ S Q hP rr hs p hp => hs _ _ (Grow.of (Ex.new hp)) (rr.grow (Ex.new hp)) (.dic (kvs := []) (frz_new (rr.fresh hp)) .nil)⟩
/-! ### subscripts -/
theorem pd_idx (hK : X.K = z.K) (ha : PB X z O EX a f) (hb : PD X z O EX b g) (hx : PlainIx b := by exact fun _ _ => rfl) : PD X z O EX (.Subscript a b pos) (bin2 idxD f g) := by
  obtain ⟨ta, p1, e1⟩ := ha.ex
  obtain ⟨tb, p2, e2⟩ := hb.pb.ex
  exact ⟨_, pe_ix (hK ▸ ix_seq) p1 p2 hx, ev_bin e1 e2 op2_idx⟩
abbrev FO := Env → List D → R (Option Int × List D)
def EvO (z : Z) (O : List Nat) (EX : EXT) (t : TO) (f : FO) : Prop :=
  ∀ B P σ H ρ S Q, P.map (·.1) = O → Rel z B P σ H ρ S →
    Sat (f ρ S) (fun r => ∀ H', Grow z H H' → Rel z B P σ H' ρ r.2 → Q r.1 H') EX → t σ H Q
structure POd (X : Cx) (z : Z) (O : List Nat) (EX : EXT) (e : Option Expr) (f : FO) : Prop where
  ex : ∃ t, PO X e t ∧ EvO z O EX t f
def noneO : FO := fun _ S => R.ok (none, S)
def someO (f : FE) : FO := fun ρ S => f ρ S >>= fun x => match x.1 with
  | .int i => R.ok (some i, x.2)
  | _ => R.bad
theorem pod_none : POd X z O EX none noneO := ⟨_, po_none, fun B P σ H ρ S Q hP rr hs => hs H Grow.refl rr⟩
theorem pod_some (ha : PD X z O EX e f) : POd X z O EX (some e) (someO f) := by
  obtain ⟨t, p, q⟩ := ha.ex
  refine ⟨_, po_some p, fun B P σ H ρ S Q hP rr hs => ?_⟩
  refine q B P σ H ρ S _ hP rr ((sat_bind.mp hs).imp fun x hx v H1 g1 r1 hv => ?_)
  obtain ⟨x1, x2⟩ := x
  cases x1 with
  | int i => cases hv; exact ⟨i, rfl, hx H1 g1 r1⟩
  | _ => exact hx.elim
def slcE (f : FE) (l h : FO) : FE := fun ρ S => f ρ S >>= fun x => l ρ x.2 >>= fun lo => h ρ lo.2 >>= fun hi => R.of (slcD x.1 lo.1 hi.1) >>= fun d => R.ok (d, hi.2)
theorem pd_slc (hK : X.K = z.K) {lo hi : Option Expr} {l u : FO} {p2 : Pos} (ha : PB X z O EX e f) (hl : POd X z O EX lo l) (hu : POd X z O EX hi u) : PD X z O EX (.Subscript e (.Slice lo hi none p2) pos) (slcE f l u) := by
  obtain ⟨t, p, q⟩ := ha.ex
  obtain ⟨tl, pl, ql⟩ := hl.ex
  obtain ⟨tu, pu, qu⟩ := hu.ex
  refine ⟨_, pe_slice sl_D p pl pu, fun B P σ H ρ S Q hP rr hs => ?_⟩
  refine q B P σ H ρ S _ hP rr ((sat_bind.mp hs).imp fun x hx v H1 g1 r1 hv => ?_)
  refine ql B P σ H1 ρ x.2 _ hP r1 ((sat_bind.mp hx).imp fun y hy H2 g2 r2 => ?_)
  refine qu B P σ H2 ρ y.2 _ hP r2 ((sat_bind.mp hy).imp fun w hw H3 g3 r3 => ?_)
  obtain ⟨d, hd, hq⟩ := sat_of (sat_bind.mp hw)
  show rSlD X.K v y.1 w.1 H3 Q
  rw [hK]
  exact slc_ok (L := z.L B P) (N := z.pls) (fun p hp => r3.fresh hp) ((hv.grow g2).grow g3) hd fun v' H' e' hv' => hq v' H' ((g1.trans g2).trans (g3.trans (Grow.of e'))) (r3.grow e') hv'
/-! ### built-in functions and types -/
/-- arguments that may be owned lists -/
inductive RbA (K : PySem.W.Frag) (ca : Str → Option Addr) (H : Hp) (L N : List Addr) : List V → List D → Prop
  | nil : RbA K ca H L N [] []
  | cons {v : V} {vs : List V} {d : D} {ds : List D} : Rb K ca H L N v d → RbA K ca H L N vs ds → RbA K ca H L N (v :: vs) (d :: ds)
def EvBA (z : Z) (O : List Nat) (EX : EXT) (t : TA) (f : FA) : Prop :=
  ∀ B P σ H ρ S Q, P.map (·.1) = O → Rel z B P σ H ρ S →
    Sat (f ρ S) (fun r => ∀ vs H', Grow z H H' → Rel z B P σ H' ρ r.2 → RbA z.K z.ca H' (z.L B P) z.pls vs r.1 → Q vs H') EX → t σ H Q
structure PBA (X : Cx) (z : Z) (O : List Nat) (EX : EXT) (es : List Expr) (f : FA) : Prop where
  ex : ∃ t, PA X es t ∧ EvBA z O EX t f
theorem RbA.grow {B : List Addr} {P : List (Nat × Addr)} {H H' : Hp} (g : Grow z H H') : ∀ {vs : List V} {ds : List D}, RbA z.K z.ca H (z.L B P) z.pls vs ds → RbA z.K z.ca H' (z.L B P) z.pls vs ds
  | _, _, .nil => .nil
  | _, _, .cons h r => .cons (h.grow g) (RbA.grow g r)
theorem pba_nil : PBA X z O EX [] nilA := ⟨_, pa_nil, fun B P σ H ρ S Q hP rr hs => hs [] H Grow.refl rr .nil⟩
theorem pba_cons (ha : PB X z O EX e f) (hr : PBA X z O EX es fa) (hs : starEach (e :: es) X.env = (false, eval e X.env) :: starEach es X.env := by rfl) : PBA X z O EX (e :: es) (consA f fa) := by
  obtain ⟨t, p, q⟩ := ha.ex
  obtain ⟨u, p2, q2⟩ := hr.ex
  refine ⟨_, pa_cons p p2 hs, fun B P σ H ρ S Q hP rr hs => ?_⟩
  refine q B P σ H ρ S _ hP rr ((sat_bind.mp hs).imp fun x hx v H1 g1 r1 hv => ?_)
  refine q2 B P σ H1 ρ x.2 _ hP r1 ((sat_bind.mp hx).imp fun y hy vs H2 g2 r2 hvs => ?_)
  exact hy (v :: vs) H2 (g1.trans g2) r2 (.cons (hv.grow g2) hvs)
/-- a call's rule r answers as g does -/
def CallD (K : PySem.W.Frag) (ca : Str → Option Addr) (r : List V → Hp → VK → Prop) (g : List D → Option D) : Prop :=
  ∀ (H : Hp) (L N : List Addr) (vs : List V) (ds : List D) (d : D) (Q : VK), (∀ p, H p = none → p ∉ L) → RbA K ca H L N vs ds → g ds = some d →
    (∀ v H', Ex H H' → Rp K ca (Frz H' L) v d → Q v H') → r vs H Q
def callE (g : List D → Option D) (fa : FA) : FE := fun ρ S => fa ρ S >>= fun x => R.of (g x.1) >>= fun d => R.ok (d, x.2)
theorem ev_call {t : TA} {r : List V → Hp → VK → Prop} {g : List D → Option D} (q : EvBA z O EX t fa) (hg : CallD z.K z.ca r g) : EvE z O EX (tCB r t) (callE g fa) := by
  intro B P σ H ρ S Q hP rr hs
  refine q B P σ H ρ S _ hP rr ((sat_bind.mp hs).imp fun x hx vs H1 g1 r1 hv => ?_)
  obtain ⟨d, hd, hq⟩ := sat_of (sat_bind.mp hx)
  exact hg H1 (z.L B P) z.pls vs x.1 d Q (fun p hp => r1.fresh hp) hv hd fun v H' e' hv' => hq v H' (g1.trans (Grow.of e')) (r1.grow e') hv'
theorem pd_callB {id : String} {x : Str} {p : Pos} {r : List V → Hp → VK → Prop} {g : List D → Option D} (hc : CallR X (.builtin id) r) (hg' : CallD z.K z.ca r g) (hm : X.mg x = none) (ha : PBA X z O EX (e :: es) fa)
    (hg : Gl X x := by rfl) (hv : bootBuiltins x = some (.builtin id) := by decide +kernel) (hn : x ≠ "__name__" := by decide) (hdb : (x == ("__debug__" : Str)) = false := by decide)
    (he : starEach (e :: es) X.env = (false, eval e X.env) :: starEach es X.env := by rfl) (hpl : (backTo pos (starEach es X.env)).any (·.1) = false := by rfl) : PD X z O EX (.Call (.Name x p) (e :: es) [] pos) (callE g fa) := by
  obtain ⟨t, p1, q⟩ := ha.ex
  exact ⟨_, pe_callB hc hg hm hv p1 hn hdb he hpl, ev_call q hg'⟩
theorem pd_callTy {T : String} {x : Str} {p : Pos} {r : List V → Hp → VK → Prop} {g : List D → Option D} (hc : CallR X (.type T) r) (hg' : CallD z.K z.ca r g) (hm : X.mg x = none) (ha : PBA X z O EX (e :: es) fa)
    (hg : Gl X x := by rfl) (hv : bootBuiltins x = some (.type T) := by decide +kernel) (hn : x ≠ "__name__" := by decide) (hdb : (x == ("__debug__" : Str)) = false := by decide)
    (he : starEach (e :: es) X.env = (false, eval e X.env) :: starEach es X.env := by rfl) (hpl : (backTo pos (starEach es X.env)).any (·.1) = false := by rfl) : PD X z O EX (.Call (.Name x p) (e :: es) [] pos) (callE g fa) := by
  obtain ⟨t, p1, q⟩ := ha.ex
  exact ⟨_, pe_callTy hc hg hm hv p1 hn hdb he hpl, ev_call q hg'⟩
/-- a method of a built-in type, by values -/
def MthD (K : PySem.W.Frag) (ca : Str → Option Addr) (T : String) (r : V → List V → Hp → VK → Prop) (g : D → List D → Option D) : Prop :=
  ∀ (H : Hp) (L N : List Addr) (x : V) (dx : D) (vs : List V) (ds : List D) (d : D) (Q : VK), (∀ p, H p = none → p ∉ L) → Rb K ca H L N x dx → RbA K ca H L N vs ds → g dx ds = some d →
    (∀ v H', Ex H H' → Rp K ca (Frz H' L) v d → Q v H') → r x vs H Q
/-- whose type is told by its data -/
def kindD : String → D → Bool
  | "str", .str _ => true
  | "list", .lst _ => true
  | "list", .scr _ => true
  | _, _ => false
theorem kind_ty {K : PySem.W.Frag} {ca : Str → Option Addr} {H : Hp} {T : String} {v : V} {d : D} (h : Rp K ca H v d) (k : kindD T d = true) : tyV K T v H := by
  unfold kindD at k
  split at k
  · cases h; rfl
  · cases h with
    | lst h r => exact .inl ⟨rfl, _, SqL.of h⟩
  · cases h with
    | scr h => exact .inl ⟨rfl, _, h⟩
  · cases k
def mthE (T : String) (g : D → List D → Option D) (f : FE) (fa : FA) : FE := fun ρ S => f ρ S >>= fun x => if kindD T x.1 then fa ρ x.2 >>= fun y => R.of (g x.1 y.1) >>= fun d => R.ok (d, y.2) else R.bad
theorem pd_mth (hK : X.K = z.K) {o : Expr} {name : Str} {apos cpos : Pos} {T id : String} {r : V → List V → Hp → VK → Prop} {g : D → List D → Option D} (pa : PlainAttrs T) (slot : Slot T name id) (hty : typeOf (.builtin id) = pure (.type "method_descriptor"))
    (hm : MtR X id r) (hg : MthD z.K z.ca T r g) (ho : PB X z O EX o f) (ha : PBA X z O EX (e :: es) fa) (hbase : attributeBase o name X.env (eval o X.env) = eval o X.env := by rfl)
    (hfew : ((backTo cpos (starEach (e :: es) X.env)).all (fun x => !x.1) && (backToKw cpos (keywordEach [] X.env)).all (fun x => x.1.isSome)
      && decide ((e :: es).length + ([] : List Keyword).length + (if ([] : List Keyword).isEmpty then 0 else 1) < 30)) = true := by rfl)
    (hline : (apos.endLine == cpos.line) = true := by rfl) (hs : starEach (e :: es) X.env = (false, eval e X.env) :: starEach es X.env := by rfl) (hplain : (backTo cpos (starEach es X.env)).any (·.1) = false := by rfl) :
    PD X z O EX (.Call (.Attribute o name apos) (e :: es) [] cpos) (mthE T g f fa) := by
  obtain ⟨t, p, q⟩ := ho.ex
  obtain ⟨u, p2, q2⟩ := ha.ex
  refine ⟨_, pe_bm pa slot hty hm p p2 hbase hfew hline hs hplain, fun B P σ H ρ S Q hP rr hs => ?_⟩
  refine q B P σ H ρ S _ hP rr ((sat_bind.mp hs).imp fun x hx v H1 g1 r1 hv => ?_)
  split at hx
  · rename_i k
    refine ⟨hK ▸ kind_ty hv.rp k, ?_⟩
    refine q2 B P σ H1 ρ x.2 _ hP r1 ((sat_bind.mp hx).imp fun y hy vs H2 g2 r2 hvs => ?_)
    obtain ⟨d, hd, hq⟩ := sat_of (sat_bind.mp hy)
    exact hg H2 (z.L B P) z.pls v x.1 vs y.1 d Q (fun p hp => r2.fresh hp) (hv.grow g2) hvs hd fun v' H' e' hv' => hq v' H' ((g1.trans g2).trans (Grow.of e')) (r2.grow e') hv'
  · exact hx.elim
end
end PL
set_option Elab.async false
set_option linter.all false
set_option maxRecDepth 100000
set_option maxHeartbeats 4000000
namespace PL
open PySem PySem.Spec PyProof.Rows L2
/-! ### statements -/
inductive Ctl where
  | nx | bk | ct | rt (d : D)
abbrev FS := Env → List D → R (Ctl × Env × List D)
/-- a def's end: what it hands back, the in-out list behind it -/
structure Fin (z : Z) (B : List Addr) (H' : Hp) (S : List D) (v : V) (d : D) : Prop where
  val : Rp z.K z.ca (Frz H' (z.pls ++ B)) v d
  ex : ∀ a o, z.H0 a = some o → a ∉ z.pls → H' a = some o
  pool : ∀ i a, z.pl = some (i, a) → ∃ xs, H' a = some (z.sh xs) ∧ RpA z.K z.ca (Frz H' (z.pls ++ B)) xs S
  tabs : LamX.Tabs z.tb H'
/-- OI: what is owned ahead, OO: behind, OL: at a loop's next turn -/
def PostS (z : Z) (B : List Addr) (F : Hp) (OO OL : List Nat) (D' : Ends) (r : Ctl × Env × List D) : Prop :=
  match r.1 with
  | .nx => ∀ P' σ' H', P'.map (·.1) = OO → Ex F (Frz H' (z.L B P')) → Rel z B P' σ' H' r.2.1 r.2.2 → D'.nx σ' H'
  | .bk => ∀ P' σ' H', P'.map (·.1) = OL → Ex F (Frz H' (z.L B P')) → Rel z B P' σ' H' r.2.1 r.2.2 → D'.bk σ' H'
  | .ct => ∀ P' σ' H', P'.map (·.1) = OL → Ex F (Frz H' (z.L B P')) → Rel z B P' σ' H' r.2.1 r.2.2 → D'.ct σ' H'
  | .rt d => ∀ v H', Fin z B H' r.2.2 v d → D'.rt v H'
def EvS (z : Z) (OI OO OL : List Nat) (EX : EXT) (t : TS) (f : FS) : Prop :=
  ∀ B P σ H ρ S D', P.map (·.1) = OI → Rel z B P σ H ρ S → Sat (f ρ S) (PostS z B (Frz H (z.L B P)) OO OL D') EX → t D' σ H
structure PSd (X : Cx) (z : Z) (OI OO OL : List Nat) (EX : EXT) (s : Stmt) (f : FS) : Prop where
  ex : ∃ t, PS X s t ∧ EvS z OI OO OL EX t f
structure PSS (X : Cx) (z : Z) (OI OO OL : List Nat) (EX : EXT) (s : List Stmt) (f : FS) : Prop where
  ex : ∃ t, PSs X s t ∧ EvS z OI OO OL EX t f
def nxS : FS := fun ρ S => R.ok (.nx, ρ, S)
def seqS (f g : FS) : FS := fun ρ S => f ρ S >>= fun r => match r.1 with
  | .nx => g r.2.1 r.2.2
  | _ => R.ok r
section
variable {X : Cx} {z : Z} {O OI OM OO OL : List Nat} {EX : EXT} {a b c e : Expr} {es : List Expr} {f g h : FE} {fs gs : FS} {pos : Pos} {st : Stmt} {sts : List Stmt}
theorem PostS.mono {B : List Addr} {F F' : Hp} {D' : Ends} {r : Ctl × Env × List D} (h : PostS z B F OO OL D' r) (e : Ex F F') : PostS z B F' OO OL D' r := by
  obtain ⟨c, ρ, S⟩ := r
  cases c with
  | nx => exact fun P' σ' H' h1 h2 h3 => h P' σ' H' h1 (e.trans h2) h3
  | bk => exact fun P' σ' H' h1 h2 h3 => h P' σ' H' h1 (e.trans h2) h3
  | ct => exact fun P' σ' H' h1 h2 h3 => h P' σ' H' h1 (e.trans h2) h3
  | rt d => exact h
theorem pss_nilD : PSS X z O O OL EX [] nxS := ⟨_, pss_nil, fun B P σ H ρ S D' hP rr hs => hs P σ H hP (Ex.refl _) rr⟩
theorem pss_consD (h1 : PSd X z OI OM OL EX st fs) (h2 : PSS X z OM OO OL EX sts gs) : PSS X z OI OO OL EX (st :: sts) (seqS fs gs) := by
  obtain ⟨t, p, q⟩ := h1.ex
  obtain ⟨u, p2, q2⟩ := h2.ex
  refine ⟨_, pss_cons p p2, fun B P σ H ρ S D' hP rr hs => ?_⟩
  refine q B P σ H ρ S _ hP rr ((sat_bind.mp hs).imp fun r hr => ?_)
  obtain ⟨c, ρ1, S1⟩ := r
  cases c with
  | nx =>
    intro P' σ' H' h1 h2 h3
    exact q2 B P' σ' H' ρ1 S1 D' h1 h3 (Sat.imp hr fun _ w => w.mono h2)
  | bk => exact fun P' σ' H' h1 h2 h3 => hr P' σ' H' h1 h2 h3
  | ct => exact fun P' σ' H' h1 h2 h3 => hr P' σ' H' h1 h2 h3
  | rt d => exact fun v H' hf => hr v H' hf
theorem pss_oneD (h1 : PSd X z OI OO OL EX st fs) : PSS X z OI OO OL EX [st] fs := by
  obtain ⟨t, p, q⟩ := h1.ex
  exact ⟨t, pss_one p, q⟩
/-- the in-out list's place is not this one, nor is it kept -/
def NotPl (z : Z) (i : Nat) : Prop := (∀ j a, z.pl = some (j, a) → j ≠ i) ∧ i ∉ z.kp
/-- an owned list is owned no longer -/
theorem Rel.drop {B : List Addr} {P : List (Nat × Addr)} {σ : L2.St} {H : Hp} {ρ : Env} {S : List D} (r : Rel z B P σ H ρ S) (k : Nat) : Rel z B (P.filter (·.1 != k)) σ H ρ S ∧ Ex (Frz H (z.L B P)) (Frz H (z.L B (P.filter (·.1 != k)))) := by
  have sub : ∀ a ∈ z.L B (P.filter (·.1 != k)), a ∈ z.L B P := fun a ha => by
    unfold Z.L at ha ⊢
    rcases List.mem_append.mp ha with h | h
    · obtain ⟨p, hp, rfl⟩ := List.mem_map.mp h
      exact List.mem_append_left _ (List.mem_map_of_mem (List.mem_filter.mp hp).1)
    · exact List.mem_append_right _ h
  have mono := frz_sub (H := H) sub
  refine ⟨⟨fun i d n e => ?_, fun p hp => ?_, fun i a e => ?_, ?_, r.there, r.ex, fun p hp => r.new p (List.mem_filter.mp hp).1, r.len, r.tabs, r.xt⟩, mono⟩
  · by_cases hk : ∃ p ∈ P, p.1 = i
    · obtain ⟨p, hp, rfl⟩ := hk
      obtain ⟨e1, xs, ds, e2, e3, q⟩ := r.own p hp
      rw [e] at e3
      cases e3
      have hn : p.1 = k := by
        by_cases z1 : p.1 = k
        · exact z1
        · exact absurd rfl (n p (List.mem_filter.mpr ⟨hp, by simp [z1]⟩))
      refine ⟨_, e1, .lst (frz_of e2 fun q => ?_) (q.mono mono)⟩
      have nd := r.nd
      unfold Z.L at nd q
      have nd' := List.nodup_append.mp nd
      rcases List.mem_append.mp q with q | q
      · obtain ⟨p', hp', e'⟩ := List.mem_map.mp q
        have hp'2 := List.mem_filter.mp hp'
        -- two entries of one address
        have inj : ∀ (l : List (Nat × Addr)), (l.map (·.2)).Nodup → ∀ x ∈ l, ∀ y ∈ l, x.2 = y.2 → x = y := by
          intro l
          induction l with
          | nil => intro _ x hx; cases hx
          | cons u l ih =>
            intro hl x hx y hy exy
            rw [List.map_cons, List.nodup_cons] at hl
            rcases List.mem_cons.mp hx with e1 | hx'
            · rcases List.mem_cons.mp hy with e2 | hy'
              · rw [e1, e2]
              · exact absurd (by rw [← e1, exy]; exact List.mem_map_of_mem hy') hl.1
            · rcases List.mem_cons.mp hy with e2 | hy'
              · exact absurd (by rw [← e2, ← exy]; exact List.mem_map_of_mem hx') hl.1
              · exact ih hl.2 x hx' y hy' exy
        have e3 := inj P nd'.1 p' hp'2.1 p hp e'
        rw [e3, hn] at hp'2
        simp at hp'2
      · exact nd'.2.2 p.2 (List.mem_map_of_mem hp) p.2 q rfl
    · obtain ⟨v, e1, q⟩ := r.val i d (fun p hp q => hk ⟨p, hp, q⟩) e
      exact ⟨v, e1, q.mono mono⟩
  · obtain ⟨e1, xs, ds, e2, e3, q⟩ := r.own p (List.mem_filter.mp hp).1
    exact ⟨e1, xs, ds, e2, e3, q.mono mono⟩
  · obtain ⟨e1, e0, xs, e2, q⟩ := r.pool i a e
    exact ⟨e1, e0, xs, e2, q.mono mono⟩
  · have nd := r.nd
    unfold Z.L at nd ⊢
    refine List.Nodup.sublist ?_ nd
    exact List.Sublist.append ((List.filter_sublist).map _) (List.Sublist.refl _)
theorem map_drop (P : List (Nat × Addr)) (k : Nat) : (P.filter (·.1 != k)).map (·.1) = (P.map (·.1)).filter (· != k) := by
  induction P with
  | nil => rfl
  | cons p P ih =>
    rw [List.map_cons, List.filter_cons, List.filter_cons]
    by_cases h : p.1 != k
    · rw [if_pos h, if_pos h, List.map_cons, ih]
    · rw [if_neg h, if_neg h, ih]
theorem EvS.frz {t : TS} (k : Nat) (q : EvS z OM OO OL EX t fs) (hO : OI.filter (· != k) = OM) : EvS z OI OO OL EX t fs := fun B P σ H ρ S D' hP rr hs => by
  obtain ⟨r1, m⟩ := rr.drop k
  exact q B _ σ H ρ S D' (by rw [map_drop, hP, hO]) r1 (hs.imp fun _ w => w.mono m)
/-! ### small statements -/
def bkS : FS := fun ρ S => R.ok (.bk, ρ, S)
def ctS : FS := fun ρ S => R.ok (.ct, ρ, S)
/-- what is never come to -/
def badS : FS := fun _ _ => R.bad
def retS (f : FE) : FS := fun ρ S => f ρ S >>= fun x => R.ok (.rt x.1, ρ, x.2)
theorem Rel.fin {B : List Addr} {P : List (Nat × Addr)} {σ : L2.St} {H : Hp} {ρ : Env} {S : List D} {v : V} {d : D} (r : Rel z B P σ H ρ S) (hv : Rp z.K z.ca (Frz H (z.L B P)) v d) : Fin z B H S v d := by
  have sub : Ex (Frz H (z.L B P)) (Frz H (z.pls ++ B)) := frz_sub fun a ha => by
    unfold Z.L
    exact List.mem_append_right _ ha
  refine ⟨hv.mono sub, r.ex, fun i a e => ?_, r.tabs⟩
  obtain ⟨_, _, xs, e2, q⟩ := r.pool i a e
  exact ⟨xs, e2, q.mono sub⟩
theorem psd_ret (ha : PD X z O EX e f) : PSd X z O OO OL EX (.Return (some e) pos) (retS f) := by
  obtain ⟨t, p, q⟩ := ha.ex
  refine ⟨_, ps_ret p, fun B P σ H ρ S D' hP rr hs => ?_⟩
  refine q B P σ H ρ S _ hP rr ((sat_bind.mp hs).imp fun x hx v H1 g1 r1 hv => ?_)
  exact hx v H1 (r1.fin hv)
def exprS (f : FE) : FS := fun ρ S => f ρ S >>= fun x => R.ok (.nx, ρ, x.2)
theorem psd_expr (ha : PD X z O EX e f) (hs : swapsWith e none pos.line X.env = pure false := by rfl) : PSd X z O O OL EX (.Expr e pos) (exprS f) := by
  obtain ⟨t, p, q⟩ := ha.ex
  refine ⟨_, ps_expr p hs, fun B P σ H ρ S D' hP rr hs => ?_⟩
  refine q B P σ H ρ S _ hP rr ((sat_bind.mp hs).imp fun x hx v H1 g1 r1 hv => ?_)
  exact hx P σ H1 hP g1.frz r1
def ifS (c : FT) (f g : FS) : FS := fun ρ S => c ρ S >>= fun x => if x.1 then f ρ x.2 else g ρ x.2
variable {ft : FT}
theorem psd_if {xs ys : List Stmt} (hc : PTd X z OI EX c ft) (ha : PSS X z OI OO OL EX xs fs) (hb : PSS X z OI OO OL EX ys gs) : PSd X z OI OO OL EX (.If c xs ys pos) (ifS ft fs gs) := by
  obtain ⟨t, p, q⟩ := hc.ex
  obtain ⟨ta, p1, q1⟩ := ha.ex
  obtain ⟨tb, p2, q2⟩ := hb.ex
  refine ⟨_, ps_if p p1 p2, fun B P σ H ρ S D' hP rr hs => ?_⟩
  refine q B P σ H ρ S _ hP rr ((sat_bind.mp hs).imp fun x hx H1 g1 r1 => ?_)
  obtain ⟨k, S1⟩ := x
  cases k with
  | true =>
    rw [if_pos rfl]
    have hx : Sat (fs ρ S1) _ EX := hx
    exact q1 B P σ H1 ρ S1 D' hP r1 (hx.imp fun _ w => w.mono g1.frz)
  | false =>
    rw [if_neg Bool.false_ne_true]
    have hx : Sat (gs ρ S1) _ EX := hx
    exact q2 B P σ H1 ρ S1 D' hP r1 (hx.imp fun _ w => w.mono g1.frz)
/-! ### targets -/
abbrev FG := D → Env → List D → R (Env × List D)
/-- ts: the places that are stored to -/
def EvG (z : Z) (O : List Nat) (EX : EXT) (ts : List Nat) (t : TG) (g : FG) : Prop :=
  ∀ B P σ H ρ S v d Q, P.map (·.1) = O → Rel z B P σ H ρ S → Rp z.K z.ca (Frz H (z.L B P)) v d →
    Sat (g d ρ S) (fun r => ∀ σ' H', Grow z H H' → Rel z B P σ' H' r.1 r.2 → σ'.length = σ.length → (∀ i, i ∉ ts → σ'[i]? = σ[i]?) → Q σ' H') EX → t v σ H Q
structure PGd (X : Cx) (z : Z) (O : List Nat) (EX : EXT) (ts : List Nat) (tg : Expr) (g : FG) : Prop where
  ex : ∃ t, PG X tg t ∧ EvG z O EX ts t g
/-- a place that is not owned is stored to -/
theorem Rel.set {B : List Addr} {P : List (Nat × Addr)} {σ : L2.St} {H : Hp} {ρ : Env} {S : List D} (r : Rel z B P σ H ρ S) {i : Nat} {v : V} {d : D} (hv : Rp z.K z.ca (Frz H (z.L B P)) v d) (hi : ∀ p ∈ P, p.1 ≠ i) (hz : NotPl z i) (hl : i < ρ.length) :
    Rel z B P (σ.set i (some v)) H (ρ.set i (some d)) S where
  val := fun j e n h => by
    by_cases hj : j = i
    · subst hj
      rw [List.getElem?_set_self hl] at h
      cases h
      exact ⟨v, by rw [List.getElem?_set_self (by rw [r.len]; exact hl)], hv⟩
    · rw [List.getElem?_set_ne (Ne.symm hj)] at h
      rw [List.getElem?_set_ne (Ne.symm hj)]
      exact r.val j e n h
  own := fun p hp => by
    obtain ⟨e1, xs, ds, e2, e3, q⟩ := r.own p hp
    have n := Ne.symm (hi p hp)
    exact ⟨by rw [List.getElem?_set_ne n]; exact e1, xs, ds, e2, by rw [List.getElem?_set_ne n]; exact e3, q⟩
  pool := fun j a h => by
    obtain ⟨e1, e0, xs, e2, q⟩ := r.pool j a h
    have n := Ne.symm (hz.1 j a h)
    exact ⟨by rw [List.getElem?_set_ne n]; exact e1, by rw [List.getElem?_set_ne n]; exact e0, xs, e2, q⟩
  nd := r.nd
  there := r.there
  ex := r.ex
  new := r.new
  len := by rw [List.length_set, List.length_set]; exact r.len
  tabs := r.tabs
  xt := ⟨r.xt.1, fun j hj => by rw [List.getElem?_set_ne fun e => hz.2 (by rw [e]; exact hj)]; exact r.xt.2 j hj⟩
def setE (ρ : Env) (i : Nat) (d : D) : R Env := if i < ρ.length then R.ok (ρ.set i (some d)) else R.bad
def nmG (i : Nat) : FG := fun d ρ S => setE ρ i d >>= fun ρ1 => R.ok (ρ1, S)
theorem sat_set {ρ : Env} {i : Nat} {d : D} {Q : Env → Prop} {EX : EXT} (h : Sat (setE ρ i d) Q EX) : i < ρ.length ∧ Q (ρ.set i (some d)) := by
  unfold setE at h
  split at h
  · rename_i w
    exact ⟨w, h⟩
  · exact h.elim
theorem own_ne {P : List (Nat × Addr)} {O : List Nat} {i : Nat} (hP : P.map (·.1) = O) (hi : O.all (· != i) = true) : ∀ p ∈ P, p.1 ≠ i := fun p hp q => by
  have hm : p.1 ∈ O := by rw [← hP]; exact List.mem_map_of_mem hp
  have := List.all_eq_true.mp hi p.1 hm
  rw [q] at this
  simp at this
theorem pgd_name (i : Nat) (hN : X.N.Nodup) (hz : NotPl z i) (hi : O.all (· != i) = true := by rfl) {x : Str} (hx : X.N[i]? = some x := by rfl) (hl : Loc X.env.scope x := by first | exact Or.inl rfl | exact Or.inr rfl)
    (hf : X.fn x = true ∨ X.env.scope.names.lookup x = some .local := by first | exact .inl rfl | exact .inr rfl) : PGd X z O EX [i] (.Name x pos) (nmG i) := by
  refine ⟨_, pg_name hN hx hl hf, fun B P σ H ρ S v d Q hP rr hv hs => ?_⟩
  obtain ⟨w, hq⟩ := sat_set (sat_bind.mp hs)
  exact hq _ H Grow.refl (rr.set hv (own_ne hP hi) hz w) (List.length_set) fun j hj => List.getElem?_set_ne fun e => hj (by simp [e])
abbrev FGs := List D → Env → List D → R (Env × List D)
def EvGs (z : Z) (O : List Nat) (EX : EXT) (ts : List Nat) (t : TGs) (g : FGs) : Prop :=
  ∀ B P σ H ρ S vs ds Q, P.map (·.1) = O → Rel z B P σ H ρ S → RpA z.K z.ca (Frz H (z.L B P)) vs ds →
    Sat (g ds ρ S) (fun r => ∀ σ' H', Grow z H H' → Rel z B P σ' H' r.1 r.2 → σ'.length = σ.length → (∀ i, i ∉ ts → σ'[i]? = σ[i]?) → Q σ' H') EX → t vs σ H Q
structure PGSd (X : Cx) (z : Z) (O : List Nat) (EX : EXT) (ts : List Nat) (tgs : List Expr) (g : FGs) : Prop where
  ex : ∃ t, PGs X tgs t ∧ EvGs z O EX ts t g
def nilG : FGs := fun ds ρ S => match ds with | [] => R.ok (ρ, S) | _ => R.bad
def consG (g : FG) (h : FGs) : FGs := fun ds ρ S => match ds with | [] => R.bad | d :: r => g d ρ S >>= fun ρ1 => h r ρ1.1 ρ1.2
theorem pgsd_nil : PGSd X z O EX [] [] nilG := ⟨_, pgs_nil, fun B P σ H ρ S vs ds Q hP rr hv hs => by
  cases hv with
  | nil => exact ⟨rfl, hs σ H Grow.refl rr rfl fun _ _ => rfl⟩
  | cons _ _ => exact hs.elim⟩
theorem pgsd_cons {ts us : List Nat} {gg : FG} {gr : FGs} (h1 : PGd X z O EX ts e gg) (h2 : PGSd X z O EX us es gr) (hs : (assignEach (e :: es) X.env).map (·.2) = assign e X.env :: (assignEach es X.env).map (·.2) := by rfl) : PGSd X z O EX (ts ++ us) (e :: es) (consG gg gr) := by
  obtain ⟨t, p, q⟩ := h1.ex
  obtain ⟨u, p2, q2⟩ := h2.ex
  refine ⟨_, pgs_cons p p2 hs, fun B P σ H ρ S vs ds Q hP rr hv hs => ?_⟩
  cases hv with
  | nil => exact hs.elim
  | cons hv hr =>
    refine ⟨_, _, rfl, q B P σ H ρ S _ _ _ hP rr hv ((sat_bind.mp hs).imp fun ρ1 h1 σ1 H1 g1 r1 l1 k1 => ?_)⟩
    refine q2 B P σ1 H1 ρ1.1 ρ1.2 _ _ _ hP r1 (hr.mono g1.frz) (h1.imp fun ρ2 h2 σ2 H2 g2 r2 l2 k2 => h2 σ2 H2 (g1.trans g2) r2 (l2.trans l1) fun i hi => ?_)
    rw [List.mem_append] at hi
    exact (k2 i fun z => hi (.inr z)).trans (k1 i fun z => hi (.inl z))
def tupG (n : Nat) (g : FGs) : FG := fun d ρ S => match d with | .tup ds => if ds.length = n then g ds ρ S else R.bad | _ => R.bad
theorem pgd_tup (hK : X.K = z.K) {k n : Nat} {ts : List Nat} {gr : FGs} (hc : X.calm = true) (h : PGSd X z O EX ts es gr) (hn : (assignEach es X.env).length = n := by rfl) (hst : (assignEach es X.env).findIdx? (·.1) = none := by rfl) :
    PGd X z O EX ts (.Tuple es k pos) (tupG n gr) := by
  obtain ⟨t, p, q⟩ := h.ex
  refine ⟨_, pg_tup hc p hn hst, fun B P σ H ρ S v d Q hP rr hv hs => ?_⟩
  cases d with
  | tup ds =>
    unfold tupG at hs
    dsimp only at hs
    split at hs
    · rename_i w
      cases hv with
      | tup h1 r1 => exact ⟨_, _, rfl, hK ▸ ex_t (frz_ex _ _) h1, by rw [r1.length]; exact w, q B P σ H ρ S _ _ _ hP rr r1 hs⟩
    · exact hs.elim
  | _ => exact hs.elim
/-- a, b = a list of two -/
def lstG (n : Nat) (g : FGs) : FG := fun d ρ S => match d with | .lst ds => if ds.length = n then g ds ρ S else R.bad | _ => R.bad
theorem pgd_lst (hK : X.K = z.K) {k n : Nat} {ts : List Nat} {gr : FGs} (hc : X.calm = true) (h : PGSd X z O EX ts es gr) (hn : (assignEach es X.env).length = n := by rfl) (hst : (assignEach es X.env).findIdx? (·.1) = none := by rfl) :
    PGd X z O EX ts (.Tuple es k pos) (lstG n gr) := by
  obtain ⟨t, p, q⟩ := h.ex
  refine ⟨_, pg_lst hc p hn hst, fun B P σ H ρ S v d Q hP rr hv hs => ?_⟩
  cases d with
  | lst ds =>
    unfold lstG at hs
    dsimp only at hs
    split at hs
    · rename_i w
      cases hv with
      | lst h1 r1 => exact ⟨_, _, rfl, SqL.of (frz_ex _ _ _ _ h1), by rw [r1.length]; exact w, q B P σ H ρ S _ _ _ hP rr r1 hs⟩
    · exact hs.elim
  | _ => exact hs.elim
def asgS (f : FE) (g : FG) : FS := fun ρ S => f ρ S >>= fun x => g x.1 ρ x.2 >>= fun r => R.ok (.nx, r.1, r.2)
theorem psd_asg {ts : List Nat} {tg : Expr} {gg : FG} (he : PD X z O EX e f) (hg : PGd X z O EX ts tg gg) (hs : swapsWithSole [tg] e pos.line X.env = pure false := by rfl) (hw : swappedStores [tg] e X.env = pure none := by rfl)
    (h1 : (assignEach [tg] X.env).map (·.2) = [assign tg X.env] := by rfl) : PSd X z O O OL EX (.Assign [tg] e pos) (asgS f gg) := by
  obtain ⟨t, p, q⟩ := he.ex
  obtain ⟨u, p2, q2⟩ := hg.ex
  refine ⟨_, ps_asg p p2 hs hw h1, fun B P σ H ρ S D' hP rr hs => ?_⟩
  refine q B P σ H ρ S _ hP rr ((sat_bind.mp hs).imp fun x hx v H1 g1 r1 hv => ?_)
  exact q2 B P σ H1 ρ x.2 v x.1 _ hP r1 hv ((sat_bind.mp hx).imp fun ρ1 h1 σ' H2 g2 r2 _ _ => h1 P σ' H2 hP (g1.trans g2).frz r2)
/-- x = e, x not owned -/
theorem psd_set (i : Nat) (hN : X.N.Nodup) (hz : NotPl z i) (he : PD X z O EX e f) (hi : O.all (· != i) = true := by rfl) {x : Str} {pos' : Pos} (hx : X.N[i]? = some x := by rfl) (hl : Loc X.env.scope x := by first | exact Or.inl rfl | exact Or.inr rfl)
    (hs : swapsWith e (some (.Name x pos')) pos.line X.env = pure false := by rfl) (hf : X.fn x = true ∨ X.env.scope.names.lookup x = some .local := by first | exact .inl rfl | exact .inr rfl) : PSd X z O O OL EX (.Assign [.Name x pos'] e pos) (asgS f (nmG i)) := by
  obtain ⟨t, p, q⟩ := he.ex
  refine ⟨_, ps_set hN hx hl p hs hf, fun B P σ H ρ S D' hP rr hs => ?_⟩
  refine q B P σ H ρ S _ hP rr ((sat_bind.mp hs).imp fun x hx v H1 g1 r1 hv => ?_)
  obtain ⟨w, hq⟩ := sat_set (sat_bind.mp (sat_bind.mp hx))
  exact hq P _ H1 hP g1.frz (r1.set hv (own_ne hP hi) hz w)
/-- a, b = e1, e2, both sides written -/
def parS (i j : Nat) (fa : FA) : FS := fun ρ S => fa ρ S >>= fun x => match x.1 with
  | [u, v] => setE ρ i u >>= fun ρ1 => setE ρ1 j v >>= fun ρ2 => R.ok (.nx, ρ2, x.2)
  | _ => R.bad
theorem psd_par (i j : Nat) (hc : X.calm = true) (hN : X.N.Nodup) (hzi : NotPl z i) (hzj : NotPl z j) {fa : FA} (ha : PAd X z O EX [a, b] fa) (hi : O.all (· != i) = true := by rfl) (hj : O.all (· != j) = true := by rfl) {x y : Str} {px py pt : Pos} {kt k2 pt2}
    (hx : X.N[i]? = some x := by rfl) (hy : X.N[j]? = some y := by rfl) (hij : i ≠ j := by decide) (lx : X.env.scope.names.lookup x = some .local := by rfl) (ly : X.env.scope.names.lookup y = some .local := by rfl)
    (hw : swappedStores [.Tuple [.Name x px, .Name y py] kt pt] (.Tuple [a, b] k2 pt2) X.env = pure (some [x, y]) := by rfl)
    (hs : swapsWithSole [.Tuple [.Name x px, .Name y py] kt pt] (.Tuple [a, b] k2 pt2) pos.line X.env = pure false := by rfl) : PSd X z O O OL EX (.Assign [.Tuple [.Name x px, .Name y py] kt pt] (.Tuple [a, b] k2 pt2) pos) (parS i j fa) := by
  obtain ⟨t, p, q⟩ := ha.ex
  refine ⟨_, ps_par hc hN hx hy hij lx ly p hw hs, fun B P σ H ρ S D' hP rr hs => ?_⟩
  refine q B P σ H ρ S _ hP rr ((sat_bind.mp hs).imp fun w hw vs H1 g1 r1 hv => ?_)
  obtain ⟨ds, S1⟩ := w
  match ds, hv, hw with
  | [u, v], .cons h1 (.cons h2 .nil), hw =>
    obtain ⟨w1, hq⟩ := sat_set (sat_bind.mp hw)
    obtain ⟨w2, hq⟩ := sat_set (sat_bind.mp hq)
    exact ⟨_, _, rfl, hq P _ H1 hP g1.frz ((r1.set h1 (own_ne hP hi) hzi w1).set h2 (own_ne hP hj) hzj w2)⟩
  | [], _, hw => exact hw.elim
  | [_], _, hw => exact hw.elim
  | _ :: _ :: _ :: _, _, hw => exact hw.elim
/-- x op= e -/
def augS (i : Nat) (g2 : D → D → Option D) (f : FE) : FS := fun ρ S => lk ρ i >>= fun u => f ρ S >>= fun x => R.of (g2 u x.1) >>= fun d => setE ρ i d >>= fun ρ1 => R.ok (.nx, ρ1, x.2)
/-! ### loops -/
/-- what a loop walks: the items from the frozen part F on -/
structure Items (z : Z) (J : It) (F : Hp) (ds : List D) : Prop where
  go : ∀ i B P H, Ex F (Frz H (z.L B P)) → i < ds.length → J.go i H
  stop : ∀ B P H, Ex F (Frz H (z.L B P)) → J.stop ds.length H
  yld : ∀ i B P H x H' d, Ex F (Frz H (z.L B P)) → (∀ p, H p = none → p ∉ z.L B P) → J.yld i H x H' → ds[i]? = some d → Ex H H' ∧ Rp z.K z.ca (Frz H' (z.L B P)) x d
def EvI (z : Z) (O : List Nat) (EX : EXT) (wi : TI) (f : FA) : Prop :=
  ∀ B P σ H ρ S R', P.map (·.1) = O → Rel z B P σ H ρ S →
    Sat (f ρ S) (fun r => ∀ J H1, Grow z H H1 → Rel z B P σ H1 ρ r.2 → Items z J (Frz H1 (z.L B P)) r.1 → R' J H1) EX → wi σ H R'
structure PId (X : Cx) (z : Z) (O : List Nat) (EX : EXT) (tg iter : Expr) (f : FA) : Prop where
  ex : ∃ w, PI X tg iter w ∧ EvI z O EX w f
def forL (g : FG) (fb : FS) : List D → Env → List D → R (Ctl × Env × List D)
  | [], ρ, S => R.ok (.nx, ρ, S)
  | d :: r, ρ, S => g d ρ S >>= fun ρ1 => fb ρ1.1 ρ1.2 >>= fun c => match c.1 with
    | .nx => forL g fb r c.2.1 c.2.2
    | .ct => forL g fb r c.2.1 c.2.2
    | .bk => R.ok (.nx, c.2.1, c.2.2)
    | .rt d => R.ok (.rt d, c.2.1, c.2.2)
def forS (fi : FA) (g : FG) (fb : FS) : FS := fun ρ S => fi ρ S >>= fun x => forL g fb x.1 ρ x.2
theorem psd_for {ts : List Nat} {tg iter : Expr} {body : List Stmt} {fi : FA} {gg : FG} {fb : FS} (hp : PassesOwn (model X.prog X.w) X.A X.env X.xe) (hc : X.calm = true) (hi : PId X z O EX tg iter fi) (hg : PGd X z O EX ts tg gg)
    (hb : PSS X z O O O EX body fb) (hs : ∀ x, foldedSetIterable iter X.env x = pure x := by intro _; rfl) : PSd X z O O OL EX (.For tg iter body [] pos) (forS fi gg fb) := by
  obtain ⟨w, pw, qw⟩ := hi.ex
  obtain ⟨tgt, pg, qg⟩ := hg.ex
  obtain ⟨tb, pb, qb⟩ := hb.ex
  refine ⟨_, ps_for hp hc pw pg pb hs, fun B P σ H ρ S D' hP rr hs => ?_⟩
  refine qw B P σ H ρ S _ hP rr ((sat_bind.mp hs).imp fun x hx J H1 g1 r1 it => ?_)
  obtain ⟨items, S1⟩ := x
  refine ⟨fun i m σ H => m = items.length - i ∧ i ≤ items.length ∧ ∃ P' ρ' S', P'.map (·.1) = O ∧ Rel z B P' σ H ρ' S' ∧ Ex (Frz H1 (z.L B P)) (Frz H (z.L B P')) ∧
    Sat (forL gg fb (items.drop i) ρ' S') (PostS z B (Frz H1 (z.L B P)) O OL D') EX, ⟨items.length, by simp, Nat.zero_le _, P, ρ, S1, hP, r1, Ex.refl _, Sat.imp hx fun _ w => w.mono g1.frz⟩, ?_⟩
  rintro i m σ2 H2 ⟨rfl, hil, P2, ρ2, S2, hP2, r2, e2, h2⟩
  by_cases hlt : i < items.length
  · have ed : items.drop i = items[i] :: items.drop (i + 1) := List.drop_eq_getElem_cons hlt
    rw [ed] at h2
    refine .inr ⟨it.go i B P2 H2 e2 hlt, fun σ' H' => items.length - (i + 1) = items.length - (i + 1) ∧ i + 1 ≤ items.length ∧ ∃ P' ρ' S', P'.map (·.1) = O ∧ Rel z B P' σ' H' ρ' S' ∧ Ex (Frz H1 (z.L B P)) (Frz H' (z.L B P')) ∧
      Sat (forL gg fb (items.drop (i + 1)) ρ' S') (PostS z B (Frz H1 (z.L B P)) O OL D') EX, fun σ' H' n => ⟨items.length - (i + 1), by omega, n⟩, fun x H' y => ?_⟩
    obtain ⟨ex', rp'⟩ := it.yld i B P2 H2 x H' items[i] e2 (fun p hp => r2.fresh hp) y (by simp [hlt])
    refine qg B P2 σ2 H' ρ2 S2 x items[i] _ hP2 (r2.grow ex') rp' ((sat_bind.mp h2).imp fun ρ3 h3 σ3 H3 g3 r3 _ _ => ?_)
    have e3 : Ex (Frz H1 (z.L B P)) (Frz H3 (z.L B P2)) := (e2.trans (Grow.of (z := z) ex').frz).trans g3.frz
    refine qb B P2 σ3 H3 ρ3.1 ρ3.2 _ hP2 r3 ((sat_bind.mp h3).imp fun c hcc => ?_)
    obtain ⟨c1, ρ4, S4⟩ := c
    cases c1 with
    | nx => exact fun P4 σ4 H4 h4 e4 r4 => ⟨rfl, hlt, P4, ρ4, S4, h4, r4, e3.trans e4, hcc⟩
    | ct => exact fun P4 σ4 H4 h4 e4 r4 => ⟨rfl, hlt, P4, ρ4, S4, h4, r4, e3.trans e4, hcc⟩
    | bk => exact fun P4 σ4 H4 h4 e4 r4 => hcc P4 σ4 H4 h4 (e3.trans e4) r4
    | rt d => exact fun v H4 hf => hcc v H4 hf
  · have e : i = items.length := by omega
    subst e
    rw [List.drop_length] at h2
    exact .inl ⟨it.stop B P2 H2 e2, h2 P2 σ2 H2 hP2 e2 r2⟩
/-! what is walked -/
theorem items_int {F : Hp} {lo : Int} {n : Nat} : Items z (Itr lo n) F ((List.range n).map fun i => D.int (lo + (i : Nat))) where
  go := fun i B P H _ hi => by
    show i < n
    simpa using hi
  stop := fun B P H _ => by
    show n ≤ _
    simp
  yld := fun i B P H x H' d _ _ y e => by
    obtain ⟨rfl, rfl⟩ := y
    rw [List.getElem?_map] at e
    cases q : (List.range n)[i]? with
    | none => rw [q] at e; cases e
    | some k =>
      rw [q] at e
      cases e
      obtain ⟨_, q⟩ := List.getElem?_eq_some_iff.mp q
      rw [List.getElem_range] at q
      subst q
      exact ⟨Ex.refl _, .int _⟩
def rng1D : List D → Option (List D)
  | [.int n] => if -(2 ^ 62) ≤ n ∧ n < 2 ^ 62 then some ((List.range n.toNat).map fun i => D.int (0 + (i : Nat))) else none
  | _ => none
def rng2D : List D → Option (List D)
  | [.int a, .int b] => if -(2 ^ 62) ≤ a ∧ a < 2 ^ 62 ∧ -(2 ^ 62) ≤ b ∧ b < 2 ^ 62 then some ((List.range (b - a).toNat).map fun i => D.int (a + (i : Nat))) else none
  | _ => none
def rngI (g : List D → Option (List D)) (fa : FA) : FA := fun ρ S => fa ρ S >>= fun x => R.of (g x.1) >>= fun ds => R.ok (ds, x.2)
theorem pid_range1 {tg : Expr} {p : Pos} {fa : FA} (hm : X.mg "range" = none) (ha : PAd X z O EX [a] fa) (hg : Gl X "range" := by rfl) (hs : starEach [a] X.env = [(false, eval a X.env)] := by rfl) : PId X z O EX tg (.Call (.Name "range" p) [a] [] pos) (rngI rng1D fa) := by
  obtain ⟨t, pt, q⟩ := ha.ex
  refine ⟨_, pi_range1 hg hm pt hs, fun B P σ H ρ S R' hP rr hs => ?_⟩
  refine q B P σ H ρ S _ hP rr ((sat_bind.mp hs).imp fun x hx vs H1 g1 r1 hv => ?_)
  obtain ⟨ds, hd, hq⟩ := sat_of (sat_bind.mp hx)
  obtain ⟨xs, S1⟩ := x
  dsimp only at hd hv
  unfold rng1D at hd
  split at hd
  · rename_i n
    split at hd
    · rename_i w
      cases hd
      cases hv with
      | cons h r =>
        cases h
        cases r
        refine ⟨n, rfl, w.1, w.2, hq _ H1 g1 r1 ?_⟩
        exact items_int
    · cases hd
  · cases hd
theorem items_seq {F : Hp} {J : It} {xs : List V} {ds : List D} (r : RpA z.K z.ca F xs ds) (go : ∀ i H, Ex F H → i < xs.length → J.go i H) (stop : ∀ H, Ex F H → J.stop xs.length H) (yld : ∀ i H x H', Ex F H → J.yld i H x H' → H' = H ∧ xs[i]? = some x) : Items z J F ds where
  go := fun i B P H e hi => go i H (e.trans (frz_ex _ _)) (by rw [r.length]; exact hi)
  stop := fun B P H e => by rw [← r.length]; exact stop H (e.trans (frz_ex _ _))
  yld := fun i B P H x H' d e _ y h => by
    obtain ⟨rfl, hx⟩ := yld i H x H' (e.trans (frz_ex _ _)) y
    obtain ⟨v, hv, q⟩ := r.get h
    rw [hv] at hx
    cases hx
    exact ⟨Ex.refl _, q.mono e⟩
/-- a list (not owned) -/
def itemsL : D → Option (List D) | .lst ds => some ds | .scr ns => some (ns.map .int) | _ => none
def itemsT : D → Option (List D) | .tup ds => some ds | _ => none
def seqI (g : D → Option (List D)) (f : FE) : FA := fun ρ S => f ρ S >>= fun x => R.of (g x.1) >>= fun ds => R.ok (ds, x.2)
theorem pid_list (hK : X.K = z.K) {tg : Expr} (ha : PD X z O EX e f) : PId X z O EX tg e (seqI itemsL f) := by
  obtain ⟨t, pt, q⟩ := ha.ex
  refine ⟨_, pi_list pt, fun B P σ H ρ S R' hP rr hs => ?_⟩
  refine q B P σ H ρ S _ hP rr ((sat_bind.mp hs).imp fun x hx v H1 g1 r1 hv => ?_)
  obtain ⟨ds, hd, hq⟩ := sat_of (sat_bind.mp hx)
  obtain ⟨x1, S1⟩ := x
  rw [hK]
  have fin : ∀ {a : Addr} {xs : List V}, SqL z.K (Frz H1 (z.L B P)) a xs → RpA z.K z.ca (Frz H1 (z.L B P)) xs ds → v = .ref a → ∃ a, v = .ref a ∧ (∃ xs, SqL z.K H1 a xs) ∧ R' (Itl z.K a) H1 := fun {a xs} h r e => by
    refine ⟨a, e, ⟨xs, ex_l (frz_ex _ _) h⟩, hq _ H1 g1 r1 ?_⟩
    exact items_seq r (fun i H e hi => ⟨xs, xs[i], ex_l e h, by simp [hi]⟩) (fun H e => ⟨xs, ex_l e h, Nat.le_refl _⟩) fun i H x H' e y => ⟨y.1, y.2 xs (ex_l e h)⟩
  cases x1 <;> simp only [itemsL, reduceCtorEq, Option.some.injEq] at hd
  · subst hd
    cases hv with
    | lst h r => exact fin (SqL.of h) r rfl
  · subst hd
    cases hv with
    | scr h => exact fin h (RpA.ofInts _) rfl
end
end PL
set_option Elab.async false
set_option linter.all false
set_option maxRecDepth 100000
set_option maxHeartbeats 4000000
namespace PL
open PySem PySem.Spec PyProof.Rows L2
abbrev EX0 : EXT := fun _ _ _ => False
section
variable {X : Cx} {z : Z} {O OI OM OO OL : List Nat} {EX : EXT} {a b c e : Expr} {es : List Expr} {f g h : FE} {fa : FA} {fs gs : FS} {pos : Pos} {st : Stmt} {sts : List Stmt}
variable {B : List Addr} {P : List (Nat × Addr)} {σ σ' : L2.St} {H H' : Hp} {ρ ρ' : Env} {S S' : List D}
/-! ### frames: more -/
theorem frz_congr {L L' : List Addr} (h : ∀ a, a ∈ L ↔ a ∈ L') : Frz H L = Frz H L' := by
  funext a
  unfold Frz
  by_cases ha : a ∈ L
  · rw [if_pos ha, if_pos ((h a).mp ha)]
  · rw [if_neg ha, if_neg fun q => ha ((h a).mpr q)]
/-- hidden no more -/
theorem Rel.show1 {p : Addr} (r : Rel z (p :: B) P σ H ρ S) (h0 : z.H0 p = none) : Rel z B P σ H ρ S ∧ Ex (Frz H (z.L (p :: B) P)) (Frz H (z.L B P)) ∧ p ∉ z.L B P := by
  have sub : ∀ a ∈ z.L B P, a ∈ z.L (p :: B) P := fun a ha => by
    unfold Z.L at ha ⊢
    rcases List.mem_append.mp ha with h | h
    · exact List.mem_append_left _ h
    · rcases List.mem_append.mp h with h | h
      · exact List.mem_append_right _ (List.mem_append_left _ h)
      · exact List.mem_append_right _ (List.mem_append_right _ (List.mem_cons_of_mem _ h))
  have m := frz_sub (H := H) sub
  have nd := r.nd
  have pm : List.Perm (z.L (p :: B) P) (p :: z.L B P) := by
    unfold Z.L
    rw [← List.append_assoc, ← List.append_assoc]
    exact List.perm_middle
  have nd2 := pm.nodup nd
  refine ⟨⟨fun i d n h => ?_, fun q hq => ?_, fun i a e => ?_, (List.nodup_cons.mp nd2).2, fun b hb => r.there b (List.mem_cons_of_mem _ hb), r.ex, r.new, r.len, r.tabs, ⟨fun a ha => ⟨(r.xt.1 a ha).1, ((List.mem_cons.mp (r.xt.1 a ha).2).resolve_left fun e => (r.xt.1 a ha).1 (by rw [e]; exact h0))⟩, r.xt.2⟩⟩, m, (List.nodup_cons.mp nd2).1⟩
  · obtain ⟨v, e1, q⟩ := r.val i d n h
    exact ⟨v, e1, q.mono m⟩
  · obtain ⟨e1, xs, ds, e2, e3, q⟩ := r.own q hq
    exact ⟨e1, xs, ds, e2, e3, q.mono m⟩
  · obtain ⟨e1, e0, xs, e2, q⟩ := r.pool i a e
    exact ⟨e1, e0, xs, e2, q.mono m⟩
/-- a fresh object is hidden -/
theorem Rel.hide {p : Addr} {o : HO} (r : Rel z B P σ H ρ S) (hp : H p = none) : Rel z (p :: B) P σ (upd H p o) ρ S ∧ Ex (Frz H (z.L B P)) (Frz (upd H p o) (z.L (p :: B) P)) := by
  have hn := r.fresh hp
  have m : Ex (Frz H (z.L B P)) (Frz (upd H p o) (z.L (p :: B) P)) := fun a u ha => by
    unfold Frz at ha ⊢
    split at ha
    · cases ha
    · rename_i n
      have ne : a ≠ p := ne_of_none ha hp
      rw [if_neg, upd_ne ne]
      · exact ha
      · intro q
        apply n
        unfold Z.L at q ⊢
        rcases List.mem_append.mp q with h | h
        · exact List.mem_append_left _ h
        · rcases List.mem_append.mp h with h | h
          · exact List.mem_append_right _ (List.mem_append_left _ h)
          · rcases List.mem_cons.mp h with h | h
            · exact absurd h ne
            · exact List.mem_append_right _ (List.mem_append_right _ h)
  have pm : List.Perm (z.L (p :: B) P) (p :: z.L B P) := by
    unfold Z.L
    rw [← List.append_assoc, ← List.append_assoc]
    exact List.perm_middle
  refine ⟨⟨fun i d n h => ?_, fun q hq => ?_, fun i a e => ?_, pm.symm.nodup (List.nodup_cons.mpr ⟨hn, r.nd⟩), fun b hb => ?_, fun a u h n => Ex.new hp _ _ (r.ex a u h n), r.new, r.len, tabs_new r.tabs hp, ⟨fun a ha => ⟨(r.xt.1 a ha).1, List.mem_cons_of_mem _ (r.xt.1 a ha).2⟩, r.xt.2⟩⟩, m⟩
  · obtain ⟨v, e1, q⟩ := r.val i d n h
    exact ⟨v, e1, q.mono m⟩
  · obtain ⟨e1, xs, ds, e2, e3, q⟩ := r.own q hq
    exact ⟨e1, xs, ds, Ex.new hp _ _ e2, e3, q.mono m⟩
  · obtain ⟨e1, e0, xs, e2, q⟩ := r.pool i a e
    exact ⟨e1, e0, xs, Ex.new hp _ _ e2, q.mono m⟩
  · rcases List.mem_cons.mp hb with h | h
    · rw [h, upd_same]
      exact fun z => nomatch z
    · have q := r.there b h
      cases e : H b with
      | none => exact absurd e q
      | some u => rw [Ex.new hp _ _ e]; exact fun z => nomatch z
/-- another frame's places, the heap as it is now -/
theorem Rel.back (r : Rel z B P σ H ρ S) (g : Grow z H H') (r' : Rel z B P σ' H' ρ' S') : Rel z B P σ H' ρ S' where
  val := fun i d n h => let ⟨v, e1, q⟩ := r.val i d n h; ⟨v, e1, q.mono g.frz⟩
  own := fun p hp => by
    obtain ⟨e1, xs, ds, e2, e3, q⟩ := r.own p hp
    have n : p.2 ∉ z.pls := fun h => by
      have nd := r.nd
      unfold Z.L at nd
      exact (List.nodup_append.mp nd).2.2 p.2 (List.mem_map_of_mem hp) p.2 (List.mem_append_left _ h) rfl
    exact ⟨e1, xs, ds, g _ _ n e2, e3, q.mono g.frz⟩
  pool := fun i a e => by
    obtain ⟨e1, e0, _⟩ := r.pool i a e
    obtain ⟨_, _, xs, e2, q⟩ := r'.pool i a e
    exact ⟨e1, e0, xs, e2, q⟩
  nd := r.nd
  there := r'.there
  ex := r'.ex
  new := r.new
  len := r.len
  tabs := r'.tabs
  xt := r.xt
/-! ### new lists -/
/-- e gives a new list that nobody else holds -/
def EvF (z : Z) (O : List Nat) (EX : EXT) (t : TE) (f : FA) : Prop :=
  ∀ B P σ H ρ S Q, P.map (·.1) = O → Rel z B P σ H ρ S →
    Sat (f ρ S) (fun r => ∀ p xs H', Grow z H H' → H' p = some (.lst xs) → z.H0 p = none → H p = none → Rel z (p :: B) P σ H' ρ r.2 → Ex (Frz H (z.L B P)) (Frz H' (z.L (p :: B) P)) → RpA z.K z.ca (Frz H' (z.L (p :: B) P)) xs r.1 → Q (.ref p) H') EX → t σ H Q
structure PF (X : Cx) (z : Z) (O : List Nat) (EX : EXT) (e : Expr) (f : FA) : Prop where
  ex : ∃ t, PE X e t ∧ EvF z O EX t f
def ofF (f : FA) : FE := fun ρ S => f ρ S >>= fun x => R.ok (.lst x.1, x.2)
theorem EvF.toE {t : TE} (q : EvF z O EX t fa) : EvE z O EX t (ofF fa) := fun B P σ H ρ S Q hP rr hs => by
  refine q B P σ H ρ S _ hP rr ((sat_bind.mp hs).imp fun x hx p xs H' g e1 e0 en r m hv => ?_)
  obtain ⟨r1, m1, n1⟩ := r.show1 e0
  exact hx (.ref p) H' g r1 (.lst (frz_of e1 n1) (hv.mono m1))
theorem PF.pd (ha : PF X z O EX e fa) : PD X z O EX e (ofF fa) := by
  obtain ⟨t, p, q⟩ := ha.ex
  exact ⟨t, p, q.toE⟩
theorem h0_none {p : Addr} (r : Rel z B P σ H ρ S) (hp : H p = none) (hn : p ∉ z.pls) : z.H0 p = none := by
  cases e : z.H0 p with
  | none => rfl
  | some o => rw [r.ex p o e hn] at hp; cases hp
theorem not_pls {p : Addr} (h : p ∉ z.L B P) : p ∉ z.pls := fun q => h (by unfold Z.L; exact List.mem_append_right _ (List.mem_append_left _ q))
theorem Grow.none {p : Addr} (g : Grow z H H') (hn : p ∉ z.pls) (hp : H' p = none) : H p = none := by
  cases e : H p with
  | none => rfl
  | some o => rw [g p o hn e] at hp; cases hp
def lstF (fa : FA) : FA := fun ρ S => fa ρ S >>= fun x => if x.1.length ≤ LINE then R.ok x else R.bad
theorem pf_lst (ha : PAd X z O EX es fa) : PF X z O EX (.List es pos) (lstF fa) := by
  obtain ⟨t, p, q⟩ := ha.ex
  refine ⟨_, pe_lst p, fun B P σ H ρ S Q hP rr hs => ?_⟩
  refine q B P σ H ρ S _ hP rr ((sat_bind.mp hs).imp fun x hx vs H1 g1 r1 hv => ?_)
  split at hx
  · rename_i w
    refine ⟨line_le (by rw [hv.length]; exact w), fun p hp => ?_⟩
    obtain ⟨r2, m⟩ := r1.hide (o := .lst vs) hp
    exact hx p vs _ (g1.trans (Grow.of (Ex.new hp))) upd_same (h0_none r1 hp (not_pls (r1.fresh hp))) (g1.none (not_pls (r1.fresh hp)) hp) r2 (g1.frz.trans m) (hv.mono m)
  · exact hx.elim
def bin2F (g2 : D → D → Option (List D)) (f g : FE) : FA := fun ρ S => f ρ S >>= fun x => g ρ x.2 >>= fun y => R.of (g2 x.1 y.1) >>= fun d => R.ok (d, y.2)
def callF (g : List D → Option (List D)) (fa : FA) : FA := fun ρ S => fa ρ S >>= fun x => R.of (g x.1) >>= fun d => R.ok (d, x.2)
/-- places hold what is owned -/
theorem Rel.own1 {p : Addr} {xs : List V} {ds : List D} {i : Nat} (r : Rel z (p :: B) P σ H ρ S) (h : H p = some (.lst xs)) (h0 : z.H0 p = none) (rp : RpA z.K z.ca (Frz H (z.L (p :: B) P)) xs ds) (hi : ∀ q ∈ P, q.1 ≠ i) (hz : NotPl z i) (hl : i < ρ.length) :
    Rel z B ((i, p) :: P) (σ.set i (some (.ref p))) H (ρ.set i (some (.lst ds))) S ∧ Frz H (z.L (p :: B) P) = Frz H (z.L B ((i, p) :: P)) := by
  have pm : List.Perm (z.L (p :: B) P) (p :: z.L B P) := by
    unfold Z.L
    rw [← List.append_assoc, ← List.append_assoc]
    exact List.perm_middle
  have ef : Frz H (z.L (p :: B) P) = Frz H (z.L B ((i, p) :: P)) := frz_congr fun a => by
    show a ∈ z.L (p :: B) P ↔ a ∈ p :: z.L B P
    exact pm.mem_iff
  refine ⟨⟨fun j d n h => ?_, fun q hq => ?_, fun j a e => ?_, pm.nodup r.nd, fun b hb => r.there b (List.mem_cons_of_mem _ hb), r.ex, fun q hq => ?_, by rw [List.length_set, List.length_set]; exact r.len, r.tabs, ⟨fun a ha => ⟨(r.xt.1 a ha).1, ((List.mem_cons.mp (r.xt.1 a ha).2).resolve_left fun e => (r.xt.1 a ha).1 (by rw [e]; exact h0))⟩, fun j hj => by rw [List.getElem?_set_ne fun e => hz.2 (by rw [e]; exact hj)]; exact r.xt.2 j hj⟩⟩, ef⟩
  · have hj : j ≠ i := fun e => n (i, p) List.mem_cons_self e.symm
    rw [List.getElem?_set_ne (Ne.symm hj)] at h
    obtain ⟨v, e1, q⟩ := r.val j d (fun q hq => n q (List.mem_cons_of_mem _ hq)) h
    exact ⟨v, by rw [List.getElem?_set_ne (Ne.symm hj)]; exact e1, ef ▸ q⟩
  · rcases List.mem_cons.mp hq with e | hq
    · subst e
      exact ⟨List.getElem?_set_self (by rw [r.len]; exact hl), xs, ds, h, List.getElem?_set_self hl, ef ▸ rp⟩
    · obtain ⟨e1, xs', ds', e2, e3, q'⟩ := r.own q hq
      have n := Ne.symm (hi q hq)
      exact ⟨by rw [List.getElem?_set_ne n]; exact e1, xs', ds', e2, by rw [List.getElem?_set_ne n]; exact e3, ef ▸ q'⟩
  · obtain ⟨e1, e0, xs', e2, q'⟩ := r.pool j a e
    have n := Ne.symm (hz.1 j a e)
    exact ⟨by rw [List.getElem?_set_ne n]; exact e1, by rw [List.getElem?_set_ne n]; exact e0, xs', e2, ef ▸ q'⟩
  · rcases List.mem_cons.mp hq with e | hq
    · subst e; exact h0
    · exact r.new q hq
def ownS (i : Nat) (f : FA) : FS := fun ρ S => f ρ S >>= fun x => setE ρ i (.lst x.1) >>= fun ρ1 => R.ok (.nx, ρ1, x.2)
/-- x = a new list, owned from here -/
theorem psd_own (i : Nat) (hN : X.N.Nodup) (hz : NotPl z i) (he : PF X z O EX e fa) (hi : O.all (· != i) = true := by rfl) {x : Str} {pos' : Pos} (hx : X.N[i]? = some x := by rfl) (hl : Loc X.env.scope x := by first | exact Or.inl rfl | exact Or.inr rfl)
    (hs : swapsWith e (some (.Name x pos')) pos.line X.env = pure false := by rfl) (hf : X.fn x = true ∨ X.env.scope.names.lookup x = some .local := by first | exact .inl rfl | exact .inr rfl) : PSd X z O (i :: O) OL EX (.Assign [.Name x pos'] e pos) (ownS i fa) := by
  obtain ⟨t, p, q⟩ := he.ex
  refine ⟨_, ps_set hN hx hl p hs hf, fun B P σ H ρ S D' hP rr hs => ?_⟩
  refine q B P σ H ρ S _ hP rr ((sat_bind.mp hs).imp fun x hx p xs H1 g1 e1 e0 en r1 m hv => ?_)
  obtain ⟨w, hq⟩ := sat_set (sat_bind.mp hx)
  obtain ⟨r2, ef⟩ := r1.own1 e1 e0 hv (own_ne hP hi) hz w
  exact hq ((i, p) :: P) _ H1 (by rw [List.map_cons, hP]) (ef ▸ m) r2
/-! ### owned lists changed -/
/-- an owned list's new content -/
theorem Rel.put {i : Nat} {p : Addr} {xs : List V} {ds : List D} (r : Rel z B P σ H ρ S) (hp : (i, p) ∈ P) (hP : (P.map (·.1)).Nodup) (rp : RpA z.K z.ca (Frz H (z.L B P)) xs ds) :
    Rel z B P σ (upd H p (.lst xs)) (ρ.set i (some (.lst ds))) S ∧ Frz (upd H p (.lst xs)) (z.L B P) = Frz H (z.L B P) := by
  have hm : p ∈ z.L B P := by
    unfold Z.L
    exact List.mem_append_left _ (List.mem_map_of_mem (f := (·.2)) hp)
  have ef : Frz (upd H p (.lst xs)) (z.L B P) = Frz H (z.L B P) := by
    funext a
    unfold Frz
    by_cases ha : a ∈ z.L B P
    · rw [if_pos ha, if_pos ha]
    · rw [if_neg ha, if_neg ha, upd_ne fun (e1 : a = p) => ha (by rw [e1]; exact hm)]
  have nd := r.nd
  unfold Z.L at nd
  have nd' := List.nodup_append.mp nd
  have npl : p ∉ z.pls ++ B := fun h => nd'.2.2 p (List.mem_map_of_mem (f := (·.2)) hp) p h rfl
  have il : i < ρ.length := by
    obtain ⟨_, _, _, _, e3, _⟩ := r.own (i, p) hp
    exact (List.getElem?_eq_some_iff.mp e3).1
  have inj : ∀ (l : List (Nat × Addr)), (l.map (·.1)).Nodup → ∀ x ∈ l, ∀ y ∈ l, x.1 = y.1 → x = y := by
    intro l
    induction l with
    | nil => intro _ x hx; cases hx
    | cons u l ih =>
      intro hl x hx y hy exy
      rw [List.map_cons, List.nodup_cons] at hl
      rcases List.mem_cons.mp hx with e1 | hx'
      · rcases List.mem_cons.mp hy with e2 | hy'
        · rw [e1, e2]
        · exact absurd (by rw [← e1, exy]; exact List.mem_map_of_mem hy') hl.1
      · rcases List.mem_cons.mp hy with e2 | hy'
        · exact absurd (by rw [← e2, ← exy]; exact List.mem_map_of_mem hx') hl.1
        · exact ih hl.2 x hx' y hy' exy
  have inj2 : ∀ (l : List (Nat × Addr)), (l.map (·.2)).Nodup → ∀ x ∈ l, ∀ y ∈ l, x.2 = y.2 → x = y := by
    intro l
    induction l with
    | nil => intro _ x hx; cases hx
    | cons u l ih =>
      intro hl x hx y hy exy
      rw [List.map_cons, List.nodup_cons] at hl
      rcases List.mem_cons.mp hx with e1 | hx'
      · rcases List.mem_cons.mp hy with e2 | hy'
        · rw [e1, e2]
        · exact absurd (by rw [← e1, exy]; exact List.mem_map_of_mem hy') hl.1
      · rcases List.mem_cons.mp hy with e2 | hy'
        · exact absurd (by rw [← e2, ← exy]; exact List.mem_map_of_mem hx') hl.1
        · exact ih hl.2 x hx' y hy' exy
  refine ⟨⟨fun j d n h => ?_, fun q hq => ?_, fun j a e => ?_, r.nd, fun b hb => ?_, fun a o h n => ?_, r.new, by rw [List.length_set]; exact r.len, let ⟨_, xs0, _, e0, _⟩ := r.own (i, p) hp; tabs_upd r.tabs e0 (fun _ z => nomatch z) (fun _ z => nomatch z), r.xt⟩, ef⟩
  · have hj : j ≠ i := fun e => n (i, p) hp e.symm
    rw [List.getElem?_set_ne (Ne.symm hj)] at h
    obtain ⟨v, e1, q⟩ := r.val j d n h
    exact ⟨v, e1, ef ▸ q⟩
  · obtain ⟨e1, xs', ds', e2, e3, q'⟩ := r.own q hq
    by_cases hqi : q.1 = i
    · have e := inj P hP q hq (i, p) hp hqi
      subst e
      exact ⟨e1, xs, ds, upd_same, List.getElem?_set_self il, ef ▸ rp⟩
    · have hne : q.2 ≠ p := fun e => hqi (by rw [inj2 P nd'.1 q hq (i, p) hp e])
      exact ⟨e1, xs', ds', by rw [upd_ne hne]; exact e2, by rw [List.getElem?_set_ne (Ne.symm hqi)]; exact e3, ef ▸ q'⟩
  · obtain ⟨e1, e0, xs', e2, q'⟩ := r.pool j a e
    have ha : a ∈ z.pls := by
      unfold Z.pls
      rw [e]
      exact List.mem_append_left _ List.mem_cons_self
    have hj : j ≠ i := fun z1 => by
      obtain ⟨_, _, _, _, e3, _⟩ := r.own (i, p) hp
      rw [z1, e3] at e0
      cases e0
    exact ⟨e1, by rw [List.getElem?_set_ne (Ne.symm hj)]; exact e0, xs', by rw [upd_ne fun (e9 : a = p) => npl (List.mem_append_left _ (by rw [← e9]; exact ha))]; exact e2, ef ▸ q'⟩
  · by_cases hbp : b = p
    · rw [hbp, upd_same]; exact fun z => nomatch z
    · rw [upd_ne hbp]; exact r.there b hb
  · have hne : a ≠ p := fun e => by
      have q := r.new (i, p) hp
      rw [← e, h] at q
      cases q
    rw [upd_ne hne]
    exact r.ex a o h n
def appS (i : Nat) (f : FE) : FS := fun ρ S => f ρ S >>= fun x => lk ρ i >>= fun l => match l with
  | .lst ds => if ds.length < LINE then setE ρ i (.lst (ds ++ [x.1])) >>= fun ρ1 => R.ok (.nx, ρ1, x.2) else R.bad
  | _ => R.bad
theorem own_at {i : Nat} (hP : P.map (·.1) = O) (hi : O.contains i = true) : ∃ p, (i, p) ∈ P := by
  have hm : i ∈ P.map (·.1) := by rw [hP]; simpa using hi
  obtain ⟨p, hp, e⟩ := List.mem_map.mp hm
  obtain ⟨j, p⟩ := p
  cases e
  exact ⟨p, hp⟩
/-- x.append(e), x owned -/
theorem psd_append (i : Nat) (hK : X.K = z.K) {x : Str} {p0 apos cpos : Pos} (he : PD X z O EX e f) (hO : O.Nodup := by decide) (hi : O.contains i = true := by rfl) (hN : X.N[i]? = some x := by rfl) (hv : Vis X.env.scope x := by first | exact Or.inl rfl | exact Or.inr (Or.inl rfl) | exact Or.inr (Or.inr rfl))
    (hd : (x == ("__debug__" : Str)) = false := by decide) (hcd : (x == ("__classdict__" : Str)) = false := by decide)
    (hbase : attributeBase (.Name x p0) "append" X.env (eval (.Name x p0) X.env) = eval (.Name x p0) X.env := by rfl)
    (hfew : ((backTo cpos (starEach (e :: []) X.env)).all (fun x => !x.1) && (backToKw cpos (keywordEach [] X.env)).all (fun x => x.1.isSome)
      && decide ((e :: []).length + ([] : List Keyword).length + (if ([] : List Keyword).isEmpty then 0 else 1) < 30)) = true := by rfl)
    (hline : (apos.endLine == cpos.line) = true := by rfl) (hs : starEach (e :: []) X.env = (false, eval e X.env) :: starEach [] X.env := by rfl) (hplain : (backTo cpos (starEach [] X.env)).any (·.1) = false := by rfl)
    (hsw : swapsWith (.Call (.Attribute (.Name x p0) "append" apos) [e] [] cpos) none pos.line X.env = pure false := by rfl) :
    PSd X z O O OL EX (.Expr (.Call (.Attribute (.Name x p0) "append" apos) [e] [] cpos) pos) (appS i f) := by
  obtain ⟨t, p, q⟩ := he.ex
  refine ⟨_, ps_expr (pe_bm PySem.F.plainAttrs_list PySem.F.slot_list_append PySem.F.type_list_append mt_append (pe_var hN hv hd hcd) (pa_cons p pa_nil hs) hbase hfew hline hs hplain) hsw, fun B P σ H ρ S D' hP rr hs => ?_⟩
  obtain ⟨ad, hp⟩ := own_at hP hi
  obtain ⟨e1, xs, ds, e2, e3, q3⟩ := rr.own (i, ad) hp
  refine ⟨_, e1, .inl ⟨rfl, xs, SqL.of e2⟩, ?_⟩
  refine q B P σ H ρ S _ hP rr ((sat_bind.mp hs).imp fun w hw v H1 g1 r1 hv => ?_)
  obtain ⟨e1', xs', ds', e2', e3', q3'⟩ := r1.own (i, ad) hp
  have hw := sat_bind.mp hw
  unfold lk at hw
  rw [e3'] at hw
  dsimp only [Option.join, R.of] at hw
  have hw : Sat (if ds'.length < LINE then setE ρ i (.lst (ds' ++ [w.1])) >>= fun ρ1 => R.ok (.nx, ρ1, w.2) else R.bad) (PostS z B (Frz H (z.L B P)) O OL D') EX := hw
  split at hw
  · rename_i l
    obtain ⟨w2, hq⟩ := sat_set (sat_bind.mp hw)
    refine ⟨ad, xs', v, rfl, rfl, e2', line_lt (by rw [q3'.length]; exact l), ?_⟩
    obtain ⟨r4, ef⟩ := r1.put hp (by rw [hP]; exact hO) (q3'.append (.cons hv .nil))
    exact hq P σ _ hP (by rw [ef]; exact g1.frz) r4
  · exact hw.elim
/-- x[i] = e, x owned -/
def stoS (i : Nat) (f g : FE) : FS := fun ρ S => f ρ S >>= fun x => g ρ x.2 >>= fun y => lk ρ i >>= fun l => match l, y.1 with
  | .lst ds, .int k => match ixN ds.length k with
    | some j => setE ρ i (.lst (ds.set j x.1)) >>= fun ρ1 => R.ok (.nx, ρ1, y.2)
    | none => R.bad
  | _, _ => R.bad
end
end PL
set_option Elab.async false
set_option linter.all false
set_option maxRecDepth 100000
set_option maxHeartbeats 4000000
/-! Defs whose callers stand under no guard (repr looks at the guards): promises, calls, the law's own call. -/
namespace PL
open PySem PySem.Spec PyProof.Rows L2
/-- a promise kept wherever no guard stands around -/
structure FnG (Pg : Program) (w : World) (K : PySem.W.Frag) (mg : Str → Option Value) (base : Heap) (k : Nat) (fA : Addr) (fd : FuncData) (ps : List Str) (sp : Sp) : Prop where
  num : ∀ vs H Q E, sp vs H Q E → vs.length = ps.length
  go : ∀ (A : Around) (up : List PySem.Env) (s : Shared) (H : Hp) (args : Args) (us : List Value) (vs : List V) (Q : VK) (E : XK), Room k A → A.guards = some [] → Env0 Pg w K mg base A up s H →
    BindsTo s fd args (ps.zip us) → Vals vs us → sp vs H Q E → codeAny (model Pg w) A (.call (.ref fA) args) (CR CX0 up Pg w H s Q E) s
section
variable {Pg : Program} {w : World} {K : PySem.W.Frag} {mg : Str → Option Value} {base : Heap} {j k : Nat} {fA : Addr} {fd : FuncData} {ps : List Str} {sp : Sp}
theorem FnG.up (F : FnG Pg w K mg base j fA fd ps sp) (h : j ≤ k) : FnG Pg w K mg base k fA fd ps sp :=
  ⟨F.num, fun A up s H args us vs Q E hr hgu => F.go A up s H args us vs Q E (hr.mono h) hgu⟩
/-- from the body -/
theorem fn_body {x qual : Str} {st : Stmt} {N : List Str} (F : Fun K x qual st fA fd) (Sc : FnScope N ps (defScope st)) (num : ∀ vs H Q E, sp vs H Q E → vs.length = ps.length)
    (body : ∀ (cdv : Value) (A : Around) (up : List PySem.Env) (s : Shared) (H : Hp) (vs : List V) (Q : VK) (E : XK), Room k (A.deeper (envOfC qual (defScope st) s.heap.objs.size fA cdv)) → A.guards = some [] → sp vs H Q E →
      ∃ t, PSs (cxOf CX0 Pg w K mg base N qual (defScope st) fA cdv A up s H E).nox (defBody st) t ∧ t { nx := fun _ H' => Q .non H', rt := Q } (L2.start N vs) H) : FnG Pg w K mg base (k + 1) fA fd ps sp := by
  obtain ⟨oc, od, kV, doc, pm, an, cdv, ct, osl, rfl, lk, hcd⟩ := F.ex
  constructor
  · exact num
  · intro A up s H args us vs Q E hr hgu e0 hb rv hsp
    have hlen := num _ _ _ _ hsp
    have kin : K.In s.heap := e0.mod.kin.keeps fun b o e => (e0.bs b o e).1
    have nolim : s.heap.NoLimit := e0.mod.nolimit.keeps fun b o e => (e0.bs b o e).1
    refine codeAny_call_function hr.depth (kin _ _ lk) rfl Sc.co Sc.gen rfl (PySem.W.codeRec_of kin hcd) (hb _ _ _ _ (wpAny_newFunctionEnv_cells Sc.kind (fun y hy => ?_) fun env he s1 x => ?_))
    · obtain ⟨n, v⟩ := y
      exact (Sc.par n (List.of_mem_zip hy).1).imp id fun q => ⟨q, PySem.W.cellsFrom_some _ _ _ (.inl q)⟩
    · subst he
      obtain ⟨t, ht, hq⟩ := body cdv A up s H vs Q E (hr.deeper _) hgu hsp
      have J : Inv (cxOf CX0 Pg w K mg base N qual (defScope st) fA cdv A up s H E) [] (L2.start N vs) H s1 := inv_start Sc hr.hd e0 hlen rv x
      refine ⟨nolim.keeps x.toInCall.keep, codeAny_func (wpAny_mono (ht.nox.run [] s1 _ H _ J hq) (fun fl s' hs => ?_) fun e s' hs => hs)⟩
      cases fl with
      | ret u => obtain ⟨v, σ', H', J2, r2, q2⟩ := hs; exact ⟨v, H', J2.os, J2.bare, J2.base, J2.hok, r2, q2⟩
      | next => obtain ⟨σ', H', J2, q2⟩ := hs; exact ⟨V.non, H', J2.os, J2.bare, J2.base, J2.hok, rfl, q2⟩
      | brk => obtain ⟨_, _, _, q2⟩ := hs; exact q2.elim
      | cont => obtain ⟨_, _, _, q2⟩ := hs; exact q2.elim
end
/-- where a body stands: room for k calls, no guard around -/
structure Rm (k : Nat) (A : Around) : Prop where
  r : Room k A
  g : A.guards = some []
theorem Rm.mono {j k : Nat} {A : Around} (h : Rm k A) (l : j ≤ k) : Rm j A := ⟨h.r.mono l, h.g⟩
section
variable {X : Cx} {k : Nat} {fA C : Addr} {fd : FuncData} {ps ks : List Str} {sp : Sp} {dvs : List V} {ds : List Value} {E : XK} {x m : Str} {p pos apos : Pos} {e o : Expr} {es : List Expr} {kws : List Keyword} {ta : TE} {t tk : TA}
variable {pins : List (Addr × Obj)} {σ : L2.St} {H : Hp} {s : Shared} {Q : VK}
/-- the callee runs -/
theorem run_g {args : Args} {us : List Value} {vs : List V} (F : FnG X.prog X.w X.K X.mg X.base k fA fd ps sp) (hr : Rm k X.A) (hb : BindsTo s fd args (ps.zip us)) (I : Inv X pins σ H s) (r : Vals vs us) (h : sp vs H Q E) :
    wpAny (model X.prog X.w) X.A (call (.ref fA) args.pos args.kw) (EP X pins σ Q) X.xe s := by
  refine wpAny_call (codeAny_mono (F.go X.A X.stack s H args us vs Q E hr.r hr.g I.env0 hb r h) fun res s' hq => ?_)
  match res, hq with
  | .ok (.ret u), hq => exact I.after hq
  | .ok .next, hq => exact False.elim hq
  | .ok .brk, hq => exact False.elim hq
  | .ok .cont, hq => exact False.elim hq
  | .error er, hq => exact False.elim hq
theorem pe_g (F : FnG X.prog X.w X.K X.mg X.base k fA fd ps sp) (hr : Rm k X.A) (hg : Gl X x) (hm : X.mg x = some (.ref fA)) (hk : PySem.W.keepIn X.K (.ref fA) = true) (hb : Binds X.K fd ps ds) (hd : Vals dvs ds)
    (ha : PA X (e :: es) t) (hdb : (x == ("__debug__" : Str)) = false) (he : starEach (e :: es) X.env = (false, eval e X.env) :: starEach es X.env) (hpl : (backTo pos (starEach es X.env)).any (·.1) = false) :
    PE X (.Call (.Name x p) (e :: es) [] pos) (tCall sp dvs E t) := ⟨fun pins s σ H Q I h => by
  refine wpAny_Call_Name_kw (ld_glob I hg hm (PySem.W.callWith_K (h₀ := X.base) I.ok.mod.kin hk (thn (ha.run pos pins s σ H _ I h) fun us s1 hv => ?_) he hpl) hdb)
  obtain ⟨vs, H1, I1, r, q⟩ := hv
  have r2 := r.append hd
  exact ⟨I1.kIn, run_g (args := ⟨us, []⟩) F hr (hb s1 us I1.kIn (by rw [← r2.length]; exact F.num _ _ _ _ q)) I1 r2 q⟩⟩
/-- by places -/
def pick {α : Type} (ix : List Nat) (l : List α) : List α := ix.filterMap fun i => l[i]?
theorem vals_pick {vs : List V} {us : List Value} (r : Vals vs us) : ∀ ix : List Nat, Vals (pick ix vs) (pick ix us)
  | [] => .nil
  | i :: ix => by
    have ih := vals_pick r ix
    unfold pick at ih ⊢
    rw [List.filterMap_cons, List.filterMap_cons]
    cases e : vs[i]? with
    | none => rw [r.none_of e]; exact ih
    | some v =>
      obtain ⟨u, e1, h⟩ := r.get e
      rw [e1]
      exact .cons h ih
/-- n positional arguments, the keywords ks: how they come to the parameters -/
structure KBd (K : PySem.W.Frag) (fd : FuncData) (ps ks : List Str) (n : Nat) (ix : List Nat) : Prop where
  to : ∀ (s : Shared) (us ws : List Value), K.In s.heap → us.length = n → ws.length = ks.length → BindsTo s fd ⟨us, ks.zip ws⟩ (ps.zip (pick ix (us ++ ws)))
/-- a new instance -/
theorem run_gmk {us ws : List Value} {vs : List V} {ix : List Nat} {n : Nat} (M : Mk X.K C fA) (F : FnG X.prog X.w X.K X.mg X.base k fA fd ps sp) (hr : Rm (k + 1) X.A) (hb : KBd X.K fd ps ks n ix) (l1 : us.length + 1 = n) (l2 : ws.length = ks.length)
    (I : Inv X pins σ H s) (r : Vals vs (us ++ ws)) (h : ∀ xa dx, H xa = none → H dx = none → dx ≠ xa → sp (pick ix (.ref xa :: vs)) (upd (upd H dx (.own xa)) xa (.ins C dx [])) (fun v H2 => v = .non ∧ Q (.ref xa) H2) E) :
    wpAny (model X.prog X.w) X.A (call (.ref C) us (ks.zip ws)) (EP X pins σ Q) X.xe s := by
  have hnew := h (s.heap.objs.size + 1) s.heap.objs.size (I.hok.fresh (Nat.le_succ _)) (I.hok.fresh (Nat.le_refl _)) (Nat.ne_of_lt (Nat.lt_succ_self _))
  have I2 := Inv.made (C := C) I
  have rn : Vals (V.ref (s.heap.objs.size + 1) :: vs) ((Value.ref (s.heap.objs.size + 1) :: us) ++ ws) := .cons rfl r
  have hgu : (X.A.under (.builtin "type.__call__" ⟨.ref C :: us, ks.zip ws⟩)).guards = some [] := by
    show pushGuards (Code.guards (.builtin "type.__call__" ⟨.ref C :: us, ks.zip ws⟩)) X.A.guards = some []
    rw [hr.g]
    first
      | rfl
      | simp [Code.guards, Code.isGuard, pushGuards]
  refine wpAny_call (make_map (f := fA) I.kIn M.makes M.init (beq_iff_eq.mp M.fn) (codeAny_mono (F.go _ X.stack _ _ ⟨Value.ref (s.heap.objs.size + 1) :: us, ks.zip ws⟩ _ _ _ E (hr.r.make C us (ks.zip ws)) hgu
    (I2.env0.make C us (ks.zip ws)) (hb.to _ (Value.ref (s.heap.objs.size + 1) :: us) ws I2.kIn l1 l2) (vals_pick rn ix) hnew) fun res s' hq => ?_))
  match res, hq with
  | .ok (.ret u), hq =>
    obtain ⟨v, H', I3, rv, ev, q3⟩ := I2.after hq
    subst ev
    exact ⟨rv, V.ref (s.heap.objs.size + 1), H', I3, rfl, q3⟩
  | .ok .next, hq => exact False.elim hq
  | .ok .brk, hq => exact False.elim hq
  | .ok .cont, hq => exact False.elim hq
  | .error er, hq => exact False.elim hq
/-- C(.., k = ..): n the positional ones with self -/
def tMkI (C : Addr) (sp : Sp) (n m : Nat) (ix : List Nat) (E : XK) (t tk : TA) : TE := fun σ H Q => t σ H fun vs H1 => tk σ H1 fun zs H2 => vs.length + 1 = n ∧ zs.length = m ∧ ∀ xa dx, H2 xa = none → H2 dx = none → dx ≠ xa →
  sp (pick ix (.ref xa :: (vs ++ zs))) (upd (upd H2 dx (.own xa)) xa (.ins C dx [])) (fun v H3 => v = .non ∧ Q (.ref xa) H3) E
theorem pe_gmk {n : Nat} {ix : List Nat} (M : Mk X.K C fA) (F : FnG X.prog X.w X.K X.mg X.base k fA fd ps sp) (hr : Rm (k + 1) X.A) (hg : Gl X x) (hm : X.mg x = some (.ref C)) (hb : KBd X.K fd ps [] n ix)
    (ha : PA X (e :: es) t) (hdb : (x == ("__debug__" : Str)) = false) (he : starEach (e :: es) X.env = (false, eval e X.env) :: starEach es X.env) (hpl : (backTo pos (starEach es X.env)).any (·.1) = false) :
    PE X (.Call (.Name x p) (e :: es) [] pos) (tMkI C sp n 0 ix E t tNil) := ⟨fun pins s σ H Q I h => by
  refine wpAny_Call_Name_kw (ld_glob I hg hm (PySem.W.callWith_K (h₀ := X.base) I.ok.mod.kin M.kp (thn (ha.run pos pins s σ H _ I h) fun us s1 hv => ?_) he hpl) hdb)
  obtain ⟨vs, H1, I1, r, l1, l2, q⟩ := hv
  exact ⟨I1.kIn, run_gmk (us := us) (ks := []) (ws := []) M F hr hb (by rw [← r.length]; exact l1) rfl I1 (by rw [List.append_nil]; exact r) (by rw [List.append_nil] at q; exact q)⟩⟩
/-- a property -/
theorem pe_gp {fn : Str} {pA : Addr} (he : PE X e ta) (c : Cls X.K C) (hp : PropOf X.K C fn pA fA) (F : FnG X.prog X.w X.K X.mg X.base k fA fd ps sp) (hr : Rm (k + 1) X.A) (hb : Binds X.K fd ps [])
    (hab : attributeBase e fn X.env (eval e X.env) = eval e X.env) : PE X (.Attribute e fn pos) (tProp C sp [] E ta) := ⟨fun pins s σ H Q I h => by
  refine attr_of hab (thn (he.run pins s σ H _ I h) fun u s1 hv => ?_)
  obtain ⟨x, H1, I1, rx, a, dx, fs, ex, ea, q⟩ := hv
  subst ex
  obtain rfl : u = Value.ref a := rx
  obtain ⟨mA, O, _⟩ := ins_get I1.hok ea
  obtain ⟨od, J, _⟩ := O.look
  obtain ⟨rest, hrec⟩ := hp.rec_
  have I3 := I1.tok (s1.toks + 1)
  have hc : (PySem.W.clsIn X.K C).isSome = true := by
    obtain ⟨cd, hc, _⟩ := PySem.W.any_some c.hd
    rw [hc]
    rfl
  have r2 : Vals [V.ref a] [Value.ref a] := .cons rfl .nil
  refine PySem.W.get_bind I1.kIn J (PySem.W.plainGet_of (c.get fn)).1 (PySem.W.findObj_data hc hp.at_ hp.get hp.tak) (PySem.W.plainGet_of (c.get fn)).2 (wpAny_call (PySem.W.prop_get (s := { s1 with toks := s1.toks + 1 }) I1.kIn hrec ?_))
  refine codeAny_mono (F.go X.A.in1 X.stack { s1 with toks := s1.toks + 1 } H1 ⟨[.ref a], []⟩ [.ref a] [.ref a] Q E hr.r.in1 hr.g I3.env0.in1 (hb _ [.ref a] I3.kIn (by rw [List.append_nil, ← r2.length]; exact F.num _ _ _ _ q)) r2 q) fun res s' hq => ?_
  match res, hq with
  | .ok (.ret u), hq =>
    obtain ⟨v, H', I4, rv, q3⟩ := I3.after hq
    show wpAny _ _ (handedOut u) _ _ _
    rw [PySem.W.handedOut_of (handed_of rv)]
    exact wpAny_pure ⟨v, H', I4, rv, q3⟩
  | .ok .next, hq => exact False.elim hq
  | .ok .brk, hq => exact False.elim hq
  | .ok .cont, hq => exact False.elim hq
  | .error er, hq => exact False.elim hq⟩
end
end PL
set_option Elab.async false
set_option linter.all false
set_option maxRecDepth 100000
set_option maxHeartbeats 4000000
namespace PL
open PySem PySem.Spec PyProof.Rows L2
section
variable {X : Cx} {z : Z} {O OI OM OO OL : List Nat} {EX : EXT} {a b c e : Expr} {es : List Expr} {f g h : FE} {fa : FA} {fs gs : FS} {pos : Pos} {st : Stmt} {sts : List Stmt}
variable {B : List Addr} {P : List (Nat × Addr)} {σ σ' : L2.St} {H H' : Hp} {ρ ρ' : Env} {S S' : List D}
/-! ### one reading for all contexts -/
def tCanE (z : Z) (O : List Nat) (EX : EXT) (f : FE) : TE := fun σ H Q => ∃ B P ρ S, P.map (·.1) = O ∧ Rel z B P σ H ρ S ∧ Sat (f ρ S) (fun r => ∀ v H', Grow z H H' → Rel z B P σ H' ρ r.2 → Rp z.K z.ca (Frz H' (z.L B P)) v r.1 → Q v H') EX
theorem PD.can (ha : PD X z O EX e f) : PE X e (tCanE z O EX f) := by
  obtain ⟨t, p, q⟩ := ha.ex
  exact ⟨fun pins s σ H Q I ⟨B, P, ρ, S, hP, r, h⟩ => p.run pins s σ H Q I (q B P σ H ρ S Q hP r h)⟩
theorem can_E : EvE z O EX (tCanE z O EX f) f := fun B P σ H ρ S Q hP r h => ⟨B, P, ρ, S, hP, r, h⟩
def tCanT (z : Z) (O : List Nat) (EX : EXT) (f : FT) : TT := fun σ H Q => ∃ B P ρ S, P.map (·.1) = O ∧ Rel z B P σ H ρ S ∧ Sat (f ρ S) (fun r => ∀ H', Grow z H H' → Rel z B P σ H' ρ r.2 → Q r.1 H') EX
theorem PTd.can {f : FT} (ha : PTd X z O EX e f) : PT X e (tCanT z O EX f) := by
  obtain ⟨t, p, q⟩ := ha.ex
  exact ⟨fun pins s σ H Q I ⟨B, P, ρ, S, hP, r, h⟩ => p.run pins s σ H Q I (q B P σ H ρ S Q hP r h)⟩
def tCanG (z : Z) (O : List Nat) (EX : EXT) (ts : List Nat) (g : FG) : TG := fun v σ H Q => ∃ B P ρ S d, P.map (·.1) = O ∧ Rel z B P σ H ρ S ∧ Rp z.K z.ca (Frz H (z.L B P)) v d ∧
  Sat (g d ρ S) (fun r => ∀ σ' H', Grow z H H' → Rel z B P σ' H' r.1 r.2 → σ'.length = σ.length → (∀ i, i ∉ ts → σ'[i]? = σ[i]?) → Q σ' H') EX
theorem PGd.can {ts : List Nat} {g : FG} (ha : PGd X z O EX ts e g) : PG X e (tCanG z O EX ts g) := by
  obtain ⟨t, p, q⟩ := ha.ex
  exact ⟨fun pins s σ H v u Q I rv ⟨B, P, ρ, S, d, hP, r, hv, h⟩ => p.run pins s σ H v u Q I rv (q B P σ H ρ S v d Q hP r hv h)⟩
theorem can_G {ts : List Nat} {g : FG} : EvG z O EX ts (tCanG z O EX ts g) g := fun B P σ H ρ S v d Q hP r hv h => ⟨B, P, ρ, S, d, hP, r, hv, h⟩
/-! ### list comprehensions -/
def wipeE (ρ : Env) : List Nat → Env
  | [] => ρ
  | v :: vs => (wipeE ρ vs).set v none
theorem wipeE_len (ρ : Env) : ∀ vs, (wipeE ρ vs).length = ρ.length
  | [] => rfl
  | v :: vs => by show ((wipeE ρ vs).set v none).length = _; rw [List.length_set, wipeE_len ρ vs]
theorem wipeE_get (ρ : Env) : ∀ vs i, i ∉ vs → (wipeE ρ vs)[i]? = ρ[i]?
  | [], i, _ => rfl
  | v :: vs, i, h => by
    show ((wipeE ρ vs).set v none)[i]? = _
    rw [List.mem_cons, not_or] at h
    rw [List.getElem?_set_ne (Ne.symm h.1), wipeE_get ρ vs i h.2]
theorem wipeE_in (ρ : Env) : ∀ vs i, i ∈ vs → ∀ d, (wipeE ρ vs)[i]? ≠ some (some d)
  | v :: vs, i, h, d => by
    show ((wipeE ρ vs).set v none)[i]? ≠ _
    by_cases e : v = i
    · subst e
      rw [List.getElem?_set]
      simp only [if_true]
      split
      · exact fun z => nomatch z
      · exact fun z => nomatch z
    · rw [List.getElem?_set_ne e]
      rcases List.mem_cons.mp h with h | h
      · exact absurd h.symm e
      · exact wipeE_in ρ vs i h d
theorem wipe_get (σ : L2.St) : ∀ vs i, i ∉ vs → (wipe σ vs)[i]? = σ[i]?
  | [], i, _ => rfl
  | v :: vs, i, h => by
    show ((wipe σ vs).set v none)[i]? = _
    rw [List.mem_cons, not_or] at h
    rw [List.getElem?_set_ne (Ne.symm h.1), wipe_get σ vs i h.2]
theorem wipe_in (σ : L2.St) : ∀ vs i, i ∈ vs → i < σ.length → (wipe σ vs)[i]? = some none
  | v :: vs, i, h, hl => by
    show ((wipe σ vs).set v none)[i]? = _
    by_cases e : v = i
    · subst e
      rw [List.getElem?_set_self (by rw [wipe_length]; exact hl)]
    · rw [List.getElem?_set_ne e]
      rcases List.mem_cons.mp h with h | h
      · exact absurd h.symm e
      · exact wipe_in σ vs i h hl
theorem wipe_eq {vs : List Nat} (hl : σ'.length = σ.length) (k : ∀ i, i ∉ vs → σ'[i]? = σ[i]?) : wipe σ' vs = wipe σ vs := by
  apply List.ext_getElem?
  intro i
  by_cases h : i ∈ vs
  · by_cases hi : i < σ.length
    · rw [wipe_in σ vs i h hi, wipe_in σ' vs i h (by rw [hl]; exact hi)]
    · rw [List.getElem?_eq_none (by rw [wipe_length]; omega), List.getElem?_eq_none (by rw [wipe_length]; omega)]
  · rw [wipe_get σ vs i h, wipe_get σ' vs i h, k i h]
theorem Rel.wipe {vs : List Nat} (r : Rel z B P σ H ρ S) (hP : ∀ p ∈ P, p.1 ∉ vs) (hz : ∀ i a, z.pl = some (i, a) → i ∉ vs) (hk : ∀ i ∈ vs, i ∉ z.kp) : Rel z B P (L2.wipe σ vs) H (wipeE ρ vs) S where
  val := fun i d n h => by
    by_cases hi : i ∈ vs
    · exact absurd h (wipeE_in ρ vs i hi d)
    · rw [wipeE_get ρ vs i hi] at h
      rw [wipe_get σ vs i hi]
      exact r.val i d n h
  own := fun p hp => by
    rw [wipe_get σ vs _ (hP p hp), wipeE_get ρ vs _ (hP p hp)]
    exact r.own p hp
  pool := fun i a e => by
    rw [wipe_get σ vs _ (hz i a e), wipeE_get ρ vs _ (hz i a e)]
    exact r.pool i a e
  nd := r.nd
  there := r.there
  ex := r.ex
  new := r.new
  len := by rw [wipe_length, wipeE_len]; exact r.len
  tabs := r.tabs
  xt := ⟨r.xt.1, fun j hj => by rw [wipe_get σ vs j fun h => hk j h hj]; exact r.xt.2 j hj⟩
def noX {α : Type} (r : R α) : R α := match r with | .ok a => .ok a | _ => .bad
theorem sat_noX {α : Type} {r : R α} {Q : α → Prop} {EX : EXT} (h : Sat (noX r) Q EX) : Sat r Q EX0 := by
  cases r with
  | ok a => exact h
  | exc c ns vs => exact False.elim h
  | bad => exact h
def lcL (vs : List Nat) (g : FG) (tt : FT) (te : FE) (ρ : Env) : List D → List D → List D → R (List D × List D)
  | [], S, acc => R.ok (acc, S)
  | d :: r, S, acc => g d (wipeE ρ vs) S >>= fun ρ1 => tt ρ1.1 ρ1.2 >>= fun b => if b.1 then te ρ1.1 b.2 >>= fun y => (if acc.length < LINE then lcL vs g tt te ρ r y.2 (acc ++ [y.1]) else R.bad) else lcL vs g tt te ρ r b.2 acc
def lcE (vs : List Nat) (fi : FA) (g : FG) (tt : FT) (te : FE) : FA := fun ρ S => fi ρ S >>= fun x => noX (lcL vs g tt te ρ x.1 x.2 [])
def yesT : FT := fun _ S => R.ok (true, S)
theorem evT_yes : EvT z O EX tYes yesT := fun B P σ H ρ S Q hP r h => h H Grow.refl r
theorem ev_lc {ts vs : List Nat} {wi : TI} {gt : TG} {tt : TT} {te : TE} {fi : FA} {gg : FG} {ft : FT} {fe : FE} (qi : EvI z O EX wi fi) (qg : EvG z O EX0 ts gt gg) (qt : EvT z O EX0 tt ft) (qe : EvE z O EX0 te fe)
    (hts : ∀ i ∈ ts, i ∈ vs) (hO : ∀ i ∈ O, i ∉ vs) (hz : ∀ i ∈ vs, NotPl z i) : EvF z O EX (tLc wi gt tt te vs) (lcE vs fi gg ft fe) := by
  intro B P σ H ρ S Q hP rr hs
  refine qi B P σ H ρ S _ hP rr ((sat_bind.mp hs).imp fun x hx J H1 g1 r1 it => ?_)
  intro Da hD
  have hPv : ∀ p ∈ P, p.1 ∉ vs := fun p hp => hO p.1 (by rw [← hP]; exact List.mem_map_of_mem hp)
  have hzv : ∀ i a, z.pl = some (i, a) → i ∉ vs := fun i a e h => (hz i h).1 i a e rfl
  obtain ⟨items, S1⟩ := x
  have hx := sat_noX hx
  obtain ⟨r2, m2⟩ := r1.hide (o := .lst []) hD
  have h0 := h0_none r1 hD (not_pls (r1.fresh hD))
  refine ⟨fun i m H2 => m = items.length - i ∧ i ≤ items.length ∧ ∃ S2 acc av, H2 Da = some (.lst av) ∧ Grow z H1 H2 ∧ Rel z (Da :: B) P σ H2 ρ S2 ∧ Ex (Frz H1 (z.L B P)) (Frz H2 (z.L (Da :: B) P)) ∧ RpA z.K z.ca (Frz H2 (z.L (Da :: B) P)) av acc ∧
    Sat (lcL vs gg ft fe ρ (items.drop i) S2 acc) (fun r => ∀ p xs H', Grow z H H' → H' p = some (.lst xs) → z.H0 p = none → H p = none → Rel z (p :: B) P σ H' ρ r.2 → Ex (Frz H (z.L B P)) (Frz H' (z.L (p :: B) P)) → RpA z.K z.ca (Frz H' (z.L (p :: B) P)) xs r.1 → Q (.ref p) H') EX0,
    ⟨items.length, by simp, Nat.zero_le _, S1, [], [], upd_same, Grow.of (Ex.new hD), r2, m2, .nil, hx⟩, ?_⟩
  rintro i m H2 ⟨rfl, hil, S2, acc, av, e2, g2, r3, m3, ra, h2⟩
  by_cases hlt : i < items.length
  · have ed : items.drop i = items[i] :: items.drop (i + 1) := List.drop_eq_getElem_cons hlt
    rw [ed] at h2
    have it3 : Ex (Frz H1 (z.L B P)) (Frz H2 (z.L (Da :: B) P)) := m3
    refine .inr ⟨it.go i (Da :: B) P H2 it3 hlt, fun H' => items.length - (i + 1) = items.length - (i + 1) ∧ i + 1 ≤ items.length ∧ ∃ S2 acc av, H' Da = some (.lst av) ∧ Grow z H1 H' ∧ Rel z (Da :: B) P σ H' ρ S2 ∧ Ex (Frz H1 (z.L B P)) (Frz H' (z.L (Da :: B) P)) ∧ RpA z.K z.ca (Frz H' (z.L (Da :: B) P)) av acc ∧
      Sat (lcL vs gg ft fe ρ (items.drop (i + 1)) S2 acc) (fun r => ∀ p xs H', Grow z H H' → H' p = some (.lst xs) → z.H0 p = none → H p = none → Rel z (p :: B) P σ H' ρ r.2 → Ex (Frz H (z.L B P)) (Frz H' (z.L (p :: B) P)) → RpA z.K z.ca (Frz H' (z.L (p :: B) P)) xs r.1 → Q (.ref p) H') EX0,
      fun H' n => ⟨items.length - (i + 1), by omega, n⟩, fun x H' y => ?_⟩
    obtain ⟨ex', rp'⟩ := it.yld i (Da :: B) P H2 x H' items[i] it3 (fun p hp => r3.fresh hp) y (by simp [hlt])
    have r3' := r3.grow ex'
    have hDn : Da ∉ z.pls := fun q => by
      have nd := r3.nd
      unfold Z.L at nd
      exact (List.nodup_append.mp (List.nodup_append.mp nd).2.1).2.2 Da q Da List.mem_cons_self rfl
    refine qg (Da :: B) P (L2.wipe σ vs) H' (wipeE ρ vs) S2 x items[i] _ hP (r3'.wipe hPv hzv fun i h => (hz i h).2) rp' ((sat_bind.mp h2).imp fun ρ3 h3 σ3 H3 g3 r4 l4 k4 => ?_)
    refine ⟨?_, ?_⟩
    · have e5 : wipe σ3 vs = wipe (wipe σ vs) vs := wipe_eq l4 fun i hi => k4 i fun q => hi (hts i q)
      have e6 : wipe (wipe σ vs) vs = wipe σ vs := wipe_eq (wipe_length _ _) fun i hi => wipe_get σ vs i hi
      rw [e5, e6]
    · refine qt (Da :: B) P σ3 H3 ρ3.1 ρ3.2 _ hP r4 ((sat_bind.mp h3).imp fun b hb H4 g4 r5 => ?_)
      obtain ⟨k, S5⟩ := b
      cases k with
      | true =>
        show te σ3 H4 _
        have hb : Sat (fe ρ3.1 S5 >>= fun y => if acc.length < LINE then lcL vs gg ft fe ρ (items.drop (i + 1)) y.2 (acc ++ [y.1]) else R.bad) _ EX0 := hb
        refine qe (Da :: B) P σ3 H4 ρ3.1 S5 _ hP r5 ((sat_bind.mp hb).imp fun y hy v H5 g5 r6 hv => ?_)
        split at hy
        · rename_i w
          have gall : Grow z H2 H5 := (Grow.of ex').trans (g3.trans (g4.trans g5))
          have e5 : H5 Da = some (.lst av) := gall Da _ hDn e2
          refine ⟨av, e5, line_lt (by rw [ra.length]; exact w), rfl, hlt, y.2, acc ++ [y.1], av ++ [v], upd_same, ?_, ?_, ?_, ?_, hy⟩
          · intro a o n h
            have ne : a ≠ Da := ne_of_none h hD
            rw [upd_ne ne]
            exact gall a o n (g2 a o n h)
          · -- the new list's content is not looked at by the frame
            have rb := r3.back gall r6
            have hm : Da ∈ z.L (Da :: B) P := by
              unfold Z.L
              exact List.mem_append_right _ (List.mem_append_right _ List.mem_cons_self)
            have ef : Frz (upd H5 Da (.lst (av ++ [v]))) (z.L (Da :: B) P) = Frz H5 (z.L (Da :: B) P) := by
              funext a
              unfold Frz
              by_cases ha : a ∈ z.L (Da :: B) P
              · rw [if_pos ha, if_pos ha]
              · rw [if_neg ha, if_neg ha, upd_ne fun (e1 : a = Da) => ha (by rw [e1]; exact hm)]
            have nP : ∀ p ∈ P, p.2 ≠ Da := fun p hp e => by
              have nd := r3.nd
              unfold Z.L at nd
              exact (List.nodup_append.mp nd).2.2 p.2 (List.mem_map_of_mem hp) Da (List.mem_append_right _ List.mem_cons_self) e
            refine ⟨fun i d n h => ?_, fun p hp => ?_, fun i a e => ?_, rb.nd, fun b hb => ?_, fun a o h n => ?_, rb.new, rb.len, tabs_upd rb.tabs e5 (fun _ z => nomatch z) (fun _ z => nomatch z), rb.xt⟩
            · obtain ⟨v', e1, q⟩ := rb.val i d n h
              exact ⟨v', e1, ef ▸ q⟩
            · obtain ⟨e1, xs, ds, e2, e3, q⟩ := rb.own p hp
              exact ⟨e1, xs, ds, by rw [upd_ne (nP p hp)]; exact e2, e3, ef ▸ q⟩
            · obtain ⟨e1, e0, xs, e2, q⟩ := rb.pool i a e
              have ha : a ∈ z.pls := by
                unfold Z.pls
                rw [e]
                exact List.mem_append_left _ List.mem_cons_self
              exact ⟨e1, e0, xs, by rw [upd_ne fun (e9 : a = Da) => hDn (by rw [← e9]; exact ha)]; exact e2, ef ▸ q⟩
            · by_cases hbD : b = Da
              · rw [hbD, upd_same]; exact fun z => nomatch z
              · rw [upd_ne hbD]; exact rb.there b hb
            · have ne : a ≠ Da := fun e9 => by
                rw [e9, h0] at h
                cases h
              rw [upd_ne ne]
              exact rb.ex a o h n
          · refine m3.trans (gall.frz.trans fun a o h => ?_)
            unfold Frz at h ⊢
            split at h
            · cases h
            · rename_i n
              rw [if_neg n, upd_ne fun (e9 : a = Da) => n (by
                rw [e9]
                unfold Z.L
                exact List.mem_append_right _ (List.mem_append_right _ List.mem_cons_self))]
              exact h
          · have ef : Ex (Frz H5 (z.L (Da :: B) P)) (Frz (upd H5 Da (.lst (av ++ [v]))) (z.L (Da :: B) P)) := fun a o h => by
              unfold Frz at h ⊢
              split at h
              · cases h
              · rename_i n
                rw [if_neg n, upd_ne fun (e9 : a = Da) => n (by
                  rw [e9]
                  unfold Z.L
                  exact List.mem_append_right _ (List.mem_append_right _ List.mem_cons_self))]
                exact h
            exact ((ra.mono gall.frz).append (.cons hv .nil)).mono ef
        · exact hy.elim
      | false =>
        show _ = _ ∧ _
        have gall : Grow z H2 H4 := (Grow.of ex').trans (g3.trans g4)
        exact ⟨rfl, hlt, S5, acc, av, gall Da _ hDn e2, g2.trans gall, r3.back gall r5, m3.trans gall.frz, ra.mono gall.frz, hb⟩
  · have e : i = items.length := by omega
    subst e
    rw [List.drop_length] at h2
    refine .inl ⟨it.stop (Da :: B) P H2 m3, ?_⟩
    exact h2 Da av H2 (g1.trans g2) e2 h0 (g1.none (not_pls (r1.fresh hD)) hD) r3 (g1.frz.trans m3) ra
theorem pf_lc {ts vs : List Nat} {tg iter elt : Expr} {ifs : List Expr} {scope : Scope} {own : List (Str × Nat)} {fi : FA} {gg : FG} {ft : FT} {fe : FE} {tt : TT} (hc : X.calm = true) (hN : X.N.Nodup) (hi : PId X z O EX tg iter fi) (ok : BlkOk X.N X.env.scope scope own)
    (hg : ∀ (s : Shared) (H : Hp) (C : Addr) (cl : List (Str × Addr)) (fp : List Addr), PGd (X.blk s H scope (compEnvC scope cl C X.env) fp) z O EX0 ts tg gg)
    (ht : ∀ (s : Shared) (H : Hp) (C : Addr) (cl : List (Str × Addr)) (fp : List Addr), PTs (X.blk s H scope (compEnvC scope cl C X.env) fp) ifs tt) (qt : EvT z O EX0 tt ft)
    (he : ∀ (s : Shared) (H : Hp) (C : Addr) (cl : List (Str × Addr)) (fp : List Addr), PD (X.blk s H scope (compEnvC scope cl C X.env) fp) z O EX0 elt fe) (hz : ∀ i ∈ own.map (·.2), NotPl z i)
    (hts : (ts.all fun i => (own.map (·.2)).contains i) = true := by rfl) (hO : (O.all fun i => !(own.map (·.2)).contains i) = true := by rfl)
    (hs : ∀ x, foldedSetIterable iter X.env x = pure x := by intro _; rfl) : PF X z O EX (.ListComp elt [⟨tg, iter, ifs, 0⟩] scope pos) (lcE (own.map (·.2)) fi gg ft fe) := by
  obtain ⟨w, pw, qw⟩ := hi.ex
  refine ⟨_, pe_lc hc hN pw ok (fun s H C cl fp => (hg s H C cl fp).can) ht (fun s H C cl fp => (he s H C cl fp).can) hs, ev_lc qw can_G qt can_E (fun i hi => ?_) (fun i hi => ?_) hz⟩
  · have := List.all_eq_true.mp hts i hi
    simpa using this
  · have := List.all_eq_true.mp hO i hi
    simpa using this
/-! ### defs -/
/-- a def's promise: it hands back what F tells; L: what is hidden, the tables T among it -/
def spF (K : PySem.W.Frag) (ca : Str → Option Addr) (T : Tb) (F : List D → R D) : Sp := fun vs H Q _ => ∃ ds B, B.Nodup ∧ (∀ b ∈ B, H b ≠ none) ∧ TIn T B H ∧ RpA K ca (Frz H B) vs ds ∧ Sat (F ds) (fun d => ∀ v H', GrT T H H' → LamX.Tabs T H' → Rp K ca (Frz H' B) v d → Q v H') EX0
/-- .. it changes its first argument, a list of the caller's -/
def spP (K : PySem.W.Frag) (ca : Str → Option Addr) (T : Tb) (F : List D → List D → R (D × List D)) : Sp := fun vs H Q _ => ∃ p ws xs S ds B, vs = .ref p :: ws ∧ H p = some (.lst xs) ∧ (p :: B).Nodup ∧ (∀ b ∈ B, H b ≠ none) ∧ TIn T B H ∧ RpA K ca (Frz H (p :: B)) xs S ∧ RpA K ca (Frz H (p :: B)) ws ds ∧
  Sat (F S ds) (fun r => ∀ v H' xs', (∀ a o, a ≠ p → a ∉ tbs T → H a = some o → H' a = some o) → LamX.Tabs T H' → H' p = some (.lst xs') → RpA K ca (Frz H' (p :: B)) xs' r.2 → Rp K ca (Frz H' (p :: B)) v r.1 → Q v H') EX0
/-- .. it hands back a new list -/
def spN (K : PySem.W.Frag) (ca : Str → Option Addr) (T : Tb) (F : List D → R (List D)) : Sp := fun vs H Q _ => ∃ ds B, B.Nodup ∧ (∀ b ∈ B, H b ≠ none) ∧ TIn T B H ∧ RpA K ca (Frz H B) vs ds ∧
  Sat (F ds) (fun d => ∀ p xs H', H p = none → GrT T H H' → LamX.Tabs T H' → H' p = some (.lst xs) → RpA K ca (Frz H' (p :: B)) xs d → Q (.ref p) H') EX0
def endD (r : Ctl × Env × List D) : R D := match r.1 with | .rt d => R.ok d | .nx => R.ok .non | _ => R.bad
def startE (n : Nat) (ds : List D) : Env := ds.map some ++ List.replicate (n - ds.length) none
/-- a def's function: n places, k parameters -/
def runF (n k : Nat) (fs : FS) : List D → R D := fun ds => if ds.length = k then fs (startE n ds) [] >>= endD else R.bad
/-- what is hidden beside the tables -/
def beside (T : Tb) (L : List Addr) : List Addr := L.filter fun a => !decide (a ∈ tbs T)
theorem beside_mem {T : Tb} {L : List Addr} {a : Addr} : a ∈ beside T L ↔ a ∈ L ∧ a ∉ tbs T := by
  unfold beside
  rw [List.mem_filter]
  simp
theorem beside_nd {T : Tb} {L : List Addr} (h : L.Nodup) (t : (tbs T).Nodup) : (tbs T ++ beside T L).Nodup :=
  List.nodup_append.mpr ⟨t, h.filter _, fun a ha b hb e => (beside_mem.mp hb).2 (e ▸ ha)⟩
theorem beside_iff {T : Tb} {L : List Addr} (s : ∀ a ∈ tbs T, a ∈ L) (a : Addr) : a ∈ tbs T ++ beside T L ↔ a ∈ L := by
  rw [List.mem_append, beside_mem]
  refine ⟨fun h => h.elim (s a) (·.1), fun h => ?_⟩
  by_cases q : a ∈ tbs T
  · exact .inl q
  · exact .inr ⟨h, q⟩
theorem rel_start {K : PySem.W.Frag} {ca : Str → Option Addr} {T : Tb} {N : List Str} {vs : List V} {ds : List D} (hB : B.Nodup) (hb : ∀ b ∈ B, H b ≠ none) (ti : TIn T B H) (hv : RpA K ca (Frz H B) vs ds) : Rel ⟨K, ca, H, none, .lst, T, [], [], []⟩ (beside T B) [] (L2.start N vs) H (startE N.length ds) [] where
  val := fun i d _ h => by
    have hl := hv.length
    unfold startE at h
    unfold L2.start
    by_cases hi : i < ds.length
    · rw [List.getElem?_append_left (by simpa using hi), List.getElem?_map] at h
      cases e : ds[i]? with
      | none => rw [e] at h; cases h
      | some d' =>
        rw [e] at h
        cases h
        obtain ⟨v, e1, q⟩ := hv.get e
        have ef : Frz H (Z.L ⟨K, ca, H, none, .lst, T, [], [], []⟩ (beside T B) []) = Frz H B := frz_congr fun a => beside_iff ti.sub a
        exact ⟨v, by rw [List.getElem?_append_left (by simp; omega), List.getElem?_map, e1]; rfl, ef ▸ q⟩
    · rw [List.getElem?_append_right (by simp; omega)] at h
      have := List.mem_of_getElem? h
      rw [List.mem_replicate] at this
      cases this.2
  own := fun p hp => nomatch hp
  pool := fun i a h => nomatch h
  nd := beside_nd hB ti.nd
  there := fun b hb' => hb b (beside_mem.mp hb').1
  ex := fun a o h _ => h
  new := fun p hp => nomatch hp
  len := by unfold L2.start startE; simp [hv.length]
  tabs := ti.tabs
  xt := ⟨fun _ h => (nomatch h), fun _ h => (nomatch h)⟩
section
variable {Pg : Program} {w : World} {K : PySem.W.Frag} {mg : Str → Option Value} {base : Heap} {ca : Str → Option Addr} {T : Tb}
theorem fn_d {x qual : Str} {st : Stmt} {fA : Addr} {fd : FuncData} {N ps : List Str} {k : Nat} {fs : FS} {OO : List Nat} (F : Fun K x qual st fA fd) (Sc : FnScope N ps (defScope st))
    (body : ∀ (cdv : Value) (A : Around) (outer : List PySem.Env) (s : Shared) (H : Hp) (E : XK), Rm k (A.deeper (envOfC qual (defScope st) s.heap.objs.size fA cdv)) →
      PSS (cxOf CX0 Pg w K mg base N qual (defScope st) fA cdv A outer s H E).nox ⟨K, ca, H, none, .lst, T, [], [], []⟩ [] OO [] EX0 (defBody st) fs) :
    FnG Pg w K mg base (k + 1) fA fd ps (spF K ca T (runF N.length ps.length fs)) := by
  refine fn_body F Sc (fun vs H Q E h => ?_) (fun cdv A outer s H vs Q E hr hgu h => ?_)
  · obtain ⟨ds, B, _, _, _, hv, hs⟩ := h
    rw [hv.length]
    unfold runF at hs
    split at hs
    · assumption
    · exact hs.elim
  · obtain ⟨ds, B, hB, hb, ti, hv, hs⟩ := h
    obtain ⟨t, p, q⟩ := (body cdv A outer s H E ⟨hr, hgu⟩).ex
    refine ⟨t, p, ?_⟩
    unfold runF at hs
    split at hs
    · have ef : ∀ H', Frz H' (Z.L ⟨K, ca, H, none, .lst, T, [], [], []⟩ (beside T B) []) = Frz H' B := fun H' => frz_congr fun a => beside_iff ti.sub a
      refine q (beside T B) [] (L2.start N vs) H (startE N.length ds) [] _ rfl (rel_start hB hb ti hv) ((sat_bind.mp hs).imp fun r hr => ?_)
      obtain ⟨c, ρ1, S1⟩ := r
      cases c with
      | nx =>
        intro P' σ' H' h1 h2 h3
        have hr : ∀ v H', GrT T H H' → LamX.Tabs T H' → Rp K ca (Frz H' B) v .non → Q v H' := hr
        exact hr .non H' (fun a o n e => h3.ex a o e n) h3.tabs .non
      | rt d =>
        intro v H' hf
        have hr : ∀ v H', GrT T H H' → LamX.Tabs T H' → Rp K ca (Frz H' B) v d → Q v H' := hr
        exact hr v H' (fun a o n e => hf.ex a o e n) hf.tabs (ef H' ▸ hf.val)
      | bk => exact hr.elim
      | ct => exact hr.elim
    · exact hs.elim
end
end
end PL
set_option Elab.async false
set_option linter.all false
set_option maxRecDepth 100000
set_option maxHeartbeats 4000000
namespace PL
open PySem PySem.Spec PyProof.Rows L2
section
variable {X : Cx} {z : Z} {O OI OM OO OL : List Nat} {EX : EXT} {a b c e o : Expr} {es : List Expr} {f g h : FE} {fa ga : FA} {fs gs : FS} {pos p apos : Pos} {st : Stmt} {sts : List Stmt}
variable {B : List Addr} {P : List (Nat × Addr)} {σ σ' : L2.St} {H H' : Hp} {ρ ρ' : Env} {S S' : List D} {x m : Str}
variable {k : Nat} {fA C : Addr} {fd : FuncData} {ps : List Str} {ds : List Value} {dvs : List V} {dds : List D} {kws : List Keyword}
/-! ### calls of defs -/
theorem Rel.tin (r : Rel z B P σ H ρ S) : TIn z.tb (z.L B P) H := by
  have nd := r.nd
  unfold Z.L Z.pls at nd
  refine ⟨(List.nodup_append.mp (List.nodup_append.mp (List.nodup_append.mp nd).2.1).1).2.1, fun a ha => ?_, r.tabs⟩
  unfold Z.L Z.pls
  exact List.mem_append_right _ (List.mem_append_left _ (List.mem_append_right _ ha))
theorem GrT.grow (g : GrT z.tb H H') : Grow z H H' := fun a o n h => g a o (fun q => n (by unfold Z.pls; exact List.mem_append_right _ q)) h
/-- behind a call: all as it was, but for the tables -/
theorem Rel.growT (r : Rel z B P σ H ρ S) (g : GrT z.tb H H') (tt : LamX.Tabs z.tb H') : Rel z B P σ H' ρ S := by
  have g' : Grow z H H' := g.grow
  have nd := r.nd
  have npl : ∀ a ∈ P.map (·.2), a ∉ z.pls := fun a ha hb => by
    unfold Z.L at nd
    exact (List.nodup_append.mp nd).2.2 a ha a (List.mem_append_left _ hb) rfl
  have nB : ∀ a ∈ B, a ∉ z.pls := fun a ha hb => by
    unfold Z.L at nd
    exact (List.nodup_append.mp (List.nodup_append.mp nd).2.1).2.2 a hb a ha rfl
  refine ⟨fun i d n h => ?_, fun q hq => ?_, fun i a e => ?_, r.nd, fun b hb => ?_, fun a o h n => g' a o n (r.ex a o h n), r.new, r.len, tt, r.xt⟩
  · obtain ⟨v, e1, q⟩ := r.val i d n h
    exact ⟨v, e1, q.mono g'.frz⟩
  · obtain ⟨e1, xs, ds, e2, e3, q'⟩ := r.own q hq
    exact ⟨e1, xs, ds, g' _ _ (npl _ (List.mem_map_of_mem hq)) e2, e3, q'.mono g'.frz⟩
  · obtain ⟨e1, e0, xs, e2, q⟩ := r.pool i a e
    refine ⟨e1, e0, xs, g a _ (fun h => ?_) e2, q.mono g'.frz⟩
    unfold Z.L Z.pls at nd
    exact (List.nodup_append.mp (List.nodup_append.mp (List.nodup_append.mp nd).2.1).1).2.2 a (by rw [e]; exact List.mem_cons_self) a h rfl
  · have q := r.there b hb
    cases e : H b with
    | none => exact absurd e q
    | some u => rw [g' b u (nB b hb) e]; exact fun z => nomatch z
def callD (F : List D → R D) (dds : List D) (fa : FA) : FE := fun ρ S => fa ρ S >>= fun x => noX (F (x.1 ++ dds)) >>= fun d => R.ok (d, x.2)
theorem spF_of {F : List D → R D} {vs : List V} {xs : List D} {Q : VK} {E : XK} (r1 : Rel z B P σ H ρ S) (hv : RpA z.K z.ca (Frz H (z.L B P)) vs xs)
    (hs : Sat (noX (F xs) >>= fun d => R.ok (d, S)) (fun r => ∀ v H', Grow z H H' → Rel z B P σ H' ρ r.2 → Rp z.K z.ca (Frz H' (z.L B P)) v r.1 → Q v H') EX) : spF z.K z.ca z.tb F vs H Q E := by
  refine ⟨xs, z.L B P, r1.nd, fun b hb => r1.lt hb, r1.tin, hv, ?_⟩
  exact (sat_noX (sat_bind.mp hs)).imp fun d hd v H' e' tt hv' => hd v H' e'.grow (r1.growT e' tt) hv'
theorem pd_call {F : List D → R D} (G : FnG X.prog X.w X.K X.mg X.base k fA fd ps (spF z.K z.ca z.tb F)) (hr : Rm k X.A) (hm : X.mg x = some (.ref fA)) (hk : PySem.W.keepIn X.K (.ref fA) = true) (hb : Binds X.K fd ps ds) (hd : Vals dvs ds) (hdd : ∀ F', RpA z.K z.ca F' dvs dds)
    (ha : PAd X z O EX (e :: es) fa) (hg : Gl X x := by rfl) (hdb : (x == ("__debug__" : Str)) = false := by decide) (he : starEach (e :: es) X.env = (false, eval e X.env) :: starEach es X.env := by rfl) (hpl : (backTo pos (starEach es X.env)).any (·.1) = false := by rfl) :
    PD X z O EX (.Call (.Name x p) (e :: es) [] pos) (callD F dds fa) := by
  obtain ⟨t, pt, q⟩ := ha.ex
  refine ⟨_, pe_g (E := E0) G hr hg hm hk hb hd pt hdb he hpl, fun B P σ H ρ S Q hP rr hs => ?_⟩
  refine q B P σ H ρ S _ hP rr ((sat_bind.mp hs).imp fun w hw vs H1 g1 r1 hv => ?_)
  refine spF_of r1 (hv.append (hdd _)) (hw.imp fun r hr v H' g' r' hv' => hr v H' (g1.trans g') r' hv')
/-- a def that hands back a new list -/
def callN (F : List D → R (List D)) (dds : List D) (fa : FA) : FA := fun ρ S => fa ρ S >>= fun x => noX (F (x.1 ++ dds)) >>= fun d => R.ok (d, x.2)
theorem pf_call {F : List D → R (List D)} (G : FnG X.prog X.w X.K X.mg X.base k fA fd ps (spN z.K z.ca z.tb F)) (hr : Rm k X.A) (hm : X.mg x = some (.ref fA)) (hk : PySem.W.keepIn X.K (.ref fA) = true) (hb : Binds X.K fd ps ds) (hd : Vals dvs ds) (hdd : ∀ F', RpA z.K z.ca F' dvs dds)
    (ha : PAd X z O EX (e :: es) fa) (hg : Gl X x := by rfl) (hdb : (x == ("__debug__" : Str)) = false := by decide) (he : starEach (e :: es) X.env = (false, eval e X.env) :: starEach es X.env := by rfl) (hpl : (backTo pos (starEach es X.env)).any (·.1) = false := by rfl) :
    PF X z O EX (.Call (.Name x p) (e :: es) [] pos) (callN F dds fa) := by
  obtain ⟨t, pt, q⟩ := ha.ex
  refine ⟨_, pe_g (E := E0) G hr hg hm hk hb hd pt hdb he hpl, fun B P σ H ρ S Q hP rr hs => ?_⟩
  refine q B P σ H ρ S _ hP rr ((sat_bind.mp hs).imp fun w hw vs H1 g1 r1 hv => ?_)
  refine ⟨w.1 ++ dds, z.L B P, r1.nd, fun b hb => r1.lt hb, r1.tin, hv.append (hdd _), ?_⟩
  refine (sat_noX (sat_bind.mp hw)).imp fun d hd p xs H' hp e' tt hp' hxs => ?_
  have r9 := r1.growT e' tt
  have hn := r1.fresh hp
  have pm : List.Perm (z.L (p :: B) P) (p :: z.L B P) := by
    unfold Z.L
    rw [← List.append_assoc, ← List.append_assoc]
    exact List.perm_middle
  have ef : Frz H' (z.L (p :: B) P) = Frz H' (p :: z.L B P) := frz_congr fun a => pm.mem_iff
  have m : Ex (Frz H1 (z.L B P)) (Frz H' (z.L (p :: B) P)) := fun a u h => by
    rw [ef]
    have ha := frz_ex _ _ _ _ h
    have hl : a ∉ z.L B P := fun q => by
      unfold Frz at h
      rw [if_pos q] at h
      cases h
    refine frz_of (e' a u (fun q => hl (r1.tin.sub a q)) ha) fun q => ?_
    rcases List.mem_cons.mp q with q | q
    · rw [q, hp] at ha; cases ha
    · exact hl q
  refine hd p xs H' (g1.trans e'.grow) hp' (h0_none r1 hp (not_pls hn)) (g1.none (not_pls hn) hp) ⟨fun i d n h => ?_, fun q hq => ?_, fun i a e => ?_, pm.symm.nodup (List.nodup_cons.mpr ⟨hn, r1.nd⟩), fun b hb => ?_, fun a u h n => r9.ex a u h n, r1.new, r1.len, tt, ⟨fun a ha => ⟨(r1.xt.1 a ha).1, List.mem_cons_of_mem _ (r1.xt.1 a ha).2⟩, r1.xt.2⟩⟩ (g1.frz.trans m) (ef ▸ hxs)
  · obtain ⟨v, e1, q⟩ := r1.val i d n h
    exact ⟨v, e1, q.mono m⟩
  · obtain ⟨e1, xs, ds, e2, e3, q⟩ := r1.own q hq
    obtain ⟨_, xs', ds', e2', e3', _⟩ := r9.own _ hq
    obtain ⟨_, xs2, ds2, e5, e6, q6⟩ := r1.own _ hq
    have nT : ∀ a, a ∈ tbs z.tb → a ∈ z.pls := fun a ha => by unfold Z.pls; exact List.mem_append_right _ ha
    rename_i q0 hq0 _ _
    have n0 := r1.nd
    unfold Z.L at n0
    exact ⟨e1, xs, ds, e' _ _ (fun h => (List.nodup_append.mp n0).2.2 _ (List.mem_map_of_mem hq) _ (List.mem_append_left _ (nT _ h)) rfl) e2, e3, q.mono m⟩
  · obtain ⟨e1, e0, xs, e2, q⟩ := r1.pool i a e
    have n0 := r1.nd
    unfold Z.L Z.pls at n0
    exact ⟨e1, e0, xs, e' _ _ (fun h => (List.nodup_append.mp (List.nodup_append.mp (List.nodup_append.mp n0).2.1).1).2.2 a (by rw [e]; exact List.mem_cons_self) a h rfl) e2, q.mono m⟩
  · rcases List.mem_cons.mp hb with h | h
    · rw [h, hp']
      exact fun z => nomatch z
    · exact r9.there b h
/-- a def called with the in-out list first -/
def callP (F : List D → List D → R (D × List D)) (fa : FA) : FE := fun ρ S => fa ρ S >>= fun x => noX (F x.2 x.1)
theorem Z.pls_at {i : Nat} {p : Addr} (hz : z.pl = some (i, p)) : z.pls = p :: tbs z.tb := by
  unfold Z.pls
  rw [hz]
  rfl
theorem Rel.repool {i : Nat} {p : Addr} {xs : List V} (r : Rel z B P σ H ρ S) (hz : z.pl = some (i, p)) (e : ∀ a o, a ≠ p → a ∉ tbs z.tb → H a = some o → H' a = some o) (tt : LamX.Tabs z.tb H') (hp : H' p = some (z.sh xs)) (rp : RpA z.K z.ca (Frz H' (z.L B P)) xs S') : Rel z B P σ H' ρ S' ∧ Grow z H H' := by
  have hpls := Z.pls_at hz
  have g : Grow z H H' := fun a o n h => e a o (fun q => n (by rw [hpls, q]; exact List.mem_cons_self)) (fun q => n (by rw [hpls]; exact List.mem_cons_of_mem _ q)) h
  have nd := r.nd
  unfold Z.L at nd
  refine ⟨⟨fun i d n h => ?_, fun q hq => ?_, fun j a h => ?_, r.nd, fun b hb => ?_, fun a o h n => g a o n (r.ex a o h n), r.new, r.len, tt, r.xt⟩, g⟩
  · obtain ⟨v, e1, q⟩ := r.val i d n h
    exact ⟨v, e1, q.mono g.frz⟩
  · obtain ⟨e1, xs, ds, e2, e3, q'⟩ := r.own q hq
    have n : q.2 ∉ z.pls := fun h => (List.nodup_append.mp nd).2.2 q.2 (List.mem_map_of_mem hq) q.2 (List.mem_append_left _ h) rfl
    exact ⟨e1, xs, ds, g _ _ n e2, e3, q'.mono g.frz⟩
  · obtain ⟨e1, e0, _⟩ := r.pool j a h
    rw [hz] at h
    cases h
    exact ⟨e1, e0, xs, hp, rp⟩
  · have q := r.there b hb
    cases h : H b with
    | none => exact absurd h q
    | some u =>
      rw [g b u (fun q => (List.nodup_append.mp (List.nodup_append.mp nd).2.1).2.2 b q b hb rfl) h]
      exact fun z => nomatch z
theorem pd_callP (i : Nat) {y : Str} {py : Pos} {F : List D → List D → R (D × List D)} (hsh : z.sh = .lst) (hzi : ∃ a, z.pl = some (i, a)) (G : FnG X.prog X.w X.K X.mg X.base k fA fd ps (spP z.K z.ca z.tb F)) (hr : Rm k X.A) (hm : X.mg x = some (.ref fA)) (hk : PySem.W.keepIn X.K (.ref fA) = true) (hb : Binds X.K fd ps [])
    (ha : PAd X z O EX es fa) (hN : X.N[i]? = some y := by rfl) (hv : Vis X.env.scope y := by first | exact Or.inl rfl | exact Or.inr (Or.inl rfl) | exact Or.inr (Or.inr rfl))
    (hd : (y == ("__debug__" : Str)) = false := by decide) (hcd : (y == ("__classdict__" : Str)) = false := by decide)
    (hg : Gl X x := by rfl) (hdb : (x == ("__debug__" : Str)) = false := by decide) (he : starEach (.Name y py :: es) X.env = (false, eval (.Name y py) X.env) :: starEach es X.env := by rfl) (hpl : (backTo pos (starEach es X.env)).any (·.1) = false := by rfl) :
    PD X z O EX (.Call (.Name x p) (.Name y py :: es) [] pos) (callP F fa) := by
  obtain ⟨t, pt, q⟩ := ha.ex
  refine ⟨_, pe_g (E := E0) G hr hg hm hk hb .nil (pa_cons (pe_var hN hv hd hcd) pt he) hdb he hpl, fun B P σ H ρ S Q hP rr hs => ?_⟩
  obtain ⟨a, hz⟩ := hzi
  obtain ⟨e1, e0, xs0, e2, _⟩ := rr.pool i a hz
  refine ⟨_, e1, ?_⟩
  refine q B P σ H ρ S _ hP rr ((sat_bind.mp hs).imp fun w hw vs H1 g1 r1 hv => ?_)
  obtain ⟨_, _, xs, e2, q3⟩ := r1.pool i a hz
  rw [hsh] at e2
  have hpls := Z.pls_at hz
  have pm : List.Perm (z.L B P) (a :: (P.map (·.2) ++ (tbs z.tb ++ B))) := by
    unfold Z.L
    rw [hpls]
    exact List.perm_middle
  have ef : ∀ H2, Frz H2 (z.L B P) = Frz H2 (a :: (P.map (·.2) ++ (tbs z.tb ++ B))) := fun H2 => frz_congr fun b => pm.mem_iff
  refine ⟨a, vs, xs, w.2, w.1, P.map (·.2) ++ (tbs z.tb ++ B), by rw [List.append_nil], e2, pm.nodup r1.nd, fun b hb => r1.lt (pm.mem_iff.mpr (List.mem_cons_of_mem _ hb)), ⟨r1.tin.nd, fun b hb => List.mem_append_right _ (List.mem_append_left _ hb), r1.tabs⟩, ef H1 ▸ q3, ef H1 ▸ hv, ?_⟩
  refine (sat_noX hw).imp fun r hr v H' xs' e' tt hp' hxs hv' => ?_
  obtain ⟨r2, g2⟩ := r1.repool (S' := r.2) hz e' tt (by rw [hsh]; exact hp') (ef H' ▸ hxs)
  exact hr v H' (g1.trans g2) r2 (ef H' ▸ hv')
/-- a def called with a new list first, that nobody looks at behind it -/
def callPN (F : List D → List D → R (D × List D)) (fn : FA) : FE := fun ρ S => fn ρ S >>= fun x => noX (F x.1 []) >>= fun r => R.ok (r.1, x.2)
theorem pd_callPN {F : List D → List D → R (D × List D)} (G : FnG X.prog X.w X.K X.mg X.base k fA fd ps (spP z.K z.ca z.tb F)) (hr : Rm k X.A) (hm : X.mg x = some (.ref fA)) (hk : PySem.W.keepIn X.K (.ref fA) = true) (hb : Binds X.K fd ps [])
    (ha : PF X z O EX e fa) (hg : Gl X x := by rfl) (hdb : (x == ("__debug__" : Str)) = false := by decide) (he : starEach [e] X.env = (false, eval e X.env) :: starEach [] X.env := by rfl) (hpl : (backTo pos (starEach [] X.env)).any (·.1) = false := by rfl) :
    PD X z O EX (.Call (.Name x p) [e] [] pos) (callPN F fa) := by
  obtain ⟨t, pt, q⟩ := ha.ex
  refine ⟨_, pe_g (E := E0) G hr hg hm hk hb .nil (pa_cons pt pa_nil he) hdb he hpl, fun B P σ H ρ S Q hP rr hs => ?_⟩
  refine q B P σ H ρ S _ hP rr ((sat_bind.mp hs).imp fun w hw a xs H1 g1 e1 e0 en r1 m hv => ?_)
  have pm : List.Perm (z.L (a :: B) P) (a :: z.L B P) := by
    unfold Z.L
    rw [← List.append_assoc, ← List.append_assoc]
    exact List.perm_middle
  have ef : ∀ H2, Frz H2 (z.L (a :: B) P) = Frz H2 (a :: z.L B P) := fun H2 => frz_congr fun b => pm.mem_iff
  refine ⟨a, [], xs, w.1, [], z.L B P, by rfl, e1, pm.nodup r1.nd, fun b hb => r1.lt (pm.mem_iff.mpr (List.mem_cons_of_mem _ hb)), ⟨r1.tin.nd, fun b hb => by unfold Z.L Z.pls; exact List.mem_append_right _ (List.mem_append_left _ (List.mem_append_right _ hb)), r1.tabs⟩, ef H1 ▸ hv, .nil, ?_⟩
  refine (sat_noX (sat_bind.mp hw)).imp fun r hr v H' xs' e' tt hp' hxs hv' => ?_
  -- behind the call the list is as any other
  have r1s := r1.show1 e0
  have hna := r1s.2.2
  have nT : ∀ b, b ∉ z.pls → b ∉ tbs z.tb := fun b h q => h (by unfold Z.pls; exact List.mem_append_right _ q)
  have mm : Ex (Frz H1 (z.L (a :: B) P)) (Frz H' (z.L B P)) := fun b u h => by
    have hb := frz_ex _ _ _ _ h
    have nb : b ∉ z.L (a :: B) P := fun q => by
      unfold Frz at h
      rw [if_pos q] at h
      cases h
    have nba : b ≠ a := fun q => nb (pm.mem_iff.mpr (by rw [q]; exact List.mem_cons_self))
    exact frz_of (e' b u nba (nT b (not_pls nb)) hb) fun q => nb (pm.mem_iff.mpr (List.mem_cons_of_mem _ q))
  have n0 := r1.nd
  unfold Z.L at n0
  refine hr v H' (fun b u n h => e' b u (ne_of_none h en) (nT b n) (g1 b u n h)) ⟨fun i d n h => ?_, fun q hq => ?_, fun i c h => ?_, r1s.1.nd, fun b hb => ?_, fun b u h n => ?_, r1.new, r1.len, tt, r1s.1.xt⟩ (hv'.mono (frz_sub fun b hb => List.mem_cons_of_mem _ hb))
  · obtain ⟨v, e1, q⟩ := r1.val i d n h
    exact ⟨v, e1, q.mono mm⟩
  · obtain ⟨e1, xs, ds, e2, e3, q'⟩ := r1.own q hq
    have n : q.2 ≠ a := fun e9 => hna (by
      rw [← e9]
      unfold Z.L
      exact List.mem_append_left _ (List.mem_map_of_mem hq))
    exact ⟨e1, xs, ds, e' _ _ n (nT _ fun h => (List.nodup_append.mp n0).2.2 _ (List.mem_map_of_mem hq) _ (List.mem_append_left _ h) rfl) e2, e3, q'.mono mm⟩
  · obtain ⟨e1, e0, xs, e2, q'⟩ := r1.pool i c h
    have n : c ≠ a := fun e9 => hna (by
      rw [← e9]
      unfold Z.L Z.pls
      rw [h]
      exact List.mem_append_right _ (List.mem_append_left _ (List.mem_append_left _ List.mem_cons_self)))
    refine ⟨e1, e0, xs, e' _ _ n (fun q => ?_) e2, q'.mono mm⟩
    unfold Z.pls at n0
    exact (List.nodup_append.mp (List.nodup_append.mp (List.nodup_append.mp n0).2.1).1).2.2 c (by rw [h]; exact List.mem_cons_self) c q rfl
  · have q := r1s.1.there b hb
    have n : b ≠ a := fun e9 => hna (by
      rw [← e9]
      unfold Z.L
      exact List.mem_append_right _ (List.mem_append_right _ hb))
    cases h : H1 b with
    | none => exact absurd h q
    | some u =>
      rw [e' b u n (nT b fun z1 => (List.nodup_append.mp (List.nodup_append.mp n0).2.1).2.2 b z1 b (List.mem_cons_of_mem _ hb) rfl) h]
      exact fun z => nomatch z
  · have n' : b ≠ a := fun e9 => by
      rw [e9, e0] at h
      cases h
    exact e' b u n' (nT b n) (r1.ex b u h n)
end
end PL
set_option Elab.async false
set_option linter.all false
set_option maxRecDepth 100000
set_option maxHeartbeats 4000000
namespace PL
open PySem PySem.Spec PyProof.Rows L2
section
variable {X : Cx} {z : Z} {O OI OM OO OL : List Nat} {EX : EXT} {a b c e o : Expr} {es : List Expr} {f g h : FE} {fa ga fk : FA} {fs gs : FS} {pos p apos : Pos} {st : Stmt} {sts : List Stmt}
variable {B : List Addr} {P : List (Nat × Addr)} {σ σ' : L2.St} {H H' : Hp} {ρ ρ' : Env} {S S' : List D} {x m : Str}
variable {k : Nat} {fA C : Addr} {fd : FuncData} {ps ks : List Str} {ds : List Value} {dvs : List V} {dds : List D} {kws : List Keyword}
/-! ### keywords -/
theorem rpa_pick {K : PySem.W.Frag} {ca : Str → Option Addr} {F : Hp} {vs : List V} {es : List D} (r : RpA K ca F vs es) : ∀ ix : List Nat, RpA K ca F (pick ix vs) (pick ix es)
  | [] => .nil
  | i :: ix => by
    have ih := rpa_pick r ix
    unfold pick at ih ⊢
    rw [List.filterMap_cons, List.filterMap_cons]
    cases e : vs[i]? with
    | none =>
      have : es[i]? = none := by
        rw [List.getElem?_eq_none_iff] at e ⊢
        rw [← r.length]
        exact e
      rw [this]; exact ih
    | some v =>
      obtain ⟨u, e1, h⟩ := r.getV e
      rw [e1]
      exact .cons h ih
structure PKd (X : Cx) (z : Z) (O : List Nat) (EX : EXT) (kws : List Keyword) (f : FA) : Prop where
  ex : ∃ t, PK X kws t ∧ EvA z O EX t f
theorem pkd_nil : PKd X z O EX [] nilA := ⟨_, pk_nil, fun B P σ H ρ S Q hP rr hs => hs [] H Grow.refl rr .nil⟩
theorem pkd_cons {nm : Option Str} {kpos : Pos} (ha : PD X z O EX e f) (hr : PKd X z O EX kws fa) : PKd X z O EX (⟨nm, e, kpos⟩ :: kws) (consA f fa) := by
  obtain ⟨t, p, q⟩ := ha.ex
  obtain ⟨u, p2, q2⟩ := hr.ex
  refine ⟨_, pk_cons p p2, fun B P σ H ρ S Q hP rr hs => ?_⟩
  refine q B P σ H ρ S _ hP rr ((sat_bind.mp hs).imp fun x hx v H1 g1 r1 hv => ?_)
  refine q2 B P σ H1 ρ x.2 _ hP r1 ((sat_bind.mp hx).imp fun y hy vs H2 g2 r2 hvs => ?_)
  exact hy (v :: vs) H2 (g1.trans g2) r2 (.cons (hv.mono g2.frz) hvs)
def callKD (F : List D → R D) (n m : Nat) (ix : List Nat) (fa fk : FA) : FE := fun ρ S => fa ρ S >>= fun x => fk ρ x.2 >>= fun y => if x.1.length = n ∧ y.1.length = m then noX (F (pick ix (x.1 ++ y.1))) >>= fun d => R.ok (d, y.2) else R.bad
/-! ### instances -/
/-- an own class's __init__: the attributes' names nm, F gives their values -/
def spI (K : PySem.W.Frag) (ca : Str → Option Addr) (T : Tb) (C : Addr) (nm : List Str) (F : List D → R (List D)) : Sp := fun vs H Q _ => ∃ x dx ws ds B, vs = .ref x :: ws ∧ H x = some (.ins C dx []) ∧ (x :: B).Nodup ∧ (∀ b ∈ B, H b ≠ none) ∧ TIn T B H ∧ RpA K ca (Frz H (x :: B)) ws ds ∧
  Sat (F ds) (fun es => ∀ H' xs, (∀ a o, a ≠ x → a ∉ tbs T → H a = some o → H' a = some o) → LamX.Tabs T H' → H' x = some (.ins C dx (nm.zip xs)) → xs.length = nm.length → RpA K ca (Frz H' (x :: B)) xs es → Q .non H') EX0
def mkD (c : Str) (nm : List Str) (F : List D → R (List D)) (fa : FA) : FE := fun ρ S => fa ρ S >>= fun x => noX (F x.1) >>= fun es => R.ok (.ins c nm es, x.2)
theorem spI_of {cn : Str} {nm : List Str} {F : List D → R (List D)} {vs : List V} {xs : List D} {Q : VK} {E : XK} {xa dx : Addr} (hca : z.ca cn = some C) (r1 : Rel z B P σ H ρ S) (hv : RpA z.K z.ca (Frz H (z.L B P)) vs xs)
    (nx : H xa = none) (ndx : H dx = none) (nex : dx ≠ xa)
    (hs : Sat (noX (F xs) >>= fun es => R.ok (D.ins cn nm es, S)) (fun r => ∀ v H', Grow z H H' → Rel z B P σ H' ρ r.2 → Rp z.K z.ca (Frz H' (z.L B P)) v r.1 → Q v H') EX) :
    spI z.K z.ca z.tb C nm F (.ref xa :: vs) (upd (upd H dx (.own xa)) xa (.ins C dx [])) (fun v H2 => v = .non ∧ Q (.ref xa) H2) E := by
  have e1 : Ex H (upd (upd H dx (.own xa)) xa (.ins C dx [])) := fun a u h => by
    rw [upd_ne (ne_of_none h nx), upd_ne (ne_of_none h ndx)]
    exact h
  have hn := r1.fresh nx
  have m : Ex (Frz H (z.L B P)) (Frz (upd (upd H dx (.own xa)) xa (.ins C dx [])) (xa :: z.L B P)) := fun a u h => by
    have ha := frz_ex _ _ _ _ h
    refine frz_of (e1 a u ha) fun q => ?_
    rcases List.mem_cons.mp q with q | q
    · rw [q, nx] at ha; cases ha
    · unfold Frz at h
      rw [if_pos q] at h
      cases h
  have r9 := r1.grow e1
  refine ⟨xa, dx, vs, xs, z.L B P, rfl, upd_same, List.nodup_cons.mpr ⟨hn, r1.nd⟩, fun b hb => r9.lt hb, r9.tin, hv.mono m, ?_⟩
  refine (sat_noX (sat_bind.mp hs)).imp fun es hes H' ys e' tt hx hl hys => ⟨rfl, ?_⟩
  have e2 : GrT z.tb H H' := fun a u n h => e' a u (ne_of_none h nx) n (e1 a u h)
  have hnm : (nm.zip ys).map (·.1) = nm := List.map_fst_zip (by omega)
  have hys2 : (nm.zip ys).map (·.2) = ys := List.map_snd_zip (by omega)
  have := hes (.ref xa) H' e2.grow (r1.growT e2 tt)
  refine this ?_
  have q := Rp.ins (K := z.K) (F := Frz H' (z.L B P)) (c := cn) (frz_of hx hn) hca (by rw [hys2]; exact hys.mono (frz_sub fun a ha => List.mem_cons_of_mem _ ha))
  rw [hnm] at q
  exact q
theorem pick_cons {α : Type} (a : α) (l : List α) : ∀ ix : List Nat, pick (ix.map (· + 1)) (a :: l) = pick ix l
  | [] => rfl
  | i :: ix => by
    have ih := pick_cons a l ix
    unfold pick at ih ⊢
    rw [List.map_cons, List.filterMap_cons, List.filterMap_cons, List.getElem?_cons_succ, ih]
theorem pick_self {α : Type} (a : α) (l : List α) (ix : List Nat) : pick (0 :: ix.map (· + 1)) (a :: l) = a :: pick ix l := by
  have := pick_cons a l ix
  unfold pick at this ⊢
  rw [List.filterMap_cons, List.getElem?_cons_zero, this]
def mkI (c : Str) (nm : List Str) (F : List D → R (List D)) (n m : Nat) (ix : List Nat) (fa fk : FA) : FE := fun ρ S => fa ρ S >>= fun x => fk ρ x.2 >>= fun y => if x.1.length = n ∧ y.1.length = m then noX (F (pick ix (x.1 ++ y.1))) >>= fun es => R.ok (.ins c nm es, y.2) else R.bad
theorem pd_make {cn : Str} {nm : List Str} {F : List D → R (List D)} {n : Nat} {ix : List Nat} (hca : z.ca cn = some C) (M : Mk X.K C fA) (G : FnG X.prog X.w X.K X.mg X.base k fA fd ps (spI z.K z.ca z.tb C nm F)) (hr : Rm (k + 1) X.A) (hm : X.mg x = some (.ref C)) (hb : KBd X.K fd ps [] (n + 1) (0 :: ix.map (· + 1)))
    (ha : PAd X z O EX (e :: es) fa) (hg : Gl X x := by rfl) (hdb : (x == ("__debug__" : Str)) = false := by decide) (he : starEach (e :: es) X.env = (false, eval e X.env) :: starEach es X.env := by rfl) (hpl : (backTo pos (starEach es X.env)).any (·.1) = false := by rfl) :
    PD X z O EX (.Call (.Name x p) (e :: es) [] pos) (mkI cn nm F n 0 ix fa nilA) := by
  obtain ⟨t, pt, q⟩ := ha.ex
  refine ⟨_, pe_gmk (E := E0) M G hr hg hm hb pt hdb he hpl, fun B P σ H ρ S Q hP rr hs => ?_⟩
  refine q B P σ H ρ S _ hP rr ((sat_bind.mp hs).imp fun w hw vs H1 g1 r1 hv => ?_)
  have hw : Sat (if w.1.length = n ∧ ([] : List D).length = 0 then noX (F (pick ix (w.1 ++ []))) >>= fun es => R.ok (D.ins cn nm es, w.2) else R.bad) (fun r => ∀ v H', Grow z H H' → Rel z B P σ H' ρ r.2 → Rp z.K z.ca (Frz H' (z.L B P)) v r.1 → Q v H') EX := hw
  split at hw
  · rename_i l
    refine ⟨by rw [hv.length, l.1], rfl, fun xa dx nx ndx nex => ?_⟩
    rw [pick_self]
    exact spI_of hca r1 (rpa_pick (hv.append .nil) ix) nx ndx nex (hw.imp fun r hr v H' g' r' hv' => hr v H' (g1.trans g') r' hv')
  · exact hw.elim
/-- e.f, an attribute -/
def lookF : List Str → List D → Str → Option D
  | n :: ns, d :: ds, f => if n = f then some d else lookF ns ds f
  | _, _, _ => none
theorem look_rp {K : PySem.W.Frag} {ca : Str → Option Addr} {F : Hp} {f : Str} {d : D} : ∀ {fs : List (Str × V)} {ds : List D}, RpA K ca F (fs.map (·.2)) ds → lookF (fs.map (·.1)) ds f = some d → ∃ v, fs.lookup f = some v ∧ Rp K ca F v d
  | [], _, _, h => by simp [lookF] at h
  | (n, v) :: fs, [], r, h => by simp [lookF] at h
  | (n, v) :: fs, d' :: ds, r, h => by
    rw [List.map_cons] at r
    cases r with
    | cons h1 r1 =>
      rw [List.map_cons] at h
      unfold lookF at h
      dsimp only at h
      split at h
      · rename_i e
        cases h
        exact ⟨v, by rw [← e]; simp [List.lookup], h1⟩
      · rename_i e
        obtain ⟨u, e1, q⟩ := look_rp r1 h
        refine ⟨u, ?_, q⟩
        have : (f == n) = false := by simpa using Ne.symm e
        simp [List.lookup, this, e1]
def fldD (cn fn : Str) : D → Option D | .ins c ns vs => if c = cn then lookF ns vs fn else none | _ => none
theorem pd_fld (hK : X.K = z.K) {cn fn : Str} (hca : z.ca cn = some C) (cl : Cls z.K C) (na : NoAttr z.K C fn) (ha : PD X z O EX e f) (hb : attributeBase e fn X.env (eval e X.env) = eval e X.env := by rfl) : PD X z O EX (.Attribute e fn pos) (un1 (fldD cn fn) f) := by
  obtain ⟨t, pt, q⟩ := ha.ex
  refine ⟨_, pe_fld pt hb, fun B P σ H ρ S Q hP rr hs => ?_⟩
  refine q B P σ H ρ S _ hP rr ((sat_bind.mp hs).imp fun w hw v H1 g1 r1 hv => ?_)
  obtain ⟨d, hd, hq⟩ := sat_of (sat_bind.mp hw)
  rw [hK]
  obtain ⟨w1, w2⟩ := w
  cases w1 <;> simp only [fldD, reduceCtorEq] at hd
  split at hd
  · rename_i ec
    cases hv with
    | ins h c r =>
      rw [ec, hca] at c
      cases c
      obtain ⟨u, e1, qu⟩ := look_rp r hd
      exact ⟨_, _, _, _, u, rfl, frz_ex _ _ _ _ h, cl, na, e1, hq u H1 g1 r1 qu⟩
  · cases hd
/-- o.m(..) -/
def mthC (cn m : Str) (F : List D → R D) (dds : List D) (f : FE) (fa : FA) : FE := fun ρ S => f ρ S >>= fun x => match x.1 with
  | .ins c ns _ => if c = cn ∧ ns.contains m = false then fa ρ x.2 >>= fun y => noX (F (x.1 :: (y.1 ++ dds))) >>= fun d => R.ok (d, y.2) else R.bad
  | _ => R.bad
/-- e.f, a property -/
def propD (cn : Str) (F : List D → R D) (f : FE) : FE := fun ρ S => f ρ S >>= fun x => match x.1 with
  | .ins c _ _ => if c = cn then noX (F [x.1]) >>= fun d => R.ok (d, x.2) else R.bad
  | _ => R.bad
theorem pd_prop {cn fn : Str} {pA : Addr} {F : List D → R D} (hca : z.ca cn = some C) (cl : Cls X.K C) (hp : PropOf X.K C fn pA fA) (G : FnG X.prog X.w X.K X.mg X.base k fA fd ps (spF z.K z.ca z.tb F)) (hr : Rm (k + 1) X.A) (hb : Binds X.K fd ps [])
    (ha : PD X z O EX e f) (hab : attributeBase e fn X.env (eval e X.env) = eval e X.env := by rfl) : PD X z O EX (.Attribute e fn pos) (propD cn F f) := by
  obtain ⟨t, pt, q⟩ := ha.ex
  refine ⟨_, pe_gp (E := E0) pt cl hp G hr hb hab, fun B P σ H ρ S Q hP rr hs => ?_⟩
  refine q B P σ H ρ S _ hP rr ((sat_bind.mp hs).imp fun w hw v H1 g1 r1 hv => ?_)
  obtain ⟨w1, w2⟩ := w
  cases w1 with
  | ins c ns vs =>
    dsimp only at hw
    split at hw
    · rename_i ec
      cases hv with
      | ins h c r =>
        have c' := c
        rw [ec, hca] at c'
        cases c'
        exact ⟨_, _, _, rfl, frz_ex _ _ _ _ h, spF_of r1 (.cons (.ins h c r) .nil) (hw.imp fun r hr v H' g' r' hv' => hr v H' (g1.trans g') r' hv')⟩
    · exact hw.elim
  | _ => exact hw.elim
end
/-! ### defs that change their first argument; that hand back a new list -/
section
variable {Pg : Program} {w : World} {K : PySem.W.Frag} {mg : Str → Option Value} {base : Heap} {ca : Str → Option Addr} {T : Tb}
def startP (n : Nat) (ds : List D) : Env := none :: startE (n - 1) ds
def endP (r : Ctl × Env × List D) : R (D × List D) := match r.1 with | .rt d => R.ok (d, r.2.2) | .nx => R.ok (.non, r.2.2) | _ => R.bad
def runP (n k : Nat) (fs : FS) : List D → List D → R (D × List D) := fun S ds => if ds.length + 1 = k then fs (startP n ds) S >>= endP else R.bad
theorem besideP_iff {B : List Addr} {H : Hp} {sh : List V → HO} {p : Addr} (s : ∀ a ∈ tbs T, a ∈ B) (a : Addr) : a ∈ Z.L ⟨K, ca, H, some (0, p), sh, T, [], [], []⟩ (beside T B) [] ↔ a ∈ p :: B := by
  show a ∈ ([] : List Addr) ++ (([p] ++ tbs T) ++ beside T B) ↔ _
  rw [List.nil_append, List.append_assoc, List.singleton_append, List.mem_cons, List.mem_cons, beside_iff s]
theorem besideP_nd {B : List Addr} {p : Addr} (hB : (p :: B).Nodup) (s : ∀ a ∈ tbs T, a ∈ B) (t : (tbs T).Nodup) : (([] : List Addr) ++ (([p] ++ tbs T) ++ beside T B)).Nodup := by
  rw [List.nil_append, List.append_assoc, List.singleton_append, List.nodup_cons]
  rw [List.nodup_cons] at hB
  exact ⟨fun h => hB.1 ((beside_iff s p).mp h), beside_nd hB.2 t⟩
theorem rel_startP {N : List Str} {p : Addr} {ws xs : List V} {ds S : List D} {H : Hp} {B : List Addr} {sh : List V → HO} (hN : 0 < N.length) (hp : H p = some (sh xs)) (hB : (p :: B).Nodup) (hb : ∀ b ∈ B, H b ≠ none) (ti : TIn T B H) (hxs : RpA K ca (Frz H (p :: B)) xs S) (hv : RpA K ca (Frz H (p :: B)) ws ds) :
    Rel ⟨K, ca, H, some (0, p), sh, T, [], [], []⟩ (beside T B) [] (L2.start N (.ref p :: ws)) H (startP N.length ds) S where
  val := fun i d _ h => by
    have hl := hv.length
    unfold startP startE at h
    unfold L2.start
    cases i with
    | zero => simp at h
    | succ i =>
      rw [List.getElem?_cons_succ] at h
      by_cases hi : i < ds.length
      · rw [List.getElem?_append_left (by simpa using hi), List.getElem?_map] at h
        cases e : ds[i]? with
        | none => rw [e] at h; cases h
        | some d' =>
          rw [e] at h
          cases h
          obtain ⟨v, e1, q⟩ := hv.get e
          have ef : Frz H (Z.L ⟨K, ca, H, some (0, p), sh, T, [], [], []⟩ (beside T B) []) = Frz H (p :: B) := frz_congr fun a => besideP_iff ti.sub a
          exact ⟨v, by rw [List.getElem?_append_left (by simp; omega), List.getElem?_map, List.getElem?_cons_succ, e1]; rfl, ef ▸ q⟩
      · rw [List.getElem?_append_right (by simp; omega)] at h
        have := List.mem_of_getElem? h
        rw [List.mem_replicate] at this
        cases this.2
  own := fun p hp => nomatch hp
  pool := fun i a h => by
    cases h
    have ef : Frz H (Z.L ⟨K, ca, H, some (0, p), sh, T, [], [], []⟩ (beside T B) []) = Frz H (p :: B) := frz_congr fun a => besideP_iff ti.sub a
    refine ⟨?_, rfl, xs, hp, ef ▸ hxs⟩
    unfold L2.start
    rfl
  nd := besideP_nd hB ti.sub ti.nd
  there := fun b hb' => hb b (beside_mem.mp hb').1
  ex := fun a o h _ => h
  new := fun p hp => nomatch hp
  len := by
    unfold L2.start startP startE
    simp only [List.length_append, List.length_map, List.length_cons, List.length_replicate, hv.length]
    omega
  tabs := ti.tabs
  xt := ⟨fun _ h => (nomatch h), fun _ h => (nomatch h)⟩
theorem fn_p {x qual : Str} {st : Stmt} {fA : Addr} {fd : FuncData} {N ps : List Str} {k : Nat} {fs : FS} {OO : List Nat} (F : Fun K x qual st fA fd) (Sc : FnScope N ps (defScope st)) (hN : 0 < N.length)
    (body : ∀ (cdv : Value) (A : Around) (outer : List PySem.Env) (s : Shared) (H : Hp) (E : XK) (p : Addr), Rm k (A.deeper (envOfC qual (defScope st) s.heap.objs.size fA cdv)) →
      PSS (cxOf CX0 Pg w K mg base N qual (defScope st) fA cdv A outer s H E).nox ⟨K, ca, H, some (0, p), .lst, T, [], [], []⟩ [] OO [] EX0 (defBody st) fs) :
    FnG Pg w K mg base (k + 1) fA fd ps (spP K ca T (runP N.length ps.length fs)) := by
  refine fn_body F Sc (fun vs H Q E h => ?_) (fun cdv A outer s H vs Q E hr hgu h => ?_)
  · obtain ⟨p, ws, xs, S, ds, B, rfl, _, _, _, _, _, hv, hs⟩ := h
    unfold runP at hs
    split at hs
    · rw [List.length_cons, hv.length]; assumption
    · exact hs.elim
  · obtain ⟨p, ws, xs, S, ds, B, rfl, hp, hB, hb, ti, hxs, hv, hs⟩ := h
    obtain ⟨t, pt, q⟩ := (body cdv A outer s H E p ⟨hr, hgu⟩).ex
    refine ⟨t, pt, ?_⟩
    unfold runP at hs
    split at hs
    · have ef : ∀ H', Frz H' (([p] ++ tbs T) ++ beside T B) = Frz H' (p :: B) := fun H' => frz_congr fun a => besideP_iff (K := K) (ca := ca) (H := H') (sh := .lst) ti.sub a
      refine q (beside T B) [] (L2.start N (.ref p :: ws)) H (startP N.length ds) S _ rfl (rel_startP hN hp hB hb ti hxs hv) ((sat_bind.mp hs).imp fun r hr => ?_)
      obtain ⟨c, ρ1, S1⟩ := r
      cases c with
      | nx =>
        intro P' σ' H' h1 h2 h3
        have hr : ∀ v H' xs', (∀ a o, a ≠ p → a ∉ tbs T → H a = some o → H' a = some o) → LamX.Tabs T H' → H' p = some (.lst xs') → RpA K ca (Frz H' (p :: B)) xs' S1 → Rp K ca (Frz H' (p :: B)) v .non → Q v H' := hr
        have hf := h3.fin (v := .non) (d := .non) .non
        obtain ⟨xs', e1, q1⟩ := hf.pool 0 p rfl
        exact hr .non H' xs' (fun a o n n2 e => hf.ex a o e (by simpa [Z.pls] using ⟨n, n2⟩)) hf.tabs e1 (ef H' ▸ q1) .non
      | rt d =>
        intro v H' hf
        have hr : ∀ v H' xs', (∀ a o, a ≠ p → a ∉ tbs T → H a = some o → H' a = some o) → LamX.Tabs T H' → H' p = some (.lst xs') → RpA K ca (Frz H' (p :: B)) xs' S1 → Rp K ca (Frz H' (p :: B)) v d → Q v H' := hr
        obtain ⟨xs', e1, q1⟩ := hf.pool 0 p rfl
        exact hr v H' xs' (fun a o n n2 e => hf.ex a o e (by simpa [Z.pls] using ⟨n, n2⟩)) hf.tabs e1 (ef H' ▸ q1) (ef H' ▸ hf.val)
      | bk => exact hr.elim
      | ct => exact hr.elim
    · exact hs.elim
/-! a def that hands back a new list -/
def EvN (z : Z) (O : List Nat) (EX : EXT) (t : TS) (f : FA) : Prop :=
  ∀ B P σ H ρ S D', P.map (·.1) = O → Rel z B P σ H ρ S →
    Sat (f ρ S) (fun r => ∀ p xs H', z.H0 p = none → (∀ a o, z.H0 a = some o → a ∉ z.pls → H' a = some o) → LamX.Tabs z.tb H' → H' p = some (.lst xs) → RpA z.K z.ca (Frz H' (p :: (z.pls ++ B))) xs r.1 → D'.rt (.ref p) H') EX → t D' σ H
structure PSN (X : Cx) (z : Z) (O : List Nat) (EX : EXT) (s : List Stmt) (f : FA) : Prop where
  ex : ∃ t, PSs X s t ∧ EvN z O EX t f
theorem psn_ret {X : Cx} {z : Z} {O : List Nat} {EX : EXT} {e : Expr} {fa : FA} {pos : Pos} (ha : PF X z O EX e fa) : PSN X z O EX [.Return (some e) pos] fa := by
  obtain ⟨t, p, q⟩ := ha.ex
  refine ⟨_, pss_one (ps_ret p), fun B P σ H ρ S D' hP rr hs => ?_⟩
  refine q B P σ H ρ S _ hP rr (hs.imp fun x hx p xs H' g e1 e0 en r m hv => ?_)
  refine hx p xs H' e0 r.ex r.tabs e1 (hv.mono (frz_sub fun a ha => ?_))
  unfold Z.L
  rcases List.mem_cons.mp ha with h | h
  · exact List.mem_append_right _ (List.mem_append_right _ (by rw [h]; exact List.mem_cons_self))
  · rcases List.mem_append.mp h with h | h
    · exact List.mem_append_right _ (List.mem_append_left _ h)
    · exact List.mem_append_right _ (List.mem_append_right _ (List.mem_cons_of_mem _ h))
def seqN (fs : FS) (fa : FA) : FA := fun ρ S => fs ρ S >>= fun r => match r.1 with | .nx => fa r.2.1 r.2.2 | _ => R.bad
theorem psn_cons {X : Cx} {z : Z} {OI OM : List Nat} {EX : EXT} {st : Stmt} {sts : List Stmt} {fs : FS} {fa : FA} (h1 : PSd X z OI OM [] EX st fs) (h2 : PSN X z OM EX sts fa) : PSN X z OI EX (st :: sts) (seqN fs fa) := by
  obtain ⟨t, p, q⟩ := h1.ex
  obtain ⟨u, p2, q2⟩ := h2.ex
  refine ⟨_, pss_cons p p2, fun B P σ H ρ S D' hP rr hs => ?_⟩
  refine q B P σ H ρ S _ hP rr ((sat_bind.mp hs).imp fun r hr => ?_)
  obtain ⟨c, ρ1, S1⟩ := r
  cases c with
  | nx => exact fun P' σ' H' h1 h2 h3 => q2 B P' σ' H' ρ1 S1 D' h1 h3 hr
  | bk => exact hr.elim
  | ct => exact hr.elim
  | rt d => exact hr.elim
def runN (n k : Nat) (fa : FA) : List D → R (List D) := fun ds => if ds.length = k then fa (startE n ds) [] >>= fun r => R.ok r.1 else R.bad
theorem fn_n {x qual : Str} {st : Stmt} {fA : Addr} {fd : FuncData} {N ps : List Str} {k : Nat} {fa : FA} (F : Fun K x qual st fA fd) (Sc : FnScope N ps (defScope st))
    (body : ∀ (cdv : Value) (A : Around) (outer : List PySem.Env) (s : Shared) (H : Hp) (E : XK), Rm k (A.deeper (envOfC qual (defScope st) s.heap.objs.size fA cdv)) →
      PSN (cxOf CX0 Pg w K mg base N qual (defScope st) fA cdv A outer s H E).nox ⟨K, ca, H, none, .lst, T, [], [], []⟩ [] EX0 (defBody st) fa) :
    FnG Pg w K mg base (k + 1) fA fd ps (spN K ca T (runN N.length ps.length fa)) := by
  refine fn_body F Sc (fun vs H Q E h => ?_) (fun cdv A outer s H vs Q E hr hgu h => ?_)
  · obtain ⟨ds, B, _, _, _, hv, hs⟩ := h
    rw [hv.length]
    unfold runN at hs
    split at hs
    · assumption
    · exact hs.elim
  · obtain ⟨ds, B, hB, hb, ti, hv, hs⟩ := h
    obtain ⟨t, p, q⟩ := (body cdv A outer s H E ⟨hr, hgu⟩).ex
    refine ⟨t, p, ?_⟩
    unfold runN at hs
    split at hs
    · refine q (beside T B) [] (L2.start N vs) H (startE N.length ds) [] _ rfl (rel_start hB hb ti hv) ((sat_bind.mp hs).imp fun r hr p xs H' e0 ee tt e1 hxs => ?_)
      have ef : Frz H' (p :: (([] ++ tbs T) ++ beside T B)) = Frz H' (p :: B) := frz_congr fun a => by
        rw [List.mem_cons, List.mem_cons, List.nil_append, beside_iff ti.sub]
      exact hr p xs H' e0 (fun a o n e => ee a o e n) tt e1 (ef ▸ hxs)
    · exact hs.elim
/-! an own class's __init__ -/
theorem putF_zip {nm : List Str} {f : Str} {y : V} : ∀ {nm : List Str} {xs : List V}, nm[xs.length]? = some f → (nm.take xs.length).contains f = false → putF f y (nm.zip xs) = nm.zip (xs ++ [y])
  | [], [], h, _ => by simp at h
  | n :: nm, [], h, _ => by
    simp only [List.length_nil, List.getElem?_cons_zero, Option.some.injEq] at h
    subst h
    simp [putF]
  | [], x :: xs, h, _ => by simp at h
  | n :: nm, x :: xs, h, hc => by
    simp only [List.length_cons, List.getElem?_cons_succ] at h
    simp only [List.length_cons, List.take_succ_cons, List.contains_cons, Bool.or_eq_false_iff] at hc
    have ne : n ≠ f := fun e => by rw [e] at hc; simp at hc
    rw [List.cons_append, List.zip_cons_cons, List.zip_cons_cons]
    unfold putF
    rw [if_neg ne, putF_zip (nm := nm) h hc.2]
def slfS (nm : List Str) (fn : Str) (f : FE) : FS := fun ρ S => f ρ S >>= fun x => if nm[x.2.length]? = some fn ∧ (nm.take x.2.length).contains fn = false ∧ x.2.length < 999 then R.ok (.nx, ρ, x.2 ++ [x.1]) else R.bad
/-- self.f = e within __init__ -/
theorem psd_slf {X : Cx} {z : Z} {O OL : List Nat} {EX : EXT} {C dx : Addr} {nm : List Str} {fn sx : Str} {e : Expr} {f : FE} {pos p0 p1 : Pos} (i : Nat) (hK : X.K = z.K) (hzi : ∃ a, z.pl = some (i, a)) (hsh : z.sh = fun xs => .ins C dx (nm.zip xs)) (cl : Cls z.K C) (na : NoAttr z.K C fn) (he : PD X z O EX e f)
    (hN : X.N[i]? = some sx := by rfl) (hv : Vis X.env.scope sx := by first | exact Or.inl rfl | exact Or.inr (Or.inl rfl) | exact Or.inr (Or.inr rfl)) (hd : (sx == ("__debug__" : Str)) = false := by decide) (hcd : (sx == ("__classdict__" : Str)) = false := by decide)
    (hs : swapsWith e (some (.Attribute (.Name sx p0) fn p1)) pos.line X.env = pure false := by rfl) : PSd X z O O OL EX (.Assign [.Attribute (.Name sx p0) fn p1] e pos) (slfS nm fn f) := by
  obtain ⟨t, p, q⟩ := he.ex
  refine ⟨_, ps_fld (pe_var hN hv hd hcd) p hs, fun B P σ H ρ S D' hP rr hs => ?_⟩
  refine q B P σ H ρ S _ hP rr ((sat_bind.mp hs).imp fun w hw v H1 g1 r1 hv => ?_)
  split at hw
  · rename_i l
    obtain ⟨a, hz⟩ := hzi
    obtain ⟨e1, e0, xs, e2, q3⟩ := r1.pool i a hz
    rw [hsh] at e2
    have hl := q3.length
    refine ⟨_, e1, a, C, dx, _, rfl, e2, hK ▸ cl, hK ▸ na, ?_, ?_⟩
    · rw [List.length_zip]
      omega
    · rw [putF_zip (nm := nm) (by rw [hl]; exact l.1) (by rw [hl]; exact l.2.1)]
      have ef : Frz (upd H1 a (.ins C dx (nm.zip (xs ++ [v])))) (z.L B P) = Frz H1 (z.L B P) := by
        funext b
        unfold Frz
        by_cases hb : b ∈ z.L B P
        · rw [if_pos hb, if_pos hb]
        · rw [if_neg hb, if_neg hb, upd_ne fun (e9 : b = a) => hb (by
            rw [e9]
            unfold Z.L Z.pls
            rw [hz]
            exact List.mem_append_right _ (List.mem_append_left _ (List.mem_append_left _ List.mem_cons_self)))]
      obtain ⟨r4, g4⟩ := r1.repool (H' := upd H1 a (.ins C dx (nm.zip (xs ++ [v])))) (xs := xs ++ [v]) (S' := w.2 ++ [w.1]) hz (fun b o n _ h => by rw [upd_ne n]; exact h) (tabs_upd r1.tabs e2 (fun _ z => nomatch z) (fun _ z => nomatch z)) (by rw [hsh]; exact upd_same) (by rw [ef]; exact q3.append (.cons hv .nil))
      exact hw P σ _ hP (g1.trans g4).frz r4
  · exact hw.elim
def runI (nm : List Str) (n k : Nat) (fs : FS) : List D → R (List D) := fun ds => if ds.length + 1 = k then fs (startP n ds) [] >>= fun r => match r.1 with | .nx => if r.2.2.length = nm.length then R.ok r.2.2 else R.bad | _ => R.bad else R.bad
end
end PL
set_option Elab.async false
set_option linter.all false
set_option maxRecDepth 100000
set_option maxHeartbeats 4000000
namespace PL
open PySem PySem.Spec PyProof.Rows L2
section
variable {X : Cx} {z : Z} {O OI OM OO OL : List Nat} {EX : EXT} {a b c e o : Expr} {es : List Expr} {f g h : FE} {fa ga fk : FA} {fs gs : FS} {pos p apos : Pos} {st : Stmt} {sts : List Stmt}
/-! ### the in-out list read and stored -/
def poolE (k : Int) : FE := fun _ S => R.of (L2.atI S k) >>= fun d => R.ok (d, S)
theorem pd_pool (i : Nat) (hK : X.K = z.K) (hsh : z.sh = .lst) (hzi : ∃ a, z.pl = some (i, a)) {y : Str} {py pk : Pos} {k : Int} {j : Nat} (hN : X.N[i]? = some y := by rfl) (hv : Vis X.env.scope y := by first | exact Or.inl rfl | exact Or.inr (Or.inl rfl) | exact Or.inr (Or.inr rfl))
    (hd : (y == ("__debug__" : Str)) = false := by decide) (hcd : (y == ("__classdict__" : Str)) = false := by decide) (hx : PlainIx (.Constant (.int k) j pk) := by exact fun _ _ => rfl) : PD X z O EX (.Subscript (.Name y py) (.Constant (.int k) j pk) pos) (poolE k) := by
  refine ⟨_, pe_ix ix_list (pe_var hN hv hd hcd) pe_int hx, fun B P σ H ρ S Q hP rr hs => ?_⟩
  obtain ⟨ad, hz⟩ := hzi
  obtain ⟨e1, e0, xs, e2, q3⟩ := rr.pool i ad hz
  rw [hsh] at e2
  obtain ⟨d, hd, hq⟩ := sat_of (sat_bind.mp hs)
  obtain ⟨v, hv, r⟩ := q3.atI hd
  exact ⟨_, e1, ad, xs, k, v, rfl, rfl, hK ▸ SqL.of e2, hv, hq v H Grow.refl rr r⟩
theorem Rel.pput {B : List Addr} {P : List (Nat × Addr)} {σ : L2.St} {H : Hp} {ρ : Env} {S S' : List D} {i : Nat} {ad : Addr} {xs : List V} (r : Rel z B P σ H ρ S) (hz : z.pl = some (i, ad)) (hsh : z.sh = .lst) (rp : RpA z.K z.ca (Frz H (z.L B P)) xs S') :
    Rel z B P σ (upd H ad (.lst xs)) ρ S' ∧ Grow z H (upd H ad (.lst xs)) := by
  have hm : ad ∈ z.L B P := by
    unfold Z.L Z.pls
    rw [hz]
    exact List.mem_append_right _ (List.mem_append_left _ (List.mem_append_left _ List.mem_cons_self))
  have ef : Frz (upd H ad (.lst xs)) (z.L B P) = Frz H (z.L B P) := by
    funext b
    unfold Frz
    by_cases hb : b ∈ z.L B P
    · rw [if_pos hb, if_pos hb]
    · rw [if_neg hb, if_neg hb, upd_ne fun (e9 : b = ad) => hb (by rw [e9]; exact hm)]
  obtain ⟨_, _, ys, ey, _⟩ := r.pool i ad hz
  rw [hsh] at ey
  exact r.repool (xs := xs) hz (fun b o n _ h => by rw [upd_ne n]; exact h) (tabs_upd r.tabs ey (fun _ z => nomatch z) (fun _ z => nomatch z)) (by rw [hsh]; exact upd_same) (by rw [ef]; exact rp)
def poolG (k : Int) : FG := fun d ρ S => match ixN S.length k with | some j => R.ok (ρ, S.set j d) | none => R.bad
theorem pgd_pool (i : Nat) (hsh : z.sh = .lst) (hzi : ∃ a, z.pl = some (i, a)) {y : Str} {py pk : Pos} {k : Int} {j : Nat} (hN : X.N[i]? = some y := by rfl) (hv : Vis X.env.scope y := by first | exact Or.inl rfl | exact Or.inr (Or.inl rfl) | exact Or.inr (Or.inr rfl))
    (hd : (y == ("__debug__" : Str)) = false := by decide) (hcd : (y == ("__classdict__" : Str)) = false := by decide)
    (ha : ∀ v, assign (.Subscript (.Name y py) (.Constant (.int k) j pk) pos) X.env v = (do
      let ov ← holding [v] (eval (.Name y py) X.env)
      let iv ← holding [v, ov] (eval (.Constant (.int k) j pk) X.env)
      standAt pos
      holding [v, ov, iv] (setItem ov iv v)
      release [v, ov, iv] []) := by intro _; rfl) : PGd X z O EX [] (.Subscript (.Name y py) (.Constant (.int k) j pk) pos) (poolG k) := by
  refine ⟨_, pg_sub (pe_var hN hv hd hcd) pe_int set_list ha, fun B P σ H ρ S v d Q hP rr hv hs => ?_⟩
  obtain ⟨ad, hz⟩ := hzi
  obtain ⟨e1, e0, xs, e2, q3⟩ := rr.pool i ad hz
  rw [hsh] at e2
  unfold poolG at hs
  split at hs
  · rename_i j' hj
    refine ⟨_, e1, ad, xs, k, j', rfl, rfl, e2, by rw [q3.length]; exact hj, ?_⟩
    obtain ⟨r2, g2⟩ := rr.pput hz hsh (RpA.set hv j' q3)
    exact hs σ _ g2 r2 rfl fun _ _ => rfl
  · exact hs.elim
/-! ### built-in functions -/
section
variable {K : PySem.W.Frag} {ca : Str → Option Addr}
def lenD : List D → Option D | [.lst ds] => some (.int (ds.length : Nat)) | [.tup ds] => some (.int (ds.length : Nat)) | [.scr ns] => some (.int (ns.length : Nat)) | [.str y] => if y.length ≤ LINE then some (.int (y.length : Nat)) else none | _ => none
def rLen (K : PySem.W.Frag) : List V → Hp → VK → Prop := fun xs H Q => ∃ x n, xs = [x] ∧ LenV K x H n ∧ Q (.int n) H
theorem callD_len : CallD K ca (rLen K) lenD := by
  intro H L N vs ds d Q fr hv e hq
  unfold lenD at e
  split at e
  · cases e
    cases hv with
    | cons h r =>
      cases r
      obtain ⟨a, xs, rfl, h1, r1⟩ := h.lst
      exact ⟨_, _, rfl, .inl ⟨xs, SqL.of h1, r1.length.symm⟩, hq _ H (Ex.refl H) (.int _)⟩
  · cases e
    cases hv with
    | cons h r =>
      cases r
      obtain ⟨a, xs, rfl, h1, r1⟩ := h.tup
      exact ⟨_, _, rfl, .inr ⟨xs, ex_t (frz_ex _ _) h1, r1.length.symm⟩, hq _ H (Ex.refl H) (.int _)⟩
  · cases e
    cases hv with
    | cons h r =>
      cases r
      obtain ⟨a, rfl, h1⟩ := h.scr
      exact ⟨_, _, rfl, .inl ⟨_, ex_l (frz_ex _ _) h1, by rw [List.length_map]⟩, hq _ H (Ex.refl H) (.int _)⟩
  · split at e
    · rename_i w
      cases e
      cases hv with
      | cons h r =>
        cases r
        cases h.str
        exact ⟨_, _, rfl, ⟨line_le w, rfl⟩, hq _ H (Ex.refl H) (.int _)⟩
    · cases e
  · cases e
theorem pd_len (hK : X.K = z.K) (hm : X.mg "len" = none) (ha : PBA X z O EX [e] fa) (hg : Gl X "len" := by rfl) (he : starEach [e] X.env = (false, eval e X.env) :: starEach [] X.env := by rfl) (hpl : (backTo pos (starEach [] X.env)).any (·.1) = false := by rfl) :
    PD X z O EX (.Call (.Name "len" p) [e] [] pos) (callE lenD fa) := pd_callB (r := rLen z.K) (hK ▸ call_len) callD_len hm ha hg PySem.boot_len (by decide) (by decide) he hpl
/-- two ints in -/
theorem callD_int2 {r : List V → Hp → VK → Prop} {g : Int → Int → Int} (hr : ∀ i j H (Q : VK), Q (.int (g i j)) H → r [.int i, .int j] H Q) : CallD K ca r fun | [.int i, .int j] => some (.int (g i j)) | _ => none := by
  intro H L N vs ds d Q fr hv e hq
  dsimp only at e
  split at e
  · cases e
    cases hv with
    | cons h r =>
      cases r with
      | cons h2 r =>
        cases r
        cases h.int
        cases h2.int
        exact hr _ _ _ _ (hq _ H (Ex.refl H) (.int _))
  · cases e
def min2D : List D → Option D | [.int i, .int j] => some (.int (if j < i then j else i)) | _ => none
def max2D : List D → Option D | [.int i, .int j] => some (.int (if j > i then j else i)) | _ => none
theorem pd_min2 (hc : X.calm = true) (hm : X.mg "min" = none) (ha : PBA X z O EX [a, b] fa) (hg : Gl X "min" := by rfl) (he : starEach [a, b] X.env = (false, eval a X.env) :: starEach [b] X.env := by rfl) (hpl : (backTo pos (starEach [b] X.env)).any (·.1) = false := by rfl) :
    PD X z O EX (.Call (.Name "min" p) [a, b] [] pos) (callE min2D fa) := pd_callB (call_min2 hc) (callD_int2 fun i j H Q q => ⟨i, j, rfl, q⟩) hm ha hg (by decide +kernel) (by decide) (by decide) he hpl
theorem pd_max2 (hc : X.calm = true) (hm : X.mg "max" = none) (ha : PBA X z O EX [a, b] fa) (hg : Gl X "max" := by rfl) (he : starEach [a, b] X.env = (false, eval a X.env) :: starEach [b] X.env := by rfl) (hpl : (backTo pos (starEach [b] X.env)).any (·.1) = false := by rfl) :
    PD X z O EX (.Call (.Name "max" p) [a, b] [] pos) (callE max2D fa) := pd_callB (call_max2 hc) (callD_int2 fun i j H Q q => ⟨i, j, rfl, q⟩) hm ha hg (by decide +kernel) (by decide) (by decide) he hpl
/-- one int in -/
def absD : List D → Option D | [.int i] => some (.int (if i < 0 then -i else i)) | _ => none
def rAbs : List V → Hp → VK → Prop := fun xs H Q => ∃ i, xs = [.int i] ∧ Q (.int (if i < 0 then -i else i)) H
theorem callD_abs : CallD K ca rAbs absD := by
  intro H L N vs ds d Q fr hv e hq
  unfold absD at e
  split at e
  · cases e
    cases hv with
    | cons h r =>
      cases r
      cases h.int
      exact ⟨_, rfl, hq _ H (Ex.refl H) (.int _)⟩
  · cases e
theorem pd_abs (hm : X.mg "abs" = none) (ha : PBA X z O EX [e] fa) (hg : Gl X "abs" := by rfl) (he : starEach [e] X.env = (false, eval e X.env) :: starEach [] X.env := by rfl) (hpl : (backTo pos (starEach [] X.env)).any (·.1) = false := by rfl) :
    PD X z O EX (.Call (.Name "abs" p) [e] [] pos) (callE absD fa) := pd_callB (r := rAbs) call_abs callD_abs hm ha hg (by decide +kernel) (by decide) (by decide) he hpl
def strD : List D → Option D | [.int i] => if i.natAbs.log2 < 1920 then some (.str (toString i)) else none | _ => none
/-- tuple(x) -/
def tupD : List D → Option D | [.lst ds] => some (.tup ds) | [.tup ds] => some (.tup ds) | [.scr ns] => some (.tup (ns.map .int)) | _ => none
def rTupOf (K : PySem.W.Frag) : List V → Hp → VK → Prop := fun xs H Q => ∃ p ys, xs = [.ref p] ∧ ((SqL K H p ys ∧ ∀ l, H l = none → Q (.ref l) (upd H l (.tup ys))) ∨ (SqT K H p ys ∧ Q (.ref p) H))
theorem callD_tuple : CallD K ca (rTupOf K) tupD := by
  intro H L N vs ds d Q fr hv e hq
  unfold tupD at e
  split at e
  · cases e
    cases hv with
    | cons h r =>
      cases r
      obtain ⟨a, xs, rfl, h1, r1⟩ := h.lst
      exact ⟨a, xs, rfl, .inl ⟨SqL.of h1, fun l hl => hq _ _ (Ex.new hl) (new_tup hl (fr l hl) r1)⟩⟩
  · cases e
    cases hv with
    | cons h r =>
      cases r
      obtain ⟨a, xs, rfl, h1, r1⟩ := h.tup
      exact ⟨a, xs, rfl, .inr ⟨ex_t (frz_ex _ _) h1, hq _ H (Ex.refl H) (.tup h1 r1)⟩⟩
  · cases e
    cases hv with
    | cons h r =>
      cases r
      obtain ⟨a, rfl, h1⟩ := h.scr
      exact ⟨a, _, rfl, .inl ⟨ex_l (frz_ex _ _) h1, fun l hl => hq _ _ (Ex.new hl) (new_tup hl (fr l hl) (RpA.ofInts _))⟩⟩
  · cases e
theorem pd_tuple (hK : X.K = z.K) (hm : X.mg "tuple" = none) (ha : PBA X z O EX [e] fa) (hg : Gl X "tuple" := by rfl) (he : starEach [e] X.env = (false, eval e X.env) :: starEach [] X.env := by rfl) (hpl : (backTo pos (starEach [] X.env)).any (·.1) = false := by rfl) :
    PD X z O EX (.Call (.Name "tuple" p) [e] [] pos) (callE tupD fa) := pd_callTy (r := rTupOf z.K) (hK ▸ call_tuple_of) callD_tuple hm ha hg (by decide +kernel) (by decide) (by decide) he hpl
/-- all, any of bools -/
def blsOf : D → Option (List Bool) | .lst ds => D.bls ds | _ => none
theorem bls_sq {H : Hp} {L N : List Addr} {v : V} {d : D} {ns : List Bool} (h : Rb K ca H L N v d) (e : blsOf d = some ns) : ∃ a, v = .ref a ∧ SqL K H a (ns.map V.bl) := by
  cases d <;> simp only [blsOf, reduceCtorEq] at e
  obtain ⟨a, xs, rfl, h1, r1⟩ := h.lst
  rw [RpA.bls r1 e] at h1
  exact ⟨a, rfl, SqL.of h1⟩
def allD : List D → Option D | [x] => (blsOf x).map fun ns => .bl (ns.all id) | _ => none
theorem callD_all : CallD K ca (rAll K) allD := by
  intro H L N vs ds d Q fr hv e hq
  unfold allD at e
  split at e
  · simp only [Option.map_eq_some_iff] at e
    obtain ⟨ns, e, rfl⟩ := e
    cases hv with
    | cons h r =>
      cases r
      obtain ⟨a, rfl, h1⟩ := bls_sq h e
      exact ⟨a, ns, rfl, h1, hq _ H (Ex.refl H) (.bl _)⟩
  · cases e
theorem pd_all (hK : X.K = z.K) (hc : X.calm = true) (hm : X.mg "all" = none) (ha : PBA X z O EX [e] fa) (hg : Gl X "all" := by rfl) (he : starEach [e] X.env = (false, eval e X.env) :: starEach [] X.env := by rfl) (hpl : (backTo pos (starEach [] X.env)).any (·.1) = false := by rfl) :
    PD X z O EX (.Call (.Name "all" p) [e] [] pos) (callE allD fa) := pd_callB (r := rAll z.K) (hK ▸ cr_all hc) callD_all hm ha hg (by decide +kernel) (by decide) (by decide) he hpl
/-- divmod -/
def divmodD : List D → Option D | [.int i, .int j] => if 0 < j ∧ j < 1073741824 then some (.tup [.int (i / j), .int (i % j)]) else none | _ => none
def rDivmod : List V → Hp → VK → Prop := fun xs H Q => ∃ i j, xs = [.int i, .int j] ∧ CDiv i j ∧ ∀ p, H p = none → Q (.ref p) (upd H p (.tup [.int (i / j), .int (i % j)]))
theorem callD_divmod : CallD K ca rDivmod divmodD := by
  intro H L N vs ds d Q fr hv e hq
  unfold divmodD at e
  split at e
  · split at e
    · rename_i w
      cases e
      cases hv with
      | cons h r =>
        cases r with
        | cons h2 r =>
          cases r
          cases h.int
          cases h2.int
          exact ⟨_, _, rfl, w, fun p hp => hq _ _ (Ex.new hp) (new_tup hp (fr p hp) (.cons (.int _) (.cons (.int _) .nil)))⟩
    · cases e
  · cases e
theorem pd_divmod (hm : X.mg "divmod" = none) (ha : PBA X z O EX [a, b] fa) (hg : Gl X "divmod" := by rfl) (he : starEach [a, b] X.env = (false, eval a X.env) :: starEach [b] X.env := by rfl) (hpl : (backTo pos (starEach [b] X.env)).any (·.1) = false := by rfl) :
    PD X z O EX (.Call (.Name "divmod" p) [a, b] [] pos) (callE divmodD fa) := pd_callB (r := rDivmod) call_divmod callD_divmod hm ha hg (by decide +kernel) (by decide) (by decide) he hpl
/-- isinstance(x, T), T a built-in type -/
def tyD : D → Option String | .non => some "NoneType" | .bl _ => some "bool" | .int _ => some "int" | .str _ => some "str" | .tup _ => some "tuple" | .lst _ => some "list" | .scr _ => some "list" | .dic _ _ => some "dict" | .ins _ _ _ => none | .cls _ => none | .exn _ _ _ => none
/-- what isinstance asks of an own class -/
structure InsK (K : PySem.W.Frag) (C : Addr) : Prop where
  cl : Cls K C
  ha : PySem.W.findIn K (.ref C) "__class__" = some (some (.builtin "object.__class__"))
  hn : PySem.W.specialIn K (.builtin "object.__class__") "__get__" = some (some (.builtin "getset_descriptor.__get__"))
  tk : PySem.W.takesIn K (.builtin "object.__class__") = some true
  mr : PySem.W.mroIn K C (.type "object") = some true
def isiD (ty : String → Option Bool) (inst : Str → Option Bool) : D → Option D
  | .ins c _ _ => (inst c).map .bl
  | x => (tyD x).bind fun t => (ty t).map .bl
theorem ty_x {K : PySem.W.Frag} {ca : Str → Option Addr} {H : Hp} {v : V} {d : D} {t : String} (h : Rp K ca H v d) (e : tyD d = some t) : TyX K H v (.type t) := by
  cases h with
  | non => cases e; exact .base .non
  | bl b => cases e; exact .base (.bl b)
  | int i => cases e; exact .base (.int i)
  | str x => cases e; exact .base (.str x)
  | tup h r =>
    cases e
    rcases h with (h | ⟨o, h⟩) | ⟨o, its, n, h, hc, _⟩
    · exact .base (.tup h)
    · exact .fTuple h
    · exact .kTuple h hc
  | lst h r => cases e; exact .base (.lst h)
  | scr h =>
    cases e
    rcases h with (h | ⟨o, h⟩) | ⟨o, its, n, h, hc, _⟩
    · exact .base (.lst h)
    · exact .base (.frz h)
    · exact .kList h hc
  | dic h r => cases e; exact .base (.dK h)
  | ins h c r => cases e
  | cls h => cases e
  | exn0 _ _ => cases e
  | exnD _ _ _ _ => cases e
theorem pd_isi {ty : String → Option Bool} {inst : Str → Option Bool} {cv : V} {u : Value} {ce : Expr} (hK : X.K = z.K) (hm : X.mg "isinstance" = none) (hcv : PE X ce (tC cv)) (hu : ClsV cv u) (hty : ∀ t k, ty t = some k → PySem.W.kitOne z.K (.type t) u = some k)
    (hin : ∀ c k, inst c = some k → ∃ C, z.ca c = some C ∧ InsK z.K C ∧ PySem.W.kitOne z.K (.ref C) u = some k) (ha : PB X z O EX e f) (hg : Gl X "isinstance" := by rfl)
    (he : starEach [e, ce] X.env = (false, eval e X.env) :: starEach [ce] X.env := by rfl) (he2 : starEach [ce] X.env = (false, eval ce X.env) :: starEach [] X.env := by rfl) (hpl : (backTo pos (starEach [ce] X.env)).any (·.1) = false := by rfl) :
    PD X z O EX (.Call (.Name "isinstance" p) [e, ce] [] pos) (un1 (isiD ty inst) f) := by
  obtain ⟨t, pt, q⟩ := ha.ex
  refine ⟨_, pe_callB (r := rIsi X.K) call_isi hg hm (by decide +kernel) (pa_cons pt (pa_cons hcv pa_nil he2) he) (by decide) (by decide) he hpl, fun B P σ H ρ S Q hP rr hs => ?_⟩
  refine q B P σ H ρ S _ hP rr ((sat_bind.mp hs).imp fun x hx v H1 g1 r1 hv => ?_)
  obtain ⟨d, hd, hq⟩ := sat_of (sat_bind.mp hx)
  show rIsi X.K [v, cv] H1 Q
  rw [hK]
  have hr := hv.rp
  obtain ⟨x1, S1⟩ := x
  have oth : ∀ {t' : String}, tyD x1 = some t' → ((ty t').map D.bl) = some d → rIsi z.K [v, cv] H1 Q := fun {t'} e1 e2 => by
    simp only [Option.map_eq_some_iff] at e2
    obtain ⟨k, e2, rfl⟩ := e2
    exact ⟨v, cv, .type t', u, k, rfl, hu, ty_x hr e1, hty _ _ e2, hq _ H1 g1 r1 (.bl k)⟩
  cases x1 with
  | ins c ns vs =>
    simp only [isiD, Option.map_eq_some_iff] at hd
    obtain ⟨k, e2, rfl⟩ := hd
    obtain ⟨C, hca, ik, hk⟩ := hin c k e2
    cases hr with
    | ins h c' r =>
      rw [hca] at c'
      cases c'
      exact ⟨_, cv, .ref C, u, k, rfl, hu, .base (.ins h ik.cl ik.ha ik.hn ik.tk ik.mr), hk, hq _ H1 g1 r1 (.bl k)⟩
  | cls c => simp [isiD, tyD] at hd
  | exn c ns vs => simp [isiD, tyD] at hd
  | _ => exact oth rfl (by simpa [isiD, tyD] using hd)
end
/-! ### the law's own call -/
end
end PL
set_option Elab.async false
set_option linter.all false
set_option maxRecDepth 100000
set_option maxHeartbeats 4000000
namespace PL
open PySem PySem.Spec PyProof.Rows L2
section
variable {X : Cx} {z : Z} {O OI OM OO OL : List Nat} {EX : EXT} {a b c e o : Expr} {es : List Expr} {f g h : FE} {fa ga fk : FA} {fs gs : FS} {pos p apos : Pos} {st : Stmt} {sts : List Stmt}
/-! ### longer chains of comparisons -/
def lastC (g2 : D → D → Option D) (g : FE) : D → FE := fun d ρ S => g ρ S >>= fun y => R.of (g2 d y.1) >>= fun r => R.ok (r, y.2)
def consC (g2 : D → D → Option D) (g : FE) (h : D → FE) : D → FE := fun d ρ S => g ρ S >>= fun y => R.of (g2 d y.1) >>= fun r => match r with
  | .bl true => h y.1 ρ y.2
  | .bl false => R.ok (.bl false, y.2)
  | _ => R.bad
def chnE (f : FE) (h : D → FE) : FE := fun ρ S => f ρ S >>= fun x => h x.1 ρ x.2
/-! ### len of an instance -/
def lenC (cn : Str) (F : List D → R D) (f : FE) : FE := fun ρ S => f ρ S >>= fun x => match x.1 with
  | .ins c _ _ => if c = cn then noX (F [x.1]) >>= fun d => match d with
    | .int n => if 0 ≤ n ∧ n < 2 ^ 63 then R.ok (.int n, x.2) else R.bad
    | _ => R.bad else R.bad
  | _ => R.bad
theorem pd_lenC {cn : Str} {C fA : Addr} {fd : FuncData} {ps : List Str} {k : Nat} {F : List D → R D} (hK : X.K = z.K) (hm : X.mg "len" = none) (hca : z.ca cn = some C) (hs : PySem.W.findIn X.K (.ref C) "__len__" = some (some (.ref fA))) (hf : PySem.W.isFn X.K (.ref fA) = true)
    (G : FnG X.prog X.w X.K X.mg X.base k fA fd ps (spF z.K z.ca z.tb F)) (hr : Rm (k + 1) X.A) (hb : Binds X.K fd ps []) (ha : PD X z O EX e f) (hg : Gl X "len" := by rfl) (he : starEach [e] X.env = (false, eval e X.env) :: starEach [] X.env := by rfl) (hpl : (backTo pos (starEach [] X.env)).any (·.1) = false := by rfl) :
    PD X z O EX (.Call (.Name "len" p) [e] [] pos) (lenC cn F f) := by
  obtain ⟨t, pt, q⟩ := ha.ex
  have rule : CallR X (.builtin "len") (fun vs H Q => ∃ a dx fs, vs = [.ref a] ∧ H a = some (.ins C dx fs) ∧ spF z.K z.ca z.tb F [.ref a] H (fun v H' => ∃ n : Int, v = .int n ∧ 0 ≤ n ∧ n < 2 ^ 63 ∧ Q (.int n) H') E0) := by
    intro pins s σ H vs us Q I r h
    obtain ⟨a, dx, fs, rfl, ea, hq⟩ := h
    rw [Vals.ref1 r]
    obtain ⟨mA, Oj, _⟩ := ins_get I.hok ea
    obtain ⟨od, J, _⟩ := Oj.look
    obtain ⟨m, hF⟩ := I.fr
    have r2 : Vals [V.ref a] [Value.ref a] := .cons rfl .nil
    refine PySem.W.len_K hF I.ok.mod.kin J hs hf (wpAny_call (codeAny_mono (G.go X.A.in1 X.stack s H ⟨[.ref a], []⟩ [.ref a] [.ref a] _ E0 hr.r.in1 hr.g I.env0.in1 (hb s [.ref a] I.kIn (by rw [List.append_nil, ← r2.length]; exact G.num _ _ _ _ hq)) r2 hq) fun res s' hq' => ?_))
    match res, hq' with
    | .ok (.ret u), hq' =>
      obtain ⟨v, H', I3, rv, n, ev, h0, h1, q3⟩ := I.after hq'
      subst ev
      obtain ⟨tk, rfl⟩ := rv
      exact ⟨⟨h0, h1⟩, .int n, H', I3.tok _, ⟨_, rfl⟩, q3⟩
    | .ok .next, hq' => exact False.elim hq'
    | .ok .brk, hq' => exact False.elim hq'
    | .ok .cont, hq' => exact False.elim hq'
    | .error er, hq' => exact False.elim hq'
  refine ⟨_, pe_callB rule hg hm PySem.boot_len (pa_cons pt pa_nil he) (by decide) (by decide) he hpl, fun B P σ H ρ S Q hP rr hs' => ?_⟩
  refine q B P σ H ρ S _ hP rr ((sat_bind.mp hs').imp fun w hw v H1 g1 r1 hv => ?_)
  obtain ⟨w1, w2⟩ := w
  cases w1 with
  | ins c ns vs =>
    dsimp only at hw
    split at hw
    · rename_i ec
      cases hv with
      | ins h c' r =>
        have c2 := c'
        rw [ec, hca] at c2
        cases c2
        refine ⟨_, _, _, rfl, frz_ex _ _ _ _ h, [_], z.L B P, r1.nd, fun b hb => r1.lt hb, r1.tin, .cons (.ins h c' r) .nil, ?_⟩
        refine (sat_noX (sat_bind.mp hw)).imp fun d hd v H' e' tt hv' => ?_
        cases d with
        | int n =>
          cases hv'
          dsimp only at hd
          split at hd
          · rename_i w
            exact ⟨n, rfl, w.1, w.2, hd _ H' (g1.trans e'.grow) (r1.growT e' tt) (.int n)⟩
          · exact hd.elim
        | _ => exact hd.elim
    · exact hw.elim
  | _ => exact hw.elim
/-! ### {}, {k: v}, list(range(..)) -/
theorem pd_dic : PD X z O EX (.Dict [] [] pos) (fun _ S => R.ok (.dic [] [], S)) := pd_dic0 pe_dnewK
def rangeF : List D → Option (List D)
  | [.int a, .int b] => if -(2 ^ 62) ≤ a ∧ a < 2 ^ 62 ∧ -(2 ^ 62) ≤ b ∧ b < 2 ^ 62 ∧ (b - a).toNat ≤ 2 ^ 24 then some ((List.range (b - a).toNat).map fun i => D.int (a + (i : Nat))) else none
  | _ => none
def rgF (f g : FE) : FA := fun ρ S => f ρ S >>= fun x => g ρ x.2 >>= fun y => R.of (rangeF [x.1, y.1]) >>= fun d => R.ok (d, y.2)
/-! ### x.extend(ys), x owned -/
def extS (i : Nat) (f : FE) : FS := fun ρ S => f ρ S >>= fun x => lk ρ i >>= fun l => match l, x.1 with
  | .lst ds, .lst es => if ds.length + es.length ≤ LINE then setE ρ i (.lst (ds ++ es)) >>= fun ρ1 => R.ok (.nx, ρ1, x.2) else R.bad
  | _, _ => R.bad
/-! ### a, b, c, d = ([], [], e, e'): the lists are owned -/
theorem new_hide {B : List Addr} {P : List (Nat × Addr)} {σ : L2.St} {H : Hp} {ρ : Env} {S : List D} {p : Addr} (r : Rel z B P σ H ρ S) (hp : H p = none) : Rel z (p :: B) P σ (upd H p (.lst [])) ρ S ∧ Ex (Frz H (z.L B P)) (Frz (upd H p (.lst [])) (z.L (p :: B) P)) ∧ z.H0 p = none :=
  let ⟨a, b⟩ := r.hide (o := .lst []) hp
  ⟨a, b, h0_none r hp (not_pls (r.fresh hp))⟩
def own4S (i j k l : Nat) (f g : FE) : FS := fun ρ S => f ρ S >>= fun x => g ρ x.2 >>= fun y => setE ρ i (.lst []) >>= fun ρ1 => setE ρ1 j (.lst []) >>= fun ρ2 => setE ρ2 k x.1 >>= fun ρ3 => setE ρ3 l y.1 >>= fun ρ4 => R.ok (.nx, ρ4, y.2)
end
section
variable {X : Cx} {z : Z} {O : List Nat} {B : List Addr} {P : List (Nat × Addr)} {σ : L2.St} {H : Hp} {ρ : Env} {S : List D}
/-- an owned place: the list is hidden already, its place is stored to -/
theorem Rel.own0 {p : Addr} {xs : List V} {ds : List D} {i : Nat} (r : Rel z (p :: B) P σ H ρ S) (h : H p = some (.lst xs)) (h0 : z.H0 p = none) (rp : RpA z.K z.ca (Frz H (z.L (p :: B) P)) xs ds) (hi : ∀ q ∈ P, q.1 ≠ i) (hz : NotPl z i) (hl : i < ρ.length) :
    Rel z B ((i, p) :: P) (σ.set i (some (.ref p))) H (ρ.set i (some (.lst ds))) S := (r.own1 h h0 rp hi hz hl).1
end
section
variable {X : Cx} {z : Z} {O OL : List Nat} {EX : EXT} {a b e3 e4 : Expr} {f g : FE} {pos : Pos}
theorem psd_own4 (i j k l : Nat) (hK : X.K = z.K) (hc : X.calm = true) (hN : X.N.Nodup) (hzi : NotPl z i) (hzj : NotPl z j) (hzk : NotPl z k) (hzl : NotPl z l) (h3 : PD X z O EX e3 f) (h4 : PD X z O EX e4 g) (hO : (O.all fun n => n != i && n != j && n != k && n != l) = true := by rfl) {xi xj xk xl : Str} {pi pj pk pl' q1 q2 q3 q4 : Pos} {m1 m2 : Nat}
    (hd : [i, j, k, l].Nodup := by decide)
    (ni : X.N[i]? = some xi := by rfl) (nj : X.N[j]? = some xj := by rfl) (nk : X.N[k]? = some xk := by rfl) (nl : X.N[l]? = some xl := by rfl)
    (li : Loc X.env.scope xi := by first | exact Or.inl rfl | exact Or.inr rfl) (lj : Loc X.env.scope xj := by first | exact Or.inl rfl | exact Or.inr rfl) (lk : Loc X.env.scope xk := by first | exact Or.inl rfl | exact Or.inr rfl) (ll : Loc X.env.scope xl := by first | exact Or.inl rfl | exact Or.inr rfl)
    (fi : X.fn xi = true ∨ X.env.scope.names.lookup xi = some .local := by first | exact .inl rfl | exact .inr rfl) (fj : X.fn xj = true ∨ X.env.scope.names.lookup xj = some .local := by first | exact .inl rfl | exact .inr rfl)
    (fk : X.fn xk = true ∨ X.env.scope.names.lookup xk = some .local := by first | exact .inl rfl | exact .inr rfl) (fl : X.fn xl = true ∨ X.env.scope.names.lookup xl = some .local := by first | exact .inl rfl | exact .inr rfl)
    (s1 : starEach [.List [] q2, .List [] q3, e3, e4] X.env = (false, eval (.List [] q2) X.env) :: starEach [.List [] q3, e3, e4] X.env := by rfl) (s2 : starEach [.List [] q3, e3, e4] X.env = (false, eval (.List [] q3) X.env) :: starEach [e3, e4] X.env := by rfl)
    (s3 : starEach [e3, e4] X.env = (false, eval e3 X.env) :: starEach [e4] X.env := by rfl) (s4 : starEach [e4] X.env = (false, eval e4 X.env) :: starEach [] X.env := by rfl)
    (hs : swapsWithSole [.Tuple [.Name xi pi, .Name xj pj, .Name xk pk, .Name xl pl'] m1 q1] (.Tuple [.List [] q2, .List [] q3, e3, e4] m2 q4) pos.line X.env = pure false := by rfl)
    (hw : swappedStores [.Tuple [.Name xi pi, .Name xj pj, .Name xk pk, .Name xl pl'] m1 q1] (.Tuple [.List [] q2, .List [] q3, e3, e4] m2 q4) X.env = pure none := by rfl)
    (h1 : (assignEach [.Tuple [.Name xi pi, .Name xj pj, .Name xk pk, .Name xl pl'] m1 q1] X.env).map (·.2) = [assign (.Tuple [.Name xi pi, .Name xj pj, .Name xk pk, .Name xl pl'] m1 q1) X.env] := by rfl)
    (a1 : (assignEach [.Name xi pi, .Name xj pj, .Name xk pk, .Name xl pl'] X.env).map (·.2) = assign (.Name xi pi) X.env :: (assignEach [.Name xj pj, .Name xk pk, .Name xl pl'] X.env).map (·.2) := by rfl)
    (a2 : (assignEach [.Name xj pj, .Name xk pk, .Name xl pl'] X.env).map (·.2) = assign (.Name xj pj) X.env :: (assignEach [.Name xk pk, .Name xl pl'] X.env).map (·.2) := by rfl)
    (a3 : (assignEach [.Name xk pk, .Name xl pl'] X.env).map (·.2) = assign (.Name xk pk) X.env :: (assignEach [.Name xl pl'] X.env).map (·.2) := by rfl)
    (a4 : (assignEach [.Name xl pl'] X.env).map (·.2) = assign (.Name xl pl') X.env :: (assignEach [] X.env).map (·.2) := by rfl)
    (hn : (assignEach [.Name xi pi, .Name xj pj, .Name xk pk, .Name xl pl'] X.env).length = 4 := by rfl) (hst : (assignEach [.Name xi pi, .Name xj pj, .Name xk pk, .Name xl pl'] X.env).findIdx? (·.1) = none := by rfl) :
    PSd X z O (i :: j :: O) OL EX (.Assign [.Tuple [.Name xi pi, .Name xj pj, .Name xk pk, .Name xl pl'] m1 q1] (.Tuple [.List [] q2, .List [] q3, e3, e4] m2 q4) pos) (own4S i j k l f g) := by
  obtain ⟨t3, p3, q3⟩ := h3.ex
  obtain ⟨t4, p4, q4⟩ := h4.ex
  refine ⟨_, ps_asg (pe_tup (pa_cons (pe_lst pa_nil) (pa_cons (pe_lst pa_nil) (pa_cons p3 (pa_cons p4 pa_nil s4) s3) s2) s1)) (pg_tup hc (pgs_cons (pg_name hN ni li fi) (pgs_cons (pg_name hN nj lj fj) (pgs_cons (pg_name hN nk lk fk) (pgs_cons (pg_name hN nl ll fl) pgs_nil a4) a3) a2) a1) hn hst) hs hw h1, fun B P σ H ρ S D' hP rr hs => ?_⟩
  refine ⟨Nat.zero_le _, fun p1 hp1 => ?_⟩
  refine ⟨Nat.zero_le _, fun p2 hp2 => ?_⟩
  obtain ⟨r1, m1, z1⟩ := new_hide rr hp1
  obtain ⟨r2, m2, z2⟩ := new_hide r1 hp2
  refine q3 _ P σ _ ρ S _ hP r2 ((sat_bind.mp hs).imp fun x hx v3 H3 g3 r3 hv3 => ?_)
  refine q4 _ P σ H3 ρ x.2 _ hP r3 ((sat_bind.mp hx).imp fun y hy v4 H4 g4 r4 hv4 => ?_)
  refine ⟨by show 4 ≤ sizeLine; exact line_le (by decide), fun p hp => ?_⟩
  obtain ⟨b1, hy⟩ := sat_set (sat_bind.mp hy)
  obtain ⟨b2, hy⟩ := sat_set (sat_bind.mp hy)
  obtain ⟨b3, hy⟩ := sat_set (sat_bind.mp hy)
  obtain ⟨b4, hy⟩ := sat_set (sat_bind.mp hy)
  refine ⟨p, _, rfl, SqT.of upd_same, rfl, _, _, rfl, _, _, rfl, _, _, rfl, _, _, rfl, rfl, ?_⟩
  have e5 : Ex H4 (upd H4 p (.tup [.ref p1, .ref p2, v3, v4])) := Ex.new hp
  have r5 := r4.grow e5
  have np1 : p1 ∉ z.pls := fun q => by
    have nd := r2.nd
    unfold Z.L at nd
    exact (List.nodup_append.mp (List.nodup_append.mp nd).2.1).2.2 p1 q p1 (List.mem_cons_of_mem _ List.mem_cons_self) rfl
  have np2 : p2 ∉ z.pls := fun q => by
    have nd := r2.nd
    unfold Z.L at nd
    exact (List.nodup_append.mp (List.nodup_append.mp nd).2.1).2.2 p2 q p2 List.mem_cons_self rfl
  have c1 : (upd H4 p (.tup [.ref p1, .ref p2, v3, v4])) p1 = some (.lst []) := e5 _ _ (g4 _ _ np1 (g3 _ _ np1 (by rw [upd_ne (ne_of_none (o := .lst []) upd_same hp2)]; exact upd_same)))
  have c2 : (upd H4 p (.tup [.ref p1, .ref p2, v3, v4])) p2 = some (.lst []) := e5 _ _ (g4 _ _ np2 (g3 _ _ np2 upd_same))
  have hv3' := (hv3.mono g4.frz).mono (Grow.of (z := z) e5).frz
  have hv4' := hv4.mono (Grow.of (z := z) e5).frz
  have hOi : ∀ q ∈ P, q.1 ≠ i ∧ q.1 ≠ j ∧ q.1 ≠ k ∧ q.1 ≠ l := fun q hq => by
    have hm : q.1 ∈ O := by rw [← hP]; exact List.mem_map_of_mem hq
    have := List.all_eq_true.mp hO q.1 hm
    simpa [and_assoc] using this
  simp only [List.nodup_cons, List.mem_cons, List.not_mem_nil, or_false, not_or] at hd
  obtain ⟨⟨dij, dik, dil⟩, ⟨djk, djl⟩, dkl, _⟩ := hd
  -- the two values first, then the two lists
  have r6 := r5.set hv3' (fun q hq => (hOi q hq).2.2.1) hzk (by simpa using b3)
  have r7 := r6.set hv4' (fun q hq => (hOi q hq).2.2.2) hzl (by simpa using b4)
  have r8 := r7.own0 (ds := []) (i := j) c2 z2 .nil (fun q hq => (hOi q hq).2.1) hzj (by simpa using b2)
  have r9 := r8.own0 (ds := []) (i := i) c1 z1 .nil (fun q hq => by
    rcases List.mem_cons.mp hq with e | hq
    · rw [e]; exact Ne.symm dij
    · exact (hOi q hq).1) hzi (by simpa using b1)
  have eσ : ((((σ.set i (some (.ref p1))).set j (some (.ref p2))).set k (some v3)).set l (some v4)) = ((((σ.set k (some v3)).set l (some v4)).set j (some (.ref p2))).set i (some (.ref p1))) := by
    rw [List.set_comm _ _ dij, List.set_comm (l := σ.set j _) _ _ dik, List.set_comm (l := (σ.set j _).set k _) _ _ dil, List.set_comm (l := σ) _ _ djk, List.set_comm (l := σ.set k _) _ _ djl]
  have eρ : ((((ρ.set i (some (.lst []))).set j (some (.lst []))).set k (some x.1)).set l (some y.1)) = ((((ρ.set k (some x.1)).set l (some y.1)).set j (some (.lst []))).set i (some (.lst []))) := by
    rw [List.set_comm _ _ dij, List.set_comm (l := ρ.set j _) _ _ dik, List.set_comm (l := (ρ.set j _).set k _) _ _ dil, List.set_comm (l := ρ) _ _ djk, List.set_comm (l := ρ.set k _) _ _ djl]
  have ef : Frz (upd H4 p (.tup [.ref p1, .ref p2, v3, v4])) (z.L (p2 :: p1 :: B) P) = Frz (upd H4 p (.tup [.ref p1, .ref p2, v3, v4])) (z.L B ((i, p1) :: (j, p2) :: P)) := frz_congr fun a => by
    unfold Z.L
    simp only [List.map_cons, List.mem_append, List.mem_cons]
    constructor
    · rintro (h | h | h | h | h)
      · exact .inl (.inr (.inr h))
      · exact .inr (.inl h)
      · exact .inl (.inr (.inl h))
      · exact .inl (.inl h)
      · exact .inr (.inr h)
    · rintro ((h | h | h) | h | h)
      · exact .inr (.inr (.inr (.inl h)))
      · exact .inr (.inr (.inl h))
      · exact .inl h
      · exact .inr (.inl h)
      · exact .inr (.inr (.inr (.inr h)))
  have mm : Ex (Frz H (z.L B P)) (Frz (upd H4 p (.tup [.ref p1, .ref p2, v3, v4])) (z.L B ((i, p1) :: (j, p2) :: P))) := by
    rw [← ef]
    exact (((m1.trans m2).trans g3.frz).trans g4.frz).trans (Grow.of (z := z) e5).frz
  have hy : ∀ P' σ' H', P'.map (·.1) = i :: j :: O → Ex (Frz H (z.L B P)) (Frz H' (z.L B P')) → Rel z B P' σ' H' ((((ρ.set i (some (.lst []))).set j (some (.lst []))).set k (some x.1)).set l (some y.1)) y.2 → D'.nx σ' H' := hy
  rw [eρ] at hy
  rw [eσ]
  exact hy ((i, p1) :: (j, p2) :: P) _ _ (by rw [List.map_cons, List.map_cons, hP]) mm r9
end
end PL
set_option Elab.async false
set_option linter.all false
set_option maxRecDepth 100000
set_option maxHeartbeats 4000000
/-! zip and enumerate over tuples and lists, as many as there are. -/
namespace PLZ
open PySem
open PySem.Sem (wp)
/-- an iterator, what it walks, whether that is a tuple -/
structure Src where
  it : Addr
  l : Addr
  tp : Bool
def At (h : Heap) (c : Src) (xs : List Value) (j : Nat) : Prop :=
  if c.tp then h.IsTupleIter c.it c.l j ∧ h.IsTuple c.l xs.toArray else h.IsListIter c.it c.l j ∧ h.IsList c.l xs.toArray
section
variable {prog : Program} {w : World} {A : Around} {E : Value → Shared → Prop} {s : Shared} {h h' : Heap} {c : Src} {xs : List Value} {j : Nat}
theorem At.keep (a : At h c xs j) (k1 : ∀ o, h.get? c.it = some o → h'.get? c.it = some o) (k2 : ∀ o, h.get? c.l = some o → h'.get? c.l = some o) : At h' c xs j := by
  unfold At at a ⊢
  split at a
  · rename_i q
    rw [if_pos q]
    exact ⟨a.1.at fun o e => k1 o e, a.2.at fun o e => k2 o e⟩
  · rename_i q
    rw [if_neg q]
    exact ⟨a.1.at fun o e => k1 o e, a.2.at fun o e => k2 o e⟩
theorem At.there (a : At h c xs j) : ∃ o, h.get? c.it = some o ∧ ∃ vs, o.data = .fields vs := by
  unfold At at a
  split at a
  · obtain ⟨⟨o, ho, _, hd⟩, _⟩ := a
    exact ⟨o, ho, _, hd⟩
  · obtain ⟨⟨o, ho, _, hd⟩, _⟩ := a
    exact ⟨o, ho, _, hd⟩
theorem At.item {x : Value} {Q : Value → Shared → Prop} (a : At s.heap c xs j) (hx : xs[j]? = some x) (ne : c.l ≠ c.it)
    (hQ : ∀ h1, At h1 c xs (j + 1) → Heap.SameBut c.it s.heap h1 → Q x { s with heap := h1 }) : wpAny (model prog w) A (Builtin.SmallTypes.nextOf (.ref c.it)) Q E s := by
  unfold At at a
  split at a
  · rename_i q
    refine RZ.nextOf_tuple_item a.1 a.2 (x := x) (by simpa using hx) fun h1 a1 sb => hQ h1 ?_ sb
    unfold At
    rw [if_pos q]
    exact ⟨a1, a.2.extBut sb.extBut ne⟩
  · rename_i q
    refine wpAny_nextOf_list_item a.1 a.2 (x := x) (by simpa using hx) fun h1 a1 sb => hQ h1 ?_ sb
    unfold At
    rw [if_neg q]
    exact ⟨a1, a.2.extBut sb.extBut ne⟩
theorem At.stop {Q : Value → Shared → Prop} (hh : A.handled = none) (a : At s.heap c xs j) (hx : xs.length ≤ j)
    (hE : ∀ h1 e, Heap.ExtBut c.it s.heap h1 → (∃ o, h1.get? e = some o ∧ o.cls = .type "StopIteration") → E (.ref e) { s with heap := h1 }) :
    wpAny (model prog w) A (Builtin.SmallTypes.nextOf (.ref c.it)) Q E s := by
  unfold At at a
  split at a
  · exact RZ.nextOf_tuple_end hh a.1 a.2 (by simpa using hx) hE
  · exact wpAny_nextOf_list_end hh a.1 a.2 (by simpa using hx) hE
/-! the zip -/
abbrev Col := Src × List Value
def row (cs : List Col) (j : Nat) : List Value := cs.map fun p => p.2.getD j .none
def feet (z TI TO : Addr) (cs : List Col) : List Addr := z :: TI :: TO :: cs.map (·.1.it)
structure Apart (z TI TO : Addr) (cs : List Col) : Prop where
  nd : (feet z TI TO cs).Nodup
  off : ∀ p ∈ cs, p.1.l ∉ feet z TI TO cs
  few : cs.length ≤ 8
  non : cs ≠ []
abbrev ZipRec (h : Heap) (z TI TO : Addr) (f0 : Value) (f1 : Bool) : Prop :=
  h.get? z = some { cls := .type "zip", dict := none, data := .fields #[f0, .bool f1, .bool false, .ref TI, .ref TO], slots := #[] }
abbrev TupRec (h : Heap) (T : Addr) (xs : List Value) : Prop := h.get? T = some { cls := .type "tuple", data := .seq xs.toArray }
structure ZipAt (h : Heap) (z TI TO : Addr) (cs : List Col) (j : Nat) : Prop where
  z : ∃ f0 f1, (f0 = .none ∨ ∃ T : Addr, f0 = rawInt T) ∧ ZipRec h z TI TO f0 f1
  ti : TupRec h TI (cs.map fun p => .ref p.1.it)
  to : ∃ ws, ws.length = cs.length ∧ TupRec h TO ws
  at_ : ∀ p ∈ cs, At h p.1 p.2 j
theorem upd_tup {T : Addr} {ws : List Value} {k : Nat} {x : Value} {Q : Unit → Shared → Prop} (ht : TupRec s.heap T ws) (hk : ws.length ≤ 8)
    (hQ : ∀ h1, TupRec h1 T (ws.set k x) → Heap.SameBut T s.heap h1 → Q () { s with heap := h1 }) : wpAny (model prog w) A (updateSeq T (·.setIfInBounds k x)) Q E s := by
  have e : sizeLine = 16777216 := by decide
  refine wpAny_updateSeq ht rfl (hQ _ ?_ (Heap.SameBut.update ..)) (by rw [List.size_toArray, e]; omega) (by rw [Array.size_setIfInBounds, List.size_toArray, e]; omega)
  show Heap.get? _ _ = _
  rw [Heap.get?_update_self _ ht rfl]
  simp [Obj.mapSeq]
end
end PLZ
set_option Elab.async false
set_option linter.all false
set_option maxRecDepth 100000
set_option maxHeartbeats 4000000
namespace PLZ
open PySem
open PySem.Sem (wp)
section
variable {prog : Program} {w : World} {A : Around} {E : Value → Shared → Prop} {s : Shared} {h h' : Heap} {z TI TO : Addr} {cs : List Col} {j : Nat}
theorem alive_any {a : Addr} {Q : Option Obj → Shared → Prop} (hq : Q (s.heap.get? a) s) : wpAny (model prog w) A (loadIfAlive a) Q E s := fun _ _ _ => hq
/-- is the tuple free: both may come -/
theorem free_any {f0 : Value} {f1 : Bool} {Q : Bool → Shared → Prop} (ez : ZipRec s.heap z TI TO f0 f1) (h0 : f0 = .none ∨ ∃ T : Addr, f0 = rawInt T)
    (h1 : Q true s) (h2 : ∀ h1, ZipRec h1 z TI TO f0 true → Heap.SameBut z s.heap h1 → Q false { s with heap := h1 }) : wpAny (model prog w) A (Builtin.SmallTypes.ownedTupleIsFree (.ref z)) Q E s := by
  unfold Builtin.SmallTypes.ownedTupleIsFree
  refine wpAny_bind (wpAny_field ez rfl (x := f0) rfl ?_)
  rcases h0 with rfl | ⟨T, rfl⟩
  · exact wpAny_pure h1
  · show wpAny _ _ (loadIfAlive ((T : Int).toNat) >>= _) _ _ s
    refine wpAny_bind (alive_any ?_)
    cases q : s.heap.get? (T : Int).toNat with
    | none =>
      simp only [Option.isNone_none, if_true]
      exact wpAny_pure h1
    | some o =>
      simp only [Option.isNone_some, Bool.false_eq_true, if_false]
      refine wpAny_bind (wpAny_field ez rfl (x := .bool f1) rfl ?_)
      cases f1 with
      | true =>
        rw [if_neg (by simp)]
        exact wpAny_pure (h2 s.heap ez (Heap.SameBut.refl _ _))
      | false =>
        rw [if_pos (by rfl)]
        exact wpAny_bind (wpAny_setField_rec ez (by simp) fun h1 e1 sb => wpAny_pure (h2 h1 e1 sb))
theorem take_s {α : Type} {l : List α} {k : Nat} (hk : k < l.length) : l.take (k + 1) = l.take k ++ [l[k]] := by
  rw [List.take_add_one]
  simp [hk]
theorem few_ok {n : Nat} (hn : n ≤ 8) : n ≤ sizeLine := by
  have e : sizeLine = 16777216 := by decide
  omega
theorem Apart.ne (D : Apart z TI TO cs) : z ≠ TI ∧ z ≠ TO ∧ TI ≠ TO ∧ ∀ p ∈ cs, p.1.it ≠ z ∧ p.1.it ≠ TI ∧ p.1.it ≠ TO := by
  have nd := D.nd
  unfold feet at nd
  simp only [List.nodup_cons, List.mem_cons, not_or] at nd
  obtain ⟨⟨a1, a2, a3⟩, ⟨b1, b2⟩, c1, _⟩ := nd
  refine ⟨a1, a2, b1, fun p hp => ?_⟩
  have hm : p.1.it ∈ cs.map (·.1.it) := List.mem_map_of_mem (f := fun q : Col => q.1.it) hp
  exact ⟨fun e => a3 (e ▸ hm), fun e => b2 (e ▸ hm), fun e => c1 (e ▸ hm)⟩
theorem Apart.inj (D : Apart z TI TO cs) {i k : Nat} {p q : Col} (hp : cs[i]? = some p) (hq : cs[k]? = some q) (e : p.1.it = q.1.it) : i = k := by
  have nd : (cs.map (·.1.it)).Nodup := by
    have nd := D.nd
    unfold feet at nd
    simp only [List.nodup_cons] at nd
    exact nd.2.2.2
  have hi : i < cs.length := (List.getElem?_eq_some_iff.mp hp).1
  refine (List.getElem?_inj (l := cs.map (·.1.it)) (by simpa using hi) nd).mp ?_
  rw [List.getElem?_map, List.getElem?_map, hp, hq]
  simp [e]
/-- the first k have been drawn -/
structure Mid (s0 : Heap) (z TI TO : Addr) (cs : List Col) (j k : Nat) (h : Heap) (ws : List Value) : Prop where
  ti : TupRec h TI (cs.map fun p => .ref p.1.it)
  to : TupRec h TO ws
  got : ∀ i p, cs[i]? = some p → At h p.1 p.2 (if i < k then j + 1 else j)
  sz : h.objs.size = s0.objs.size
  old : ∀ b o, b ∉ feet z TI TO cs → s0.get? b = some o → h.get? b = some o
theorem Mid.draw {s0 h1 : Heap} {k : Nat} {ws : List Value} {p : Col} (D : Apart z TI TO cs) (M : Mid s0 z TI TO cs j k h ws) (hp : cs[k]? = some p) (a : At h1 p.1 p.2 (j + 1)) (sb : Heap.SameBut p.1.it h h1) : Mid s0 z TI TO cs j (k + 1) h1 ws := by
  have hm : p ∈ cs := List.mem_of_getElem? hp
  obtain ⟨n1, n2, n3, n4⟩ := D.ne
  obtain ⟨m1, m2, m3⟩ := n4 p hm
  refine ⟨sb.extBut _ _ (Ne.symm m2) M.ti, sb.extBut _ _ (Ne.symm m3) M.to, fun i q hq => ?_, sb.1.trans M.sz, fun b o hb e => sb.extBut _ _ (fun z => hb ?_) (M.old b o hb e)⟩
  · by_cases hik : i = k
    · subst hik
      rw [hp] at hq
      cases hq
      rw [if_pos (Nat.lt_succ_self _)]
      exact a
    · have e : (if i < k + 1 then j + 1 else j) = if i < k then j + 1 else j := by
        by_cases h1 : i < k
        · rw [if_pos h1, if_pos (by omega)]
        · rw [if_neg h1, if_neg (by omega)]
      rw [e]
      have hqm : q ∈ cs := List.mem_of_getElem? hq
      refine (M.got i q hq).keep (fun o e => sb.extBut _ _ (fun z => hik (D.inj hq hp z)) e) fun o e => sb.extBut _ _ (fun z => D.off q hqm ?_) e
      rw [z]
      unfold feet
      exact List.mem_cons_of_mem _ (List.mem_cons_of_mem _ (List.mem_cons_of_mem _ (List.mem_map_of_mem (f := fun q : Col => q.1.it) hm)))
  · rw [z]
    unfold feet
    exact List.mem_cons_of_mem _ (List.mem_cons_of_mem _ (List.mem_cons_of_mem _ (List.mem_map_of_mem (f := fun q : Col => q.1.it) hm)))
/-- a write to z or to TO -/
theorem Mid.put {s0 h1 : Heap} {k : Nat} {ws ws1 : List Value} {a : Addr} (D : Apart z TI TO cs) (M : Mid s0 z TI TO cs j k h ws) (ha : a = z ∨ a = TO) (ht : TupRec h1 TO ws1) (sb : Heap.SameBut a h h1) : Mid s0 z TI TO cs j k h1 ws1 := by
  obtain ⟨n1, n2, n3, n4⟩ := D.ne
  have hf : a ∈ feet z TI TO cs := by
    unfold feet
    rcases ha with rfl | rfl <;> simp
  refine ⟨sb.extBut _ _ ?_ M.ti, ht, fun i q hq => ?_, sb.1.trans M.sz, fun b o hb e => sb.extBut _ _ (fun z => hb (z ▸ hf)) (M.old b o hb e)⟩
  · rcases ha with rfl | rfl
    · exact Ne.symm n1
    · exact n3
  · have hqm : q ∈ cs := List.mem_of_getElem? hq
    refine (M.got i q hq).keep (fun o e => sb.extBut _ _ ?_ e) fun o e => sb.extBut _ _ (fun z => D.off q hqm (z ▸ hf)) e
    obtain ⟨m1, m2, m3⟩ := n4 q hqm
    rcases ha with rfl | rfl
    · exact m1
    · exact m3
theorem Mid.start (D : Apart z TI TO cs) {ws : List Value} (ti : TupRec h TI (cs.map fun p => .ref p.1.it)) (to : TupRec h TO ws) (ats : ∀ p ∈ cs, At h p.1 p.2 j) : Mid h z TI TO cs j 0 h ws :=
  ⟨ti, to, fun i p hp => by rw [if_neg (Nat.not_lt_zero _)]; exact ats p (List.mem_of_getElem? hp), rfl, fun _ _ _ e => e⟩
theorem zip_item {Q : Value → Shared → Prop} (D : Apart z TI TO cs) (Z : ZipAt s.heap z TI TO cs j) (hj : ∀ p ∈ cs, j < p.2.length)
    (hQ : ∀ h1, ZipAt h1 z TI TO cs (j + 1) → TupRec h1 s.heap.objs.size (row cs j) → h1.objs.size = s.heap.objs.size + 1 → (∀ b o, b ∉ feet z TI TO cs → s.heap.get? b = some o → h1.get? b = some o) → Q (.ref s.heap.objs.size) { s with heap := h1 }) :
    wpAny (model prog w) A (Builtin.«zip.__next__» ⟨[.ref z], []⟩) (fun fin s1 => ∃ v, fin = .done (.ret v) ∧ Q v s1) E s := by
  obtain ⟨⟨f0, f1, h0, ez⟩, eTI, ⟨ws, lw, eTO⟩, ats⟩ := Z
  obtain ⟨n1, n2, n3, n4⟩ := D.ne
  show wpAny _ _ (field (.ref z) 2 >>= _) _ _ s
  refine wpAny_bind (wpAny_field ez rfl (x := .bool false) rfl ?_)
  show wpAny _ _ (field (.ref z) 3 >>= _) _ _ s
  refine wpAny_bind (wpAny_field ez rfl (x := .ref TI) rfl ?_)
  refine wpAny_bind (wpAny_seqItems eTI rfl ?_)
  have ne : ((cs.map fun p => Value.ref p.1.it).toArray.isEmpty) = false := by
    have := D.non
    cases cs with
    | nil => exact absurd rfl this
    | cons _ _ => simp
  simp only [ne, Bool.false_eq_true, if_false]
  refine wpAny_bind (free_any ez h0 ?_ ?_)
  · simp only [if_true]
    refine wpAny_bind (wpAny_rule ?_)
    refine wpAny_bind (wpAny_field ez rfl (x := .ref TO) rfl ?_)
    refine wpAny_bind (wpAny_setField_rec ez (by simp) fun h1 e1 sb1 => ?_)
    refine wpAny_bind ?_
    refine wpAny_forIn_list _ (fun rest b s1 => ∃ k h2, rest = ((cs.map fun p => Value.ref p.1.it).zipIdx).drop k ∧ k ≤ cs.length ∧ b = (none, ()) ∧ s1 = { s with heap := h2 } ∧ ZipRec h2 z TI TO .ellipsis f1 ∧ Mid s.heap z TI TO cs j k h2 ((row cs j).take k ++ ws.drop k)) _ ?_ ?_ _ _ ⟨0, h1, by simp, Nat.zero_le _, rfl, rfl, e1, (Mid.start D eTI eTO ats).put D (.inl rfl) (sb1.extBut _ _ (Ne.symm n2) (by simpa using eTO)) sb1⟩
    · rintro x rest b s1 ⟨k, h2, er, hk, rfl, rfl, z2, M⟩
      have hlt : k < cs.length := by
        rcases Nat.lt_or_ge k cs.length with q | q
        · exact q
        · rw [List.drop_of_length_le (by simpa using q)] at er
          cases er
      have hpk : cs[k]? = some cs[k] := List.getElem?_eq_getElem hlt
      rw [List.drop_eq_getElem_cons (by simpa using hlt)] at er
      cases er
      simp only [List.getElem_zipIdx, List.getElem_map, Nat.zero_add]
      have am := M.got k _ hpk
      rw [if_neg (Nat.lt_irrefl _)] at am
      have hm := List.mem_of_getElem? hpk
      have jl := hj _ hm
      refine wpAny_bind (wpAny_onRaise ?_)
      show wpAny _ _ (Builtin.SmallTypes.nextOf (.ref cs[k].1.it) >>= _) _ _ _
      refine wpAny_bind (am.item (s := { s with heap := h2 }) (x := cs[k].2[j]) (by simp [jl]) (fun e => D.off _ hm (by unfold feet; rw [e]; exact List.mem_cons_of_mem _ (List.mem_cons_of_mem _ (List.mem_cons_of_mem _ (List.mem_map_of_mem (f := fun q : Col => q.1.it) hm))))) fun h3 a3 sb3 => wpAny_pure ?_)
      have M3 := M.draw D hpk a3 sb3
      have z3 : ZipRec h3 z TI TO .ellipsis f1 := sb3.extBut _ _ (Ne.symm (n4 _ hm).1) z2
      show wpAny _ _ (seqItems? (.ref TO) >>= _) _ _ _
      refine wpAny_bind (wpAny_seqItems (s := { s with heap := h3 }) M3.to rfl ?_)
      have lr : (row cs j).length = cs.length := by simp [row]
      refine wpAny_bind (upd_tup (s := { s with heap := h3 }) M3.to (by have := D.few; simp; omega) fun h4 t4 sb4 => ?_)
      refine wpAny_bind (wpAny_letGo (wpAny_pure ?_))
      have ew : ((row cs j).take k ++ ws.drop k).set k cs[k].2[j] = (row cs j).take (k + 1) ++ ws.drop (k + 1) := by
        rw [List.set_append_right _ _ (by simp [lr]; omega), List.length_take, Nat.min_eq_left (by omega), Nat.sub_self, List.drop_eq_getElem_cons (by omega : k < ws.length), List.set_cons_zero, take_s (by omega : k < (row cs j).length)]
        simp [row, jl]
      exact ⟨k + 1, h4, rfl, hlt, rfl, rfl, sb4.extBut _ _ n2 z3, (M3.put D (.inr rfl) (ew ▸ t4) sb4)⟩
    · rintro b s1 ⟨k, h2, er, hk, rfl, rfl, z2, M⟩
      have ek : k = cs.length := by
        have := congrArg List.length er
        simp at this
        omega
      subst ek
      have lr : (row cs j).length = cs.length := by simp [row]
      have ew : (row cs j).take cs.length ++ ws.drop cs.length = row cs j := by
        rw [← lr, List.take_length, List.drop_of_length_le (by omega), List.append_nil]
      rw [ew] at M
      dsimp only
      refine wpAny_bind (wpAny_seqItems (s := { s with heap := h2 }) M.to rfl ?_)
      simp only [List.toList_toArray]
      refine wpAny_bind (wpAny_newTuple (s := { s with heap := h2 }) ?_ (few_ok (by rw [lr]; exact D.few)))
      show wpAny _ _ (Builtin.SmallTypes.ownedTupleHandOut (.ref z) (.ref h2.objs.size) >>= _) _ _ _
      refine wpAny_bind ?_
      unfold Builtin.SmallTypes.ownedTupleHandOut
      have z5 : ZipRec (h2.push { cls := .type "tuple", data := .seq (row cs j).toArray }) z TI TO .ellipsis f1 := Heap.get?_push_of_some _ z2
      refine wpAny_bind (wpAny_setField_rec (s := { s with heap := _ }) z5 (by simp) fun h6 z6 sb6 => ?_)
      refine wpAny_setField_rec (s := { s with heap := _ }) z6 (by simp) fun h7 z7 sb7 => ?_
      refine wpAny_pure ⟨_, rfl, ?_⟩
      have up : ∀ b o, b ≠ z → h2.get? b = some o → h7.get? b = some o := fun b o n e => sb7.extBut _ _ n (sb6.extBut _ _ n (Heap.get?_push_of_some _ e))
      have zl : z < h2.objs.size := Heap.lt_size z2
      have s7 : h7.objs.size = s.heap.objs.size + 1 := by rw [sb7.1, sb6.1, Heap.size_push, M.sz]
      show Q (.ref h2.objs.size) _
      rw [M.sz]
      refine hQ h7 ⟨⟨rawInt h2.objs.size, false, .inr ⟨_, rfl⟩, z7⟩, up _ _ (Ne.symm n1) M.ti, ⟨_, lr, up _ _ (Ne.symm n2) M.to⟩, fun p hp => ?_⟩ ?_ s7 fun b o hb e => ?_
      · obtain ⟨i, hi⟩ := List.mem_iff_getElem?.mp hp
        have a := M.got i p hi
        rw [if_pos (List.getElem?_eq_some_iff.mp hi).1] at a
        exact a.keep (fun o e => up _ o (n4 p hp).1 e) fun o e => up _ o (fun q => D.off p hp (by rw [q]; unfold feet; simp)) e
      · have t : TupRec h7 h2.objs.size (row cs j) := sb7.extBut _ _ (Nat.ne_of_gt zl) (sb6.extBut _ _ (Nat.ne_of_gt zl) (Heap.get?_push_size _ rfl))
        rw [M.sz] at t
        exact t
      · exact up b o (fun q => hb (by rw [q]; unfold feet; simp)) (M.old b o hb e)
  · intro h1 e1 sb1
    simp only [Bool.false_eq_true, if_false]
    refine wpAny_bind ?_
    have t1 : TupRec h1 TO ws := sb1.extBut _ _ (Ne.symm n2) eTO
    refine wpAny_forIn_array' _ (fun rest b s1 => ∃ k h2, rest = (cs.map fun p => Value.ref p.1.it).drop k ∧ k ≤ cs.length ∧ b = (none, ((row cs j).take k).toArray) ∧ s1 = { s with heap := h2 } ∧ ZipRec h2 z TI TO f0 true ∧ Mid s.heap z TI TO cs j k h2 ws) _ ?_ ?_ _ _ ⟨0, h1, by simp, Nat.zero_le _, by simp, rfl, e1, (Mid.start D eTI eTO ats).put D (.inl rfl) t1 sb1⟩
    · rintro x rest b s1 ⟨k, h2, er, hk, rfl, rfl, z2, M⟩
      have hlt : k < cs.length := by
        rcases Nat.lt_or_ge k cs.length with q | q
        · exact q
        · rw [List.drop_of_length_le (by simpa using q)] at er
          cases er
      have hpk : cs[k]? = some cs[k] := List.getElem?_eq_getElem hlt
      rw [List.drop_eq_getElem_cons (by simpa using hlt)] at er
      cases er
      simp only [List.getElem_map]
      have am := M.got k _ hpk
      rw [if_neg (Nat.lt_irrefl _)] at am
      have hm := List.mem_of_getElem? hpk
      have jl := hj _ hm
      refine wpAny_bind (wpAny_holding ?_)
      show wpAny _ _ (Builtin.SmallTypes.nextOf (.ref cs[k].1.it) >>= _) _ _ _
      refine wpAny_bind (am.item (s := { s with heap := h2 }) (x := cs[k].2[j]) (by simp [jl]) (fun e => D.off _ hm (by unfold feet; rw [e]; exact List.mem_cons_of_mem _ (List.mem_cons_of_mem _ (List.mem_cons_of_mem _ (List.mem_map_of_mem (f := fun q : Col => q.1.it) hm))))) fun h3 a3 sb3 => wpAny_pure (wpAny_pure ?_))
      have lr : (row cs j).length = cs.length := by simp [row]
      refine ⟨k + 1, h3, rfl, hlt, ?_, rfl, sb3.extBut _ _ (Ne.symm (n4 _ hm).1) z2, M.draw D hpk a3 sb3⟩
      rw [take_s (by omega : k < (row cs j).length)]
      simp [row, jl]
    · rintro b s1 ⟨k, h2, er, hk, rfl, rfl, z2, M⟩
      have ek : k = cs.length := by
        have := congrArg List.length er
        simp at this
        omega
      subst ek
      have lr : (row cs j).length = cs.length := by simp [row]
      dsimp only
      rw [← lr, List.take_length]
      refine wpAny_bind (wpAny_newTuple (s := { s with heap := h2 }) (wpAny_pure ⟨_, rfl, ?_⟩) (few_ok (by rw [lr]; exact D.few)))
      show Q (.ref h2.objs.size) _
      rw [M.sz]
      have up : ∀ b o, h2.get? b = some o → (h2.push { cls := .type "tuple", data := .seq (row cs j).toArray }).get? b = some o := fun b o e => Heap.get?_push_of_some _ e
      refine hQ _ ⟨⟨f0, true, h0, up _ _ z2⟩, up _ _ M.ti, ⟨_, lw, up _ _ M.to⟩, fun p hp => ?_⟩ ?_ (by rw [Heap.size_push, M.sz]) fun b o hb e => up _ _ (M.old b o hb e)
      · obtain ⟨i, hi⟩ := List.mem_iff_getElem?.mp hp
        have a := M.got i p hi
        rw [if_pos (List.getElem?_eq_some_iff.mp hi).1] at a
        exact a.keep (fun o e => up _ o e) fun o e => up _ o e
      · have t : TupRec (h2.push { cls := .type "tuple", data := .seq (row cs j).toArray }) h2.objs.size (row cs j) := Heap.get?_push_size _ rfl
        rw [M.sz] at t
        exact t
end
end PLZ
set_option Elab.async false
set_option linter.all false
set_option maxRecDepth 100000
set_option maxHeartbeats 4000000
namespace PLZ
open PySem
open PySem.Sem (wp)
section
variable {prog : Program} {w : World} {A : Around} {E : Value → Shared → Prop} {s : Shared} {h h' : Heap} {z TI TO : Addr} {cs : List Col} {j : Nat}
theorem zip_stop {Q : Fin → Shared → Prop} (hh : A.handled = none) (D : Apart z TI TO cs) (Z : ZipAt s.heap z TI TO cs j) (hj : ∀ p ∈ cs, p.2.length ≤ j)
    (hE : ∀ h1 e, (∀ b o, b ∉ feet z TI TO cs → s.heap.get? b = some o → h1.get? b = some o) → (∃ o, h1.get? e = some o ∧ o.cls = .type "StopIteration") → E (.ref e) { s with heap := h1 }) :
    wpAny (model prog w) A (Builtin.«zip.__next__» ⟨[.ref z], []⟩) Q E s := by
  obtain ⟨⟨f0, f1, h0, ez⟩, eTI, ⟨ws, lw, eTO⟩, ats⟩ := Z
  obtain ⟨n1, n2, n3, n4⟩ := D.ne
  have zf : z ∈ feet z TI TO cs := by unfold feet; simp
  show wpAny _ _ (field (.ref z) 2 >>= _) _ _ s
  refine wpAny_bind (wpAny_field ez rfl (x := .bool false) rfl ?_)
  show wpAny _ _ (field (.ref z) 3 >>= _) _ _ s
  refine wpAny_bind (wpAny_field ez rfl (x := .ref TI) rfl ?_)
  refine wpAny_bind (wpAny_seqItems eTI rfl ?_)
  obtain ⟨p, r, rfl⟩ : ∃ p r, cs = p :: r := by
    cases cs with
    | nil => exact absurd rfl D.non
    | cons p r => exact ⟨p, r, rfl⟩
  have hm : p ∈ p :: r := List.mem_cons_self ..
  have pf : p.1.it ∈ feet z TI TO (p :: r) := by unfold feet; simp
  have ne : (((p :: r).map fun p : Col => Value.ref p.1.it).toArray.isEmpty) = false := by simp
  simp only [ne, Bool.false_eq_true, if_false]
  refine wpAny_bind (free_any ez h0 ?_ ?_)
  · simp only [if_true]
    refine wpAny_bind (wpAny_rule ?_)
    refine wpAny_bind (wpAny_field ez rfl (x := .ref TO) rfl ?_)
    refine wpAny_bind (wpAny_setField_rec ez (by simp) fun h1 e1 sb1 => ?_)
    refine wpAny_bind ?_
    simp only [List.map_cons, List.zipIdx_cons, List.forIn_cons]
    refine wpAny_bind (wpAny_bind (wpAny_onRaise ?_))
    show wpAny _ _ (Builtin.SmallTypes.nextOf (.ref p.1.it) >>= _) _ _ _
    have a1 : At h1 p.1 p.2 j := (ats p hm).keep (fun o e => sb1.extBut _ _ (n4 p hm).1 e) fun o e => sb1.extBut _ _ (fun q => D.off p hm (q ▸ zf)) e
    refine wpAny_bind (a1.stop (s := { s with heap := h1 }) hh (hj p hm) fun h2 e x2 ho => ?_)
    have z2 := x2 _ _ (Ne.symm (n4 p hm).1) e1
    refine wpAny_setField_rec (s := { s with heap := h2 }) z2 (by simp) fun h3 z3 sb3 => ?_
    refine hE h3 e (fun b o hb q => sb3.extBut _ _ (fun c => hb (c ▸ zf)) (x2 _ _ (fun c => hb (c ▸ pf)) (sb1.extBut _ _ (fun c => hb (c ▸ zf)) q))) ?_
    obtain ⟨o, ho, hc⟩ := ho
    have nz : e ≠ z := fun c => by
      rw [c, z2] at ho
      cases ho
      simp at hc
    exact ⟨o, sb3.extBut _ _ nz ho, hc⟩
  · intro h1 e1 sb1
    simp only [Bool.false_eq_true, if_false]
    refine wpAny_bind ?_
    rw [← Array.forIn_toList]
    simp only [List.map_cons, List.forIn_cons]
    refine wpAny_bind (wpAny_bind (wpAny_holding ?_))
    show wpAny _ _ (Builtin.SmallTypes.nextOf (.ref p.1.it) >>= _) _ _ _
    have a1 : At h1 p.1 p.2 j := (ats p hm).keep (fun o e => sb1.extBut _ _ (n4 p hm).1 e) fun o e => sb1.extBut _ _ (fun q => D.off p hm (q ▸ zf)) e
    refine wpAny_bind (a1.stop (s := { s with heap := h1 }) hh (hj p hm) fun h2 e x2 ho => ?_)
    exact hE h2 e (fun b o hb q => x2 _ _ (fun c => hb (c ▸ pf)) (sb1.extBut _ _ (fun c => hb (c ▸ zf)) q)) ho
/-! enumerate over what draws -/
theorem enum_item {e it : Addr} {i : Nat} {old : Value} {P : Value → Heap → Prop} {Q : Value → Shared → Prop} (ee : IsEnum s.heap e it i old)
    (nx : ∀ (Q : Value → Shared → Prop) (E : Value → Shared → Prop), (∀ x h1 tk, P x h1 → IsEnum h1 e it i old → Q x { s with heap := h1, toks := tk }) → wpAny (model prog w) A (Builtin.SmallTypes.nextOf (.ref it)) Q E s)
    (hQ : ∀ x h1 tk h2, P x h1 → IsEnumOut h2 e it ((i : Int) + 1) x h1.objs.size → h2.get? h1.objs.size = some { cls := .type "tuple", data := .seq #[.int i tk, x] } → h2.objs.size = h1.objs.size + 1 →
      (∀ b o, b ≠ e → h1.get? b = some o → h2.get? b = some o) → Q (.ref h1.objs.size) { s with heap := h2, toks := tk + 1 }) :
    wpAny (model prog w) A (Builtin.«enumerate.__next__» ⟨[.ref e], []⟩) (fun fin s1 => ∃ v, fin = .done (.ret v) ∧ Q v s1) E s := by
  show wpAny _ _ (field (.ref e) 2 >>= _) _ _ s
  refine wpAny_bind (wpAny_field ee rfl (x := .ref it) rfl ?_)
  refine wpAny_bind (nx _ _ fun x h1 tk px e1 => ?_)
  show wpAny _ _ (field (.ref e) 3 >>= _) _ _ { s with heap := h1, toks := tk }
  refine wpAny_bind (wpAny_field (s := { s with heap := h1, toks := tk }) e1 rfl (x := rawInt i) rfl ?_)
  show wpAny _ _ (field (.ref e) 4 >>= _) _ _ { s with heap := h1, toks := tk }
  refine wpAny_bind (wpAny_field (s := { s with heap := h1, toks := tk }) e1 rfl (x := .none) rfl ?_)
  show wpAny _ _ (mkInt i >>= _) _ _ { s with heap := h1, toks := tk }
  refine wpAny_bind (wpAny_mkInt ?_)
  show wpAny _ _ (setField (.ref e) 3 (rawInt ((i : Int) + 1)) >>= _) _ _ { s with heap := h1, toks := tk + 1 }
  refine wpAny_bind (wpAny_setField_rec (s := { s with heap := h1, toks := tk + 1 }) e1 (by simp) fun h2 e2 sb2 => ?_)
  show wpAny _ _ (setField (.ref e) 4 .none >>= _) _ _ { s with heap := h2, toks := tk + 1 }
  refine wpAny_bind (wpAny_setField_rec (s := { s with heap := h2, toks := tk + 1 }) e2 (by simp) fun h3 e3 sb3 => ?_)
  show wpAny _ _ (newTuple [.int i tk, x] >>= _) _ _ { s with heap := h3, toks := tk + 1 }
  refine wpAny_bind (wpAny_newTuple ?_)
  have sz3 : h3.objs.size = h1.objs.size := by rw [sb3.1, sb2.1]
  have el : e < h1.objs.size := Heap.lt_size e1
  have e4 : IsEnum (h3.push { cls := .type "tuple", data := .seq #[.int i tk, x] }) e it ((i : Int) + 1) old := Heap.get?_push_of_some _ e3
  have t4 : (h3.push { cls := .type "tuple", data := .seq #[.int i tk, x] }).get? h1.objs.size = some { cls := .type "tuple", data := .seq #[.int i tk, x] } := by
    rw [← sz3]
    exact Heap.get?_push_size _ rfl
  have k4 : ∀ b o, b ≠ e → h1.get? b = some o → (h3.push { cls := .type "tuple", data := .seq #[.int i tk, x] }).get? b = some o := fun b o n q => Heap.get?_push_of_some _ (sb3.extBut _ _ n (sb2.extBut _ _ n q))
  have z4 : (h3.push { cls := .type "tuple", data := .seq #[.int i tk, x] }).objs.size = h1.objs.size + 1 := by rw [Heap.size_push, sz3]
  show wpAny _ _ (Builtin.SmallTypes.ownedTupleIsFree (.ref e) >>= _) _ _ ⟨h3.push { cls := .type "tuple", data := .seq #[.int i tk, x] }, s.gens, s.drawn, tk + 1, s.os⟩
  dsimp only
  rw [sz3]
  generalize h3.push { cls := .type "tuple", data := .seq #[.int i tk, x] } = h4 at e4 t4 k4 z4
  refine wpAny_bind ?_
  unfold Builtin.SmallTypes.ownedTupleIsFree
  refine wpAny_bind (wpAny_field (s := ⟨h4, s.gens, s.drawn, tk + 1, s.os⟩) e4 rfl (x := .none) rfl (wpAny_pure ?_))
  simp only [if_true]
  refine wpAny_bind (wpAny_rule ?_)
  refine wpAny_bind (wpAny_field (s := ⟨h4, s.gens, s.drawn, tk + 1, s.os⟩) e4 rfl (x := old) rfl ?_)
  refine wpAny_bind (wpAny_setField_rec (s := ⟨h4, s.gens, s.drawn, tk + 1, s.os⟩) e4 (by simp) fun h5 e5 sb5 => ?_)
  show wpAny _ _ (Builtin.SmallTypes.ownedTupleHandOut (.ref e) (.ref h1.objs.size) >>= _) _ _ ⟨h5, s.gens, s.drawn, tk + 1, s.os⟩
  refine wpAny_bind ?_
  unfold Builtin.SmallTypes.ownedTupleHandOut
  refine wpAny_bind (wpAny_setField_rec (s := ⟨h5, s.gens, s.drawn, tk + 1, s.os⟩) e5 (by simp) fun h6 e6 sb6 => ?_)
  refine wpAny_setField_rec (s := ⟨h6, s.gens, s.drawn, tk + 1, s.os⟩) e6 (by simp) fun h7 e7 sb7 => ?_
  have up : ∀ b o, b ≠ e → h4.get? b = some o → h7.get? b = some o := fun b o n q => sb7.extBut _ _ n (sb6.extBut _ _ n (sb5.extBut _ _ n q))
  exact wpAny_bind (wpAny_letGo (wpAny_pure ⟨_, rfl, hQ x h1 tk h7 px e7 (up _ _ (Nat.ne_of_gt el) t4) (by rw [sb7.1, sb6.1, sb5.1, z4]) fun b o n q => up b o n (k4 b o n q)⟩))
theorem next_of {e : Addr} {T id : String} {o : Obj} {f : Builtin} {Q : Value → Shared → Prop} (ho : s.heap.get? e = some o) (hc : o.cls = .type T) (sl : Slot T "__next__" id) (en : entryFor table id = some f) (ar : argsOk id ⟨[.ref e], []⟩)
    (hq : wpAny (model prog w) A.in1 (f ⟨[.ref e], []⟩) (fun fin s1 => ∃ v, fin = .done (.ret v) ∧ Q v s1) E s) : wpAny (model prog w) A (Builtin.SmallTypes.nextOf (.ref e)) Q E s := by
  have hT : s.TypeIs (.ref e) T := ⟨o, ho, hc⟩
  unfold Builtin.SmallTypes.nextOf
  refine wpAny_bind (wpAny_callSpecial?_slot (name := Str.ofString "__next__") hT sl (wpAny_call_entry sl hT en ?_ ar))
  exact wpAny_mono hq (fun fin s1 ⟨v, e1, q⟩ => ⟨v, e1, wpAny_pure q⟩) fun _ _ q => q
theorem py_next {e : Addr} {T id : String} {o : Obj} {f : Builtin} {Q : Option Value → Shared → Prop} (ho : s.heap.get? e = some o) (hc : o.cls = .type T) (sl : Slot T "__next__" id) (en : entryFor table id = some f) (ar : argsOk id ⟨[.ref e], []⟩)
    (hq : wpAny (model prog w) A.in1 (f ⟨[.ref e], []⟩) (fun fin s1 => ∃ v, fin = .done (.ret v) ∧ Q (some v) s1) (fun x s1 => (∃ e o, x = .ref e ∧ s1.heap.get? e = some o ∧ o.cls = .type "StopIteration") ∧ Q none s1) s) : wpAny (model prog w) A (pyNext (.ref e)) Q E s := by
  have hT : s.TypeIs (.ref e) T := ⟨o, ho, hc⟩
  unfold pyNext
  refine wpAny_bind (wpAny_attempt (wpAny_callSpecial?_slot (name := Str.ofString "__next__") hT sl (wpAny_call_entry sl hT en ?_ ar)))
  refine wpAny_mono hq (fun fin s1 ⟨v, e1, q⟩ => ⟨v, e1, wpAny_pure q⟩) fun x s1 ⟨⟨e, o, ex, ho, hc⟩, q⟩ => ?_
  subst ex
  refine wpAny_bind (wpAny_isInstance (T := "StopIteration") (b := true) ⟨o, ho, hc⟩ isSubtype_stop ?_)
  exact wpAny_pure q
theorem enum_stop {e it : Addr} {i : Int} {old : Value} {Q : Fin → Shared → Prop} (ee : IsEnum s.heap e it i old)
    (nx : ∀ (Q : Value → Shared → Prop), wpAny (model prog w) A (Builtin.SmallTypes.nextOf (.ref it)) Q E s) :
    wpAny (model prog w) A (Builtin.«enumerate.__next__» ⟨[.ref e], []⟩) Q E s := by
  show wpAny _ _ (field (.ref e) 2 >>= _) _ _ s
  refine wpAny_bind (wpAny_field ee rfl (x := .ref it) rfl ?_)
  exact wpAny_bind (nx _)
/-! enumerate(v) -/
structure Starts (v : Value) (H : Heap → Prop) (it : Heap → Addr) (nx : Heap → Heap) : Prop where
  iter : ∀ (prog : Program) (w : World) (A : Around) (E : Value → Shared → Prop) (s : Shared) (Q : Value → Shared → Prop), H s.heap → Q (.ref (it s.heap)) { s with heap := nx s.heap } → wpAny (model prog w) A (pyIter v) Q E s
  grow : ∀ h, H h → ∀ b o, h.get? b = some o → (nx h).get? b = some o
abbrev enumObj (it : Addr) : Obj := { cls := .type "enumerate", data := .fields #[.none, .bool false, .ref it, rawInt 0, .none, .none] }
theorem meets_enum {v : Value} {H : Heap → Prop} {it : Heap → Addr} {nx : Heap → Heap} (B : Starts v H it nx) :
    Meets (Builtin.«enumerate.__new__» ⟨[.type "enumerate", v], []⟩) (fun _ R s => H s.heap ∧ R (.ok (.ret (.ref (nx s.heap).objs.size))) { s with heap := (nx s.heap).push (enumObj (it s.heap)) }) :=
  .of_wp fun prog w A R s hr => by
    obtain ⟨hp, g, d, tk, os⟩ := s
    obtain ⟨h1, hr⟩ := hr
    have sub := sub_enumerate
    have q1 : ∀ {A1 : Around} {E : Value → Shared → Prop} {Q : Value → Shared → Prop}, Q (.ref (it hp)) ⟨nx hp, g, d, tk, os⟩ → wpAny (model prog w) A1 (pyIter v) Q E ⟨hp, g, d, tk, os⟩ :=
      fun q => B.iter prog w _ _ ⟨hp, g, d, tk, os⟩ _ h1 q
    wp_walk using q1
    refine wpAny_stack_any fun st => wpAny_pure ?_
    split
    · rename_i c _ _ _ _ _
      cases (c == Value.type "enumerate") <;> (wp_walk using q1; exact ⟨_, rfl, hr⟩)
    · wp_walk using q1
      exact ⟨_, rfl, hr⟩
theorem call_enum {v : Value} {H : Heap → Prop} {it : Heap → Addr} {nx : Heap → Heap} {Q : Value → Shared → Prop} (B : Starts v H it nx) (h1 : H s.heap)
    (hq : ∀ h2, IsEnum h2 (nx s.heap).objs.size (it s.heap) 0 .none → h2.objs.size = (nx s.heap).objs.size + 1 → (∀ b o, (nx s.heap).get? b = some o → h2.get? b = some o) → Q (.ref (nx s.heap).objs.size) { s with heap := h2 }) :
    wpAny (model prog w) A (call (.type "enumerate") [v]) Q E s := by
  refine callType_new F.called_enumerate (by decide) (F.typeCall_enumerate_1 _) (F.newCall_enumerate_1 _) (fun obj => F.args_object_init_2 obj _) F.entry_enumerate_new (meets_enum B) ⟨h1, ?_⟩
  have en : IsEnum ((nx s.heap).push (enumObj (it s.heap))) (nx s.heap).objs.size (it s.heap) 0 .none := Heap.get?_push_size _ rfl
  exact ⟨⟨_, en, rfl⟩, hq _ en (by rw [Heap.size_push]) fun b o q => Heap.get?_push_of_some _ q⟩
theorem starts_zip (z TI TO : Addr) (f0 : Value) : Starts (.ref z) (fun h => IsZip h z TI TO f0) (fun _ => z) id where
  iter := fun prog w A E s Q hz q => wpAny_pyIter_zip hz q
  grow := fun _ _ _ _ e => e
end
end PLZ
set_option Elab.async false
set_option linter.all false
set_option maxRecDepth 100000
set_option maxHeartbeats 4000000
namespace PLZ
open PySem PySem.Spec PyProof.Rows L2
/-- a tuple or a list, what is in it -/
abbrev Q3 := Addr × Bool × List V
def Sq (K : PySem.W.Frag) (H : Hp) (q : Q3) : Prop := if q.2.1 then SqT K H q.1 q.2.2 else SqL K H q.1 q.2.2
def Held (K : PySem.W.Frag) (H : Hp) (L : List Q3) : Prop := ∀ q ∈ L, Sq K H q
def vrow (L : List Q3) (j : Nat) : List V := L.map fun q => q.2.2.getD j .non
abbrev Ln := Src × List V
def q3 (p : Ln) : Q3 := (p.1.l, p.1.tp, p.2)
def IterAt (h : Heap) (c : Src) (j : Nat) : Prop := if c.tp then h.IsTupleIter c.it c.l j else h.IsListIter c.it c.l j
theorem IterAt.keep {h h' : Heap} {c : Src} {j : Nat} (a : IterAt h c j) (k : ∀ o, h.get? c.it = some o → h'.get? c.it = some o) : IterAt h' c j := by
  unfold IterAt at a ⊢
  split at a
  · rename_i q
    rw [if_pos q]
    exact a.at fun o e => k o e
  · rename_i q
    rw [if_neg q]
    exact a.at fun o e => k o e
theorem IterAt.obj {h : Heap} {c : Src} {j : Nat} (a : IterAt h c j) : ∃ o, h.get? c.it = some o ∧ ∃ vs, o.data = .fields vs := by
  unfold IterAt at a
  split at a
  · obtain ⟨o, ho, _, hd⟩ := a
    exact ⟨o, ho, _, hd⟩
  · obtain ⟨o, ho, _, hd⟩ := a
    exact ⟨o, ho, _, hd⟩
theorem At.iter {h : Heap} {c : Src} {xs : List Value} {j : Nat} (a : At h c xs j) : IterAt h c j := by
  unfold At at a
  unfold IterAt
  split at a
  · rename_i q
    rw [if_pos q]
    exact a.1
  · rename_i q
    rw [if_neg q]
    exact a.1
theorem Sq.at_ {X : Cx} {pins : List (Addr × Obj)} {σ : L2.St} {H : Hp} {s : Shared} (I : Inv X pins σ H s) {p : Ln} (h : Sq X.K H (q3 p)) {j : Nat} (a : IterAt s.heap p.1 j) : ∃ us : List Value, Vals p.2 us ∧ At s.heap p.1 us j := by
  unfold Sq q3 at h
  unfold IterAt at a
  dsimp only at h
  unfold At
  split at a
  · rename_i q
    rw [if_pos q] at h
    obtain ⟨its, rv, pl, _⟩ := I.tuple h
    exact ⟨its, rv, by rw [if_pos q]; exact ⟨a, pl⟩⟩
  · rename_i q
    rw [if_neg q] at h
    obtain ⟨its, rv, pl, _⟩ := I.list h
    exact ⟨its, rv, by rw [if_neg q]; exact ⟨a, pl.isList⟩⟩
theorem cols_of {X : Cx} {pins : List (Addr × Obj)} {σ : L2.St} {H : Hp} {s : Shared} (I : Inv X pins σ H s) {j n : Nat} : ∀ (L : List Ln), (∀ p ∈ L, Sq X.K H (q3 p)) → (∀ p ∈ L, IterAt s.heap p.1 j) → (∀ p ∈ L, p.2.length = n) →
    ∃ cs : List Col, cs.map (·.1) = L.map (·.1) ∧ (∀ p ∈ cs, At s.heap p.1 p.2 j) ∧ (∀ p ∈ cs, p.2.length = n) ∧ ∀ i, i < n → Vals (vrow (L.map q3) i) (row cs i)
  | [], _, _, _ => by
    refine ⟨[], rfl, ?_, ?_, fun _ _ => Paired.nil⟩ <;> intro p hp <;> cases hp
  | p :: L, h1, h2, h3 => by
    obtain ⟨cs, e, a, l, r⟩ := cols_of I L (fun p hp => h1 p (List.mem_cons_of_mem _ hp)) (fun p hp => h2 p (List.mem_cons_of_mem _ hp)) fun p hp => h3 p (List.mem_cons_of_mem _ hp)
    obtain ⟨us, rv, au⟩ := (h1 p (List.mem_cons_self ..)).at_ I (h2 p (List.mem_cons_self ..))
    have lu : us.length = n := by rw [← rv.length]; exact h3 p (List.mem_cons_self ..)
    refine ⟨(p.1, us) :: cs, by simp [e], fun q hq => ?_, fun q hq => ?_, fun i hi => ?_⟩
    · rcases List.mem_cons.mp hq with rfl | hq
      · exact au
      · exact a q hq
    · rcases List.mem_cons.mp hq with rfl | hq
      · exact lu
      · exact l q hq
    · refine .cons ?_ (r i hi)
      have hp : i < p.2.length := by rw [h3 p (List.mem_cons_self ..)]; exact hi
      obtain ⟨u, hu, ru⟩ := rv.get (i := i) (List.getElem?_eq_getElem hp)
      show RelV (p.2.getD i .non) (us.getD i .none)
      rw [List.getD_eq_getElem?_getD, List.getD_eq_getElem?_getD, hu, List.getElem?_eq_getElem hp]
      exact ru
/-! the zip's shape -/
def feetS (z TI TO : Addr) (ss : List Src) : List Addr := z :: TI :: TO :: ss.map (·.it)
theorem feet_eq {z TI TO : Addr} {cs : List Col} {ss : List Src} (e : cs.map (·.1) = ss) : feet z TI TO cs = feetS z TI TO ss := by
  subst e
  unfold feet feetS
  rw [List.map_map]
  rfl
structure ApartS (z TI TO : Addr) (ss : List Src) : Prop where
  nd : (feetS z TI TO ss).Nodup
  off : ∀ c ∈ ss, c.l ∉ feetS z TI TO ss
  few : ss.length ≤ 8
  non : ss ≠ []
theorem ApartS.to {z TI TO : Addr} {ss : List Src} {cs : List Col} (D : ApartS z TI TO ss) (e : cs.map (·.1) = ss) : Apart z TI TO cs where
  nd := by rw [feet_eq e]; exact D.nd
  off := fun p hp => by
    rw [feet_eq e]
    exact D.off _ (e ▸ List.mem_map_of_mem (f := fun q : Col => q.1) hp)
  few := by
    have := D.few
    rw [← e] at this
    simpa using this
  non := fun q => D.non (by rw [← e, q]; rfl)
structure ZipIt (h : Heap) (z TI TO : Addr) (ss : List Src) (j : Nat) : Prop where
  z : ∃ f0 f1, (f0 = .none ∨ ∃ T : Addr, f0 = rawInt T) ∧ ZipRec h z TI TO f0 f1
  ti : TupRec h TI (ss.map fun c => .ref c.it)
  to : ∃ ws, ws.length = ss.length ∧ TupRec h TO ws
  its : ∀ c ∈ ss, IterAt h c j
theorem ZipIt.up {h : Heap} {z TI TO : Addr} {ss : List Src} {cs : List Col} {j : Nat} (Z : ZipIt h z TI TO ss j) (e : cs.map (·.1) = ss) (a : ∀ p ∈ cs, At h p.1 p.2 j) : ZipAt h z TI TO cs j where
  z := Z.z
  ti := by
    have t := Z.ti
    rw [← e, List.map_map] at t
    exact t
  to := by
    obtain ⟨ws, l, t⟩ := Z.to
    exact ⟨ws, by rw [l, ← e]; simp, t⟩
  at_ := a
theorem ZipAt.down {h : Heap} {z TI TO : Addr} {ss : List Src} {cs : List Col} {j : Nat} (Z : ZipAt h z TI TO cs j) (e : cs.map (·.1) = ss) : ZipIt h z TI TO ss j where
  z := Z.z
  ti := by
    have t := Z.ti
    rw [← e, List.map_map]
    exact t
  to := by
    obtain ⟨ws, l, t⟩ := Z.to
    exact ⟨ws, by rw [l, ← e]; simp, t⟩
  its := fun c hc => by
    rw [← e] at hc
    obtain ⟨p, hp, rfl⟩ := List.mem_map.mp hc
    exact (Z.at_ p hp).iter
theorem ZipIt.keep {h h' : Heap} {z TI TO : Addr} {ss : List Src} {j : Nat} (Z : ZipIt h z TI TO ss j) (k : ∀ b ∈ feetS z TI TO ss, ∀ o, h.get? b = some o → h'.get? b = some o) : ZipIt h' z TI TO ss j where
  z := let ⟨f0, f1, a, b⟩ := Z.z; ⟨f0, f1, a, k z (by unfold feetS; simp) _ b⟩
  ti := k TI (by unfold feetS; simp) _ Z.ti
  to := let ⟨ws, l, t⟩ := Z.to; ⟨ws, l, k TO (by unfold feetS; simp) _ t⟩
  its := fun c hc => (Z.its c hc).keep fun o e => k c.it (by unfold feetS; simp only [List.mem_cons, List.mem_map]; exact .inr (.inr (.inr ⟨c, hc, rfl⟩))) o e
theorem ZipIt.obj {h : Heap} {z TI TO : Addr} {ss : List Src} {j : Nat} (Z : ZipIt h z TI TO ss j) : ∀ b ∈ feetS z TI TO ss, ∃ o, h.get? b = some o ∧ ∀ v, o.data ≠ .cell v := fun b hb => by
  unfold feetS at hb
  simp only [List.mem_cons, List.mem_map] at hb
  rcases hb with rfl | rfl | rfl | ⟨c, hc, rfl⟩
  · obtain ⟨f0, f1, _, e⟩ := Z.z
    exact ⟨_, e, fun v q => nomatch q⟩
  · exact ⟨_, Z.ti, fun v q => nomatch q⟩
  · obtain ⟨ws, _, e⟩ := Z.to
    exact ⟨_, e, fun v q => nomatch q⟩
  · obtain ⟨o, ho, vs, hd⟩ := (Z.its c hc).obj
    exact ⟨o, ho, fun v q => by rw [hd] at q; cases q⟩
/-! what draws -/
structure Drw (P : Program) (w : World) (K : PySem.W.Frag) (J : It) (fp : List Addr) (it : Addr) (tn : Nat → Heap → Prop) : Prop where
  mem : it ∈ fp
  obj : ∀ i h, tn i h → ∀ b ∈ fp, ∃ o, h.get? b = some o ∧ ∀ v, o.data ≠ .cell v
  keep : ∀ i h h', tn i h → (∀ b ∈ fp, ∀ o, h.get? b = some o → h'.get? b = some o) → tn i h'
  item : ∀ (X : Cx) (A : Around), X.prog = P → X.w = w → X.K = K → X.calm = true → ∀ (i : Nat) (pins : List (Addr × Obj)) (s : Shared) (σ : L2.St) (H : Hp) (Q : Value → Shared → Prop) (E : Value → Shared → Prop), Inv X pins σ H s → (∀ b ∈ fp, FpOk X pins H b) → tn i s.heap → J.go i H →
    (∀ x u H' h1 tk, Inv X pins σ H' { s with heap := h1, toks := tk } → RelV x u → J.yld i H x H' → tn (i + 1) h1 → (∀ b ∈ fp, H' b = none) → (∀ b o, b ∉ fp → s.heap.get? b = some o → h1.get? b = some o) → (∀ b, s.heap.objs.size > b → H' b = H b) → Q u { s with heap := h1, toks := tk }) →
    wpAny (model P w) A (Builtin.SmallTypes.nextOf (.ref it)) Q E s
  done : ∀ (X : Cx) (A : Around), X.prog = P → X.w = w → X.K = K → X.calm = true → A.handled = none → ∀ (i : Nat) (pins : List (Addr × Obj)) (s : Shared) (σ : L2.St) (H : Hp) (Q : Value → Shared → Prop) (E : Value → Shared → Prop), Inv X pins σ H s → (∀ b ∈ fp, FpOk X pins H b) → tn i s.heap → J.stop i H →
    (∀ h1 e, Inv X pins σ H { s with heap := h1 } → (∃ o, h1.get? e = some o ∧ o.cls = .type "StopIteration") → E (.ref e) { s with heap := h1 }) →
    wpAny (model P w) A (Builtin.SmallTypes.nextOf (.ref it)) Q E s
def ItZ (K : PySem.W.Frag) (L : List Q3) (n : Nat) : It := ⟨fun i H => i < n ∧ Held K H L, fun i H v H' => ∃ T, v = .ref T ∧ H T = none ∧ H' = upd H T (.tup (vrow L i)), fun i H => n ≤ i ∧ Held K H L⟩
theorem vals_row {X : Cx} {H : Hp} {h : Heap} {T : Addr} {xs : List V} {us : List Value} (rv : Vals xs us) (hl : xs.length ≤ 8) (t : TupRec h T us) : ObjOk X.prog X.w (upd H T (.tup xs)) h T (.tup xs) :=
  ⟨few_ok hl, us, rv, ⟨_, t, rfl, _, rfl⟩⟩
theorem drw_zip {P : Program} {w : World} {K : PySem.W.Frag} {z TI TO : Addr} {L : List Ln} {n : Nat} (D : ApartS z TI TO (L.map (·.1))) (hn : ∀ p ∈ L, p.2.length = n) :
    Drw P w K (ItZ K (L.map q3) n) (feetS z TI TO (L.map (·.1))) z (fun i h => ZipIt h z TI TO (L.map (·.1)) i) where
  mem := by unfold feetS; simp
  obj := fun i h Z => Z.obj
  keep := fun i h h' Z k => Z.keep k
  item := by
    intro X A hP hw hK hc i pins s σ H Q E I hf Z hg hQ
    subst hP hw hK
    obtain ⟨cs, ec, ac, lc, rc⟩ := cols_of I (j := i) L (fun p hp => hg.2 _ (List.mem_map_of_mem (f := q3) hp)) (fun p hp => Z.its _ (List.mem_map_of_mem (f := fun q : Ln => q.1) hp)) hn
    have D2 := D.to ec
    have Z2 := Z.up ec ac
    obtain ⟨f0, f1, _, ez⟩ := Z.z
    refine next_of ez rfl F.slot_zip_next F.entry_zip_next (F.args_zip_next_1 _) (zip_item D2 Z2 (fun p hp => by rw [lc p hp]; exact hg.1) fun h1 Z1 t1 s1 k1 => ?_)
    rw [feet_eq ec] at k1
    have hT := I.hok.fresh (Nat.le_refl s.heap.objs.size)
    have hl : (vrow (L.map q3) i).length ≤ 8 := by
      have := D.few
      simp [vrow] at this ⊢
      exact this
    have I1 : Inv X pins σ (upd H s.heap.objs.size (.tup (vrow (L.map q3) i))) { s with heap := h1, toks := s.toks } := I.turnedNew (ch := feetS z TI TO (L.map (·.1))) k1 hf (Nat.le_refl _) (vals_row (rc i hg.1) hl t1)
    refine hQ (.ref s.heap.objs.size) _ _ h1 s.toks I1 rfl ⟨_, rfl, hT, rfl⟩ (Z1.down ec) (fun b hb => ?_) k1 fun b hb => upd_ne (Nat.ne_of_lt hb)
    obtain ⟨o, ho, _⟩ := Z.obj b hb
    rw [upd_ne (Nat.ne_of_lt (Heap.lt_size ho))]
    exact (hf b hb).1
  done := by
    intro X A hP hw hK hc hh i pins s σ H Q E I hf Z hg hE
    subst hP hw hK
    obtain ⟨cs, ec, ac, lc, rc⟩ := cols_of I (j := i) L (fun p hp => hg.2 _ (List.mem_map_of_mem (f := q3) hp)) (fun p hp => Z.its _ (List.mem_map_of_mem (f := fun q : Ln => q.1) hp)) hn
    have D2 := D.to ec
    have Z2 := Z.up ec ac
    obtain ⟨f0, f1, _, ez⟩ := Z.z
    refine next_of ez rfl F.slot_zip_next F.entry_zip_next (F.args_zip_next_1 _) (zip_stop hh D2 Z2 (fun p hp => by rw [lc p hp]; exact hg.1) fun h1 e k1 ho => hE h1 e ?_ ho)
    rw [feet_eq ec] at k1
    exact I.turnedL (t' := s.toks) (ch := feetS z TI TO (L.map (·.1))) k1 hf
/-- the step ahead of the store, of a zip -/
theorem go_zip {prog : Program} {w : World} {A : Around} {E : Value → Shared → Prop} {s : Shared} {tg : Expr} {z TI TO T : Addr} {f0 : Value} {f1 : Bool} {Q : Unit → Shared → Prop} (ez : ZipRec s.heap z TI TO f0 f1)
    (h1 : Q () s) (h2 : ∀ h1, ZipRec h1 z TI TO .none f1 → Heap.SameBut z s.heap h1 → Q () { s with heap := h1 }) : wpAny (model prog w) A (letOwnedTupleGo tg (.ref z) (.ref T)) Q E s := by
  have key : wpAny (model prog w) A (do
      let o ← load z
      match o.cls, o.data with
      | .type n, .fields vs =>
        if ["enumerate", "zip", "dict_itemiterator", "dict_reverseitemiterator", "odict_iterator", "itertools.zip_longest", "itertools.pairwise"].contains n && vs[0]? == some (rawInt T) then
          rule "for.unpacks-the-owned-tuple"
          updateField z 0 .none
      | _, _ => pure ()) Q E s := by
    refine wpAny_bind (wpAny_load ez ?_)
    dsimp only
    split
    · refine wpAny_bind (wpAny_rule ?_)
      show wpAny _ A (setField (.ref z) 0 .none) Q E s
      exact wpAny_setField_rec ez (by simp) fun h1 e1 sb => h2 h1 e1 sb
    · exact wpAny_pure h1
  unfold letOwnedTupleGo
  cases tg <;> first
    | exact wpAny_pure h1
    | exact key
theorem turn_zip {P : Program} {w : World} {K : PySem.W.Frag} {tg : Expr} {z TI TO : Addr} {L : List Ln} {n : Nat} (D : ApartS z TI TO (L.map (·.1))) (hn : ∀ p ∈ L, p.2.length = n) :
    Turn P w K tg (ItZ K (L.map q3) n) (feetS z TI TO (L.map (·.1))) z (fun i h => ZipIt h z TI TO (L.map (·.1)) i) where
  mem := by unfold feetS; simp
  obj := fun i h Z => Z.obj
  keep := fun i h h' Z k => Z.keep k
  item := by
    intro X hP hw hK hc i pins s σ H E I hf Z hg
    have B := drw_zip (P := P) (w := w) (K := K) D hn
    obtain ⟨f0, f1, _, ez⟩ := Z.z
    have zf : z ∈ feetS z TI TO (L.map (·.1)) := by unfold feetS; simp
    refine py_next ez rfl F.slot_zip_next F.entry_zip_next (F.args_zip_next_1 _) ?_
    subst hP hw hK
    obtain ⟨cs, ec, ac, lc, rc⟩ := cols_of I (j := i) L (fun p hp => hg.2 _ (List.mem_map_of_mem (f := q3) hp)) (fun p hp => Z.its _ (List.mem_map_of_mem (f := fun q : Ln => q.1) hp)) hn
    refine zip_item (D.to ec) (Z.up ec ac) (fun p hp => by rw [lc p hp]; exact hg.1) fun h1 Z1 t1 s1 k1 => ?_
    rw [feet_eq ec] at k1
    have hT := I.hok.fresh (Nat.le_refl s.heap.objs.size)
    have hl : (vrow (L.map q3) i).length ≤ 8 := by
      have := D.few
      simp [vrow] at this ⊢
      exact this
    have zl : z < s.heap.objs.size := Heap.lt_size ez
    have fin : ∀ h2, ZipIt h2 z TI TO (L.map (·.1)) (i + 1) → (∀ b o, b ≠ z → h1.get? b = some o → h2.get? b = some o) → ∃ x H', Inv X pins σ H' { s with heap := h2 } ∧ RelV x (.ref s.heap.objs.size) ∧ (ItZ X.K (L.map q3) n).yld i H x H' ∧ ZipIt h2 z TI TO (L.map (·.1)) (i + 1) ∧ ∀ b ∈ feetS z TI TO (L.map (·.1)), H' b = none := fun h2 Z2 k2 => by
      have I1 : Inv X pins σ (upd H s.heap.objs.size (.tup (vrow (L.map q3) i))) { s with heap := h2, toks := s.toks } := I.turnedNew (ch := feetS z TI TO (L.map (·.1))) (fun b o hb q => k2 b o (fun c => hb (c ▸ zf)) (k1 b o hb q)) hf (Nat.le_refl _) (vals_row (rc i hg.1) hl (k2 _ _ (Nat.ne_of_gt zl) t1))
      refine ⟨.ref s.heap.objs.size, _, I1, rfl, ⟨_, rfl, hT, rfl⟩, Z2, fun b hb => ?_⟩
      obtain ⟨o, ho, _⟩ := Z.obj b hb
      rw [upd_ne (Nat.ne_of_lt (Heap.lt_size ho))]
      exact (hf b hb).1
    have Z3 := Z1.down ec
    obtain ⟨g0, g1, _, ez1⟩ := Z3.z
    refine ⟨_, rfl, go_zip (s := { s with heap := h1 }) ez1 (fin h1 Z3 fun _ _ _ q => q) fun h2 e2 sb => fin h2 ?_ fun b o n q => sb.extBut _ _ n q⟩
    have D2 := D.to ec
    obtain ⟨n1, n2, n3, n4⟩ := D2.ne
    have Z4 : ZipAt h2 z TI TO cs (i + 1) := ⟨⟨_, _, .inl rfl, e2⟩, sb.extBut _ _ (Ne.symm n1) Z1.ti, let ⟨ws, l, t⟩ := Z1.to; ⟨ws, l, sb.extBut _ _ (Ne.symm n2) t⟩, fun p hp => (Z1.at_ p hp).keep (fun o e => sb.extBut _ _ (n4 p hp).1 e) fun o e => sb.extBut _ _ (fun c => D2.off p hp (by rw [c]; unfold feet; simp)) e⟩
    exact Z4.down ec
  done := by
    intro X hP hw hK hc i pins s σ H E I hf Z hg
    obtain ⟨f0, f1, _, ez⟩ := Z.z
    refine py_next ez rfl F.slot_zip_next F.entry_zip_next (F.args_zip_next_1 _) ?_
    subst hP hw hK
    obtain ⟨cs, ec, ac, lc, rc⟩ := cols_of I (j := i) L (fun p hp => hg.2 _ (List.mem_map_of_mem (f := q3) hp)) (fun p hp => Z.its _ (List.mem_map_of_mem (f := fun q : Ln => q.1) hp)) hn
    refine zip_stop (I.ok.hd hc) (D.to ec) (Z.up ec ac) (fun p hp => by rw [lc p hp]; exact hg.1) fun h1 e k1 ⟨o, ho, hcl⟩ => ⟨⟨e, o, rfl, ho, hcl⟩, rfl, ?_⟩
    rw [feet_eq ec] at k1
    exact I.turnedL (t' := s.toks) (ch := feetS z TI TO (L.map (·.1))) k1 hf
  self := fun A i s Q E Z hq => by
    obtain ⟨f0, f1, _, ez⟩ := Z.z
    have hT : s.TypeIs (.ref z) "zip" := ⟨_, ez, rfl⟩
    refine wpAny_pyIter_slot hT F.slot_zip_iter (wpAny_call_entry F.slot_zip_iter hT F.entry_zip_iter ?_ (F.args_zip_iter_1 _))
    show wpAny _ _ (ret (.ref z)) _ _ s
    exact wpAny_pure ⟨_, rfl, "zip", _, hT, F.slot_zip_next.lookup, hq⟩
/-! enumerate over what draws -/
def ItE (J : It) : It := ⟨J.go, fun i H v H' => ∃ x H1 T, J.yld i H x H1 ∧ v = .ref T ∧ H1 T = none ∧ H' = upd H1 T (.tup [.int (i : Nat), x]), J.stop⟩
theorem turn_enum {P : Program} {w : World} {K : PySem.W.Frag} {J : It} {fp : List Addr} {e it : Addr} {tn : Nat → Heap → Prop} {elts : List Expr} {kk : Nat} {tpos : Pos} (B : Drw P w K J fp it tn) (hef : e ∉ fp) :
    Turn P w K (.Tuple elts kk tpos) (ItE J) (e :: fp) e (fun i h => (∃ old, IsEnum h e it ((i : Nat) : Int) old) ∧ tn i h) where
  mem := List.mem_cons_self ..
  obj := fun i h ⟨⟨old, ee⟩, st⟩ b hb => by
    rcases List.mem_cons.mp hb with rfl | hb
    · exact ⟨_, ee, fun v q => nomatch q⟩
    · exact B.obj i h st b hb
  keep := fun i h h' ⟨⟨old, ee⟩, st⟩ k => ⟨⟨old, k e (List.mem_cons_self ..) _ ee⟩, B.keep i h h' st fun b hb => k b (List.mem_cons_of_mem _ hb)⟩
  item := by
    intro X hP hw hK hc i pins s σ H E I hf st hg
    obtain ⟨⟨old, ee⟩, st⟩ := st
    refine py_next ee rfl F.slot_enumerate_next F.entry_enumerate_next (F.args_enumerate_next_1 _) ?_
    have hfe := hf e (List.mem_cons_self ..)
    have hff : ∀ b ∈ fp, FpOk X pins H b := fun b hb => hf b (List.mem_cons_of_mem _ hb)
    have el : e < s.heap.objs.size := Heap.lt_size ee
    refine enum_item ee (P := fun u h1 => ∃ x H' tk, Inv X pins σ H' { s with heap := h1, toks := tk } ∧ RelV x u ∧ J.yld i H x H' ∧ tn (i + 1) h1 ∧ (∀ b ∈ fp, H' b = none) ∧ H' e = none ∧ IsEnum h1 e it ((i : Nat) : Int) old) (fun Q E1 hq => ?_) ?_
    · refine B.item X _ hP hw hK hc i pins s σ H Q E1 I hff st hg fun x u H' h1 tk I1 r y t f k o => hq u h1 tk ⟨x, H', tk, I1, r, y, t, f, ?_, k _ _ hef ee⟩ (k _ _ hef ee)
      rw [o e el]
      exact hfe.1
    · rintro u h1 tk h2 ⟨x, H', tk', I1, r, y, t, f, oe, ee1⟩ eo tt sz k
      subst hP hw hK
      refine ⟨_, rfl, wpAny_letOwnedTupleGo_enum (s := { s with heap := h2, toks := tk + 1 }) eo fun h3 e3 sb => ?_⟩
      have el1 : e < h1.objs.size := Heap.lt_size ee1
      have t3 : h3.get? h1.objs.size = some { cls := .type "tuple", data := .seq #[.int i tk, u] } := (sb.2 _ (Nat.ne_of_gt el1)).trans tt
      have k3 : ∀ b o, b ≠ e → h1.get? b = some o → h3.get? b = some o := fun b o n q => sb.extBut _ _ n (k b o n q)
      have nw : ObjOk X.prog X.w (upd H' h1.objs.size (.tup [.int (i : Nat), x])) h3 h1.objs.size (.tup [.int (i : Nat), x]) := ⟨few_ok (by simp), [.int i tk, u], .cons ⟨_, rfl⟩ (.cons r .nil), ⟨_, t3, rfl, _, rfl⟩⟩
      have I0 : Inv X pins σ H' { s with heap := h1, toks := tk } := I1.kept (t' := tk) fun _ _ q => q
      have I2 : Inv X pins σ (upd H' h1.objs.size (.tup [.int (i : Nat), x])) { s with heap := h3, toks := tk + 1 } :=
        I0.turnedNew (ch := [e]) (fun b o hb q => k3 b o (fun c => hb (List.mem_singleton.mpr c)) q) (fun b hb => by rw [List.mem_singleton.mp hb]; exact ⟨oe, hfe.2⟩) (Nat.le_refl _) nw
      refine ⟨.ref h1.objs.size, _, I2, rfl, ⟨x, H', _, y, rfl, I1.hok.fresh (Nat.le_refl _), rfl⟩, ⟨⟨u, ?_⟩, B.keep (i + 1) h1 h3 t fun b hb o q => k3 b o (fun c => hef (c ▸ hb)) q⟩, fun b hb => ?_⟩
      · have ei : ((i + 1 : Nat) : Int) = (i : Int) + 1 := by omega
        rw [ei]
        exact e3
      · rcases List.mem_cons.mp hb with rfl | hb
        · rw [upd_ne (Nat.ne_of_lt el1)]
          exact oe
        · obtain ⟨o, ho, _⟩ := B.obj (i + 1) h1 t b hb
          rw [upd_ne (Nat.ne_of_lt (Heap.lt_size ho))]
          exact f b hb
  done := by
    intro X hP hw hK hc i pins s σ H E I hf st hg
    obtain ⟨⟨old, ee⟩, st⟩ := st
    refine py_next ee rfl F.slot_enumerate_next F.entry_enumerate_next (F.args_enumerate_next_1 _) ?_
    refine enum_stop ee fun Q => B.done X X.A.in1 hP hw hK hc (show X.A.in1.handled = none from I.ok.hd hc) i pins s σ H Q _ I (fun b hb => hf b (List.mem_cons_of_mem _ hb)) st hg fun h1 x I1 ⟨o, ho, hcl⟩ => ⟨⟨x, o, rfl, ho, hcl⟩, rfl, I1⟩
  self := fun A i s Q E st h => let ⟨⟨_, ee⟩, _⟩ := st; wpAny_pyIter_enum ee h
end PLZ
set_option Elab.async false
set_option linter.all false
set_option maxRecDepth 100000
set_option maxHeartbeats 4000000
namespace PLZ
open PySem PySem.Spec PyProof.Rows L2
theorem Begins.of {X : Cx} {pins : List (Addr × Obj)} {σ : L2.St} {H : Hp} {s : Shared} (I : Inv X pins σ H s) {q : Q3} (h : Sq X.K H q) : ∃ (o : Obj) (G : Heap → Prop), Begins (.ref q.1) o G ∧ G s.heap ∧ q.1 < s.heap.objs.size ∧ ∀ (h1 : Heap) (a : Addr), h1.get? a = some o → IterAt h1 ⟨a, q.1, q.2.1⟩ 0 := by
  unfold Sq at h
  split at h
  · rename_i t
    obtain ⟨its, rv, p, _⟩ := I.tuple h
    obtain ⟨o, ho, _⟩ := id p
    refine ⟨_, _, begins_tuple q.1 its.toArray, show s.heap.IsTuple q.1 its.toArray from p, Heap.lt_size ho, fun h1 a e => ?_⟩
    unfold IterAt
    rw [if_pos t]
    exact ⟨_, e, rfl, rfl⟩
  · rename_i t
    obtain ⟨its, rv, p, _⟩ := I.list h
    obtain ⟨o, n, ho, _⟩ := id p
    refine ⟨_, _, begins_list q.1 its.toArray, p.isList, Heap.lt_size ho, fun h1 a e => ?_⟩
    unfold IterAt
    rw [if_neg t]
    exact ⟨_, e, rfl, rfl⟩
/-- what a zip's call leads to -/
def ZipPost (X : Cx) (pins : List (Addr × Obj)) (σ : L2.St) (R : List Q3 → Hp → Prop) (v : Value) (s1 : Shared) : Prop :=
  ∃ z TI TO L H1, v = .ref z ∧ Inv X pins σ H1 s1 ∧ IsZip s1.heap z TI TO .none ∧ ZipIt s1.heap z TI TO (L.map (·.1)) 0 ∧ ApartS z TI TO ((L : List Ln).map (·.1)) ∧ (∀ b ∈ feetS z TI TO (L.map (·.1)), FpOk X pins H1 b) ∧ R (L.map q3) H1
abbrev TZ := L2.St → Hp → (List Q3 → Hp → Prop) → Prop
structure PZ (X : Cx) (e : Expr) (t : TZ) : Prop where
  run : ∀ (pins : List (Addr × Obj)) (s : Shared) (σ : L2.St) (H : Hp) (R : List Q3 → Hp → Prop), Inv X pins σ H s → t σ H R → wpAny (model X.prog X.w) X.A (eval e X.env) (ZipPost X pins σ R) X.xe s
def tZip2 (K : PySem.W.Frag) (ta : TA) : TZ := fun σ H R => ta σ H fun vs H1 => ∃ q1 q2 : Q3, vs = [.ref q1.1, .ref q2.1] ∧ Held K H1 [q1, q2] ∧ R [q1, q2] H1
theorem nd5 (n : Nat) : [n + 4, n + 2, n + 3, n, n + 1].Nodup := by
  simp only [List.nodup_cons, List.mem_cons, List.not_mem_nil, or_false, not_or, List.nodup_nil, not_false_eq_true, and_true]
  omega
theorem pz_zip2 {X : Cx} {e e2 : Expr} {ta : TA} {p pos : Pos} (hm : X.mg "zip" = none) (ha : PA X [e, e2] ta) (hg : Gl X "zip" := by rfl)
    (hs : starEach [e, e2] X.env = (false, eval e X.env) :: starEach [e2] X.env := by rfl) (hpl : (backTo pos (starEach [e2] X.env)).any (·.1) = false := by rfl) :
    PZ X (.Call (.Name "zip" p) [e, e2] [] pos) (tZip2 X.K ta) := by
  refine ⟨fun pins s σ H R I h => ?_⟩
  refine Call_ (ld_blt I hg hm PyProof.Rows.boot_zip (PyProof.Rows.callWith_type1 (thn (ha.run pos pins s σ H _ I h) fun us s1 ⟨vs, H1, I1, r1, q1, q2, ex, hL, hR⟩ => ?_) hs hpl))
  subst ex
  cases r1 with
  | cons x1 r1 =>
   cases r1 with
   | cons x2 r1 =>
    cases r1
    cases x1
    cases x2
    obtain ⟨o1, G1, B1, g1, l1, i1⟩ := Begins.of I1 (hL q1 (by simp))
    obtain ⟨o2, G2, B2, g2, l2, i2⟩ := Begins.of I1 (hL q2 (by simp))
    refine zip_begins2 B1 B2 g1 g2 fun h1 ez eTI eTO e1 e2 sz k => ?_
    have I2 : Inv X pins σ H1 { s1 with heap := h1 } := I1.kept (t' := s1.toks) k
    have big : ∀ b ∈ feetS (s1.heap.objs.size + 4) (s1.heap.objs.size + 2) (s1.heap.objs.size + 3) [⟨s1.heap.objs.size, q1.1, q1.2.1⟩, ⟨s1.heap.objs.size + 1, q2.1, q2.2.1⟩], s1.heap.objs.size ≤ b := fun b hb => by
      simp only [feetS, List.map_cons, List.map_nil, List.mem_cons, List.not_mem_nil, or_false] at hb
      rcases hb with rfl | rfl | rfl | rfl | rfl <;> omega
    refine ⟨_, _, _, [(⟨s1.heap.objs.size, q1.1, q1.2.1⟩, q1.2.2), (⟨s1.heap.objs.size + 1, q2.1, q2.2.1⟩, q2.2.2)], H1, rfl, I2, ez, ⟨⟨_, _, .inl rfl, ez⟩, eTI, ⟨[.none, .none], rfl, eTO⟩, fun c hc => ?_⟩, ⟨?_, fun c hc hb => ?_, by simp, by simp⟩, fun b hb => I1.fpOk (big b hb) (I1.hok.fresh (big b hb)), hR⟩
    · simp only [List.map_cons, List.map_nil, List.mem_cons, List.not_mem_nil, or_false] at hc
      rcases hc with rfl | rfl
      · exact i1 _ _ e1
      · exact i2 _ _ e2
    · exact nd5 _
    · have := big _ hb
      simp only [List.map_cons, List.map_nil, List.mem_cons, List.not_mem_nil, or_false] at hc
      rcases hc with rfl | rfl
      · exact absurd l1 (Nat.not_lt.mpr this)
      · exact absurd l2 (Nat.not_lt.mpr this)
/-- a loop over a zip -/
def iZ (K : PySem.W.Frag) (tz : TZ) : TI := fun σ H R => tz σ H fun L H1 => ∃ n, (∀ q ∈ L, q.2.2.length = n) ∧ R (ItZ K L n) H1
theorem pi_zipn {X : Cx} {tg e : Expr} {tz : TZ} (he : PZ X e tz) : PI X tg e (iZ X.K tz) := by
  refine ⟨fun pins s σ H R I h => thn (he.run pins s σ H _ I h) ?_⟩
  rintro v s1 ⟨z, TI, TO, L, H1, rfl, I1, ez, Z, D, f, n, hn, hR⟩
  refine wpAny_pyIter_zip ez ⟨z, feetS z TI TO (L.map (·.1)), _, _, H1, rfl, I1, turn_zip D fun p hp => hn _ (List.mem_map_of_mem (f := q3) hp), Z, f, hR⟩
/-- a loop over enumerate of a zip -/
def iEZ (K : PySem.W.Frag) (tz : TZ) : TI := fun σ H R => tz σ H fun L H1 => ∃ n, (∀ q ∈ L, q.2.2.length = n) ∧ R (ItE (ItZ K L n)) H1
theorem pi_enumz {X : Cx} {e : Expr} {tz : TZ} {elts : List Expr} {kk : Nat} {tpos p pos : Pos} (hm : X.mg "enumerate" = none) (he : PZ X e tz) (hg : Gl X "enumerate" := by rfl) (hs : starEach [e] X.env = [(false, eval e X.env)] := by rfl) :
    PI X (.Tuple elts kk tpos) (.Call (.Name "enumerate" p) [e] [] pos) (iEZ X.K tz) := by
  refine ⟨fun pins s σ H R I h => ?_⟩
  refine Call_ (ld_blt I hg hm boot_enumerate (PyProof.Rows.callWith_type1 (Q := _) ?_ hs rfl))
  rw [hs]
  refine Calls.spliced_cons (thn (he.run pins s σ H _ I h) ?_)
  rintro v s1 ⟨z, TI, TO, L, H1, rfl, I1, ez, Z, D, f, n, hn, hR⟩
  refine Calls.spliced_nil ?_
  refine call_enum (starts_zip z TI TO .none) ez fun h2 ee sz k => wpAny_pyIter_enum ee ?_
  have I2 : Inv X pins σ H1 { s1 with heap := h2 } := I1.kept (t' := s1.toks) k
  have old : ∀ b ∈ feetS z TI TO (L.map (·.1)), b < s1.heap.objs.size := fun b hb => by
    obtain ⟨o, ho, _⟩ := Z.obj b hb
    exact Heap.lt_size ho
  refine ⟨s1.heap.objs.size, s1.heap.objs.size :: feetS z TI TO (L.map (·.1)), _, _, H1, rfl, I2, turn_enum (drw_zip D fun p hp => hn _ (List.mem_map_of_mem (f := q3) hp)) (fun q => Nat.lt_irrefl _ (old _ q)), ⟨⟨.none, ee⟩, Z.keep fun b _ o q => k b o q⟩, fun b hb => ?_, hR⟩
  rcases List.mem_cons.mp hb with rfl | hb
  · exact I1.fpOk (Nat.le_refl _) (I1.hok.fresh (Nat.le_refl _))
  · exact f b hb
end PLZ
set_option Elab.async false
set_option linter.all false
set_option maxRecDepth 100000
set_option maxHeartbeats 4000000
namespace PL
open PySem PySem.Spec PyProof.Rows L2 PLZ
/-! ### zip, enumerate -/
def itemsA : D → Option (List D) | .tup ds => some ds | .lst ds => some ds | .scr ns => some (ns.map .int) | _ => none
theorem Rp.seq {K : PySem.W.Frag} {ca : Str → Option Addr} {F : Hp} {v : V} {d : D} {ds : List D} (h : Rp K ca F v d) (e : itemsA d = some ds) : ∃ q : Q3, v = .ref q.1 ∧ Sq K F q ∧ RpA K ca F q.2.2 ds := by
  cases h <;> simp only [itemsA, reduceCtorEq, Option.some.injEq] at e
  · rename_i h r
    subst e
    exact ⟨(_, true, _), rfl, by unfold Sq; exact h, r⟩
  · rename_i h r
    subst e
    exact ⟨(_, false, _), rfl, by unfold Sq; exact SqL.of h, r⟩
  · rename_i h
    subst e
    exact ⟨(_, false, _), rfl, by unfold Sq; exact h, RpA.ofInts _⟩
theorem Sq.ex {K : PySem.W.Frag} {H H' : Hp} {q : Q3} (e : Ex H H') (h : Sq K H q) : Sq K H' q := by
  unfold Sq at h ⊢
  split at h
  · rename_i t
    rw [if_pos t]
    exact ex_t e h
  · rename_i t
    rw [if_neg t]
    exact ex_l e h
section
variable {X : Cx} {z : Z} {O OI OM OO OL : List Nat} {EX : EXT} {a b c e : Expr} {es : List Expr} {f g h : FE} {fs gs : FS} {pos : Pos} {st : Stmt} {sts : List Stmt}
/-- columns -/
inductive Cols (K : PySem.W.Frag) (ca : Str → Option Addr) (F : Hp) (n : Nat) : List Q3 → List (List D) → Prop
  | nil : Cols K ca F n [] []
  | cons {q : Q3} {L : List Q3} {ds : List D} {dss : List (List D)} : Sq K F q → RpA K ca F q.2.2 ds → ds.length = n → Cols K ca F n L dss → Cols K ca F n (q :: L) (ds :: dss)
theorem Cols.held {K : PySem.W.Frag} {ca : Str → Option Addr} {F H : Hp} {n : Nat} (e : Ex F H) : ∀ {L : List Q3} {dss : List (List D)}, Cols K ca F n L dss → Held K H L
  | _, _, .nil => fun q hq => nomatch hq
  | _, _, .cons h r _ t => fun q hq => by
    rcases List.mem_cons.mp hq with rfl | hq
    · exact Sq.ex e h
    · exact Cols.held e t q hq
theorem Cols.len {K : PySem.W.Frag} {ca : Str → Option Addr} {F : Hp} {n : Nat} : ∀ {L : List Q3} {dss : List (List D)}, Cols K ca F n L dss → ∀ q ∈ L, q.2.2.length = n
  | _, _, .nil => fun q hq => nomatch hq
  | _, _, .cons h r l t => fun q hq => by
    rcases List.mem_cons.mp hq with rfl | hq
    · rw [r.length, l]
    · exact Cols.len t q hq
theorem Cols.row {K : PySem.W.Frag} {ca : Str → Option Addr} {F : Hp} {n i : Nat} (hi : i < n) : ∀ {L : List Q3} {dss : List (List D)}, Cols K ca F n L dss → RpA K ca F (vrow L i) (dss.map fun c => c.getD i .non)
  | _, _, .nil => .nil
  | _, _, .cons (q := q) (ds := ds) h r l t => by
    refine .cons ?_ (Cols.row hi t)
    have hd : ds[i]? = some ds[i] := List.getElem?_eq_getElem (by omega)
    obtain ⟨v, hv, rv⟩ := r.get hd
    show Rp K ca F (q.2.2.getD i .non) (ds.getD i .non)
    rw [List.getD_eq_getElem?_getD, List.getD_eq_getElem?_getD, hv, hd]
    exact rv
def rows (dss : List (List D)) (n : Nat) : List D := (List.range n).map fun i => D.tup (dss.map fun c => c.getD i .non)
theorem items_zip {F : Hp} {n : Nat} {L : List Q3} {dss : List (List D)} (C : Cols z.K z.ca F n L dss) : Items z (ItZ z.K L n) F (rows dss n) where
  go := fun i B P H e hi => ⟨by simpa [rows] using hi, C.held (e.trans (frz_ex _ _))⟩
  stop := fun B P H e => ⟨by simp [rows], C.held (e.trans (frz_ex _ _))⟩
  yld := fun i B P H x H' d e nw y h => by
    obtain ⟨T, rfl, hT, rfl⟩ := y
    unfold rows at h
    rw [List.getElem?_map] at h
    cases q : (List.range n)[i]? with
    | none => rw [q] at h; cases h
    | some k =>
      rw [q] at h
      cases h
      obtain ⟨hl, q⟩ := List.getElem?_eq_some_iff.mp q
      rw [List.getElem_range] at q
      subst q
      have hi : i < n := by simpa using hl
      have ex : Ex H (upd H T (.tup (vrow L i))) := Ex.new hT
      refine ⟨ex, .tup (.inl (.inl (frz_of upd_same (nw T hT)))) ((C.row hi).mono (e.trans ?_))⟩
      exact frz_mono fun a o _ ha => ex a o ha
def enD (ds : List D) : List D := ds.mapIdx fun i d => D.tup [.int (i : Nat), d]
theorem items_enum {F : Hp} {J : It} {ds : List D} (I : Items z J F ds) : Items z (ItE J) F (enD ds) where
  go := fun i B P H e hi => I.go i B P H e (by simpa [enD] using hi)
  stop := fun B P H e => by
    have := I.stop B P H e
    show J.stop (enD ds).length H
    unfold enD
    rw [List.length_mapIdx]
    exact this
  yld := fun i B P H x H' d e nw y h => by
    obtain ⟨x1, H1, T, y1, rfl, hT, rfl⟩ := y
    unfold enD at h
    rw [List.getElem?_mapIdx] at h
    cases q : ds[i]? with
    | none => rw [q] at h; cases h
    | some d1 =>
      rw [q] at h
      cases h
      obtain ⟨ex1, r1⟩ := I.yld i B P H x1 H1 d1 e nw y1 q
      have ex2 : Ex H1 (upd H1 T (.tup [.int (i : Nat), x1])) := Ex.new hT
      have nT : T ∉ z.L B P := nw T (by
        cases w : H T with
        | none => rfl
        | some o => rw [ex1 T o w] at hT; cases hT)
      refine ⟨ex1.trans ex2, .tup (.inl (.inl (frz_of upd_same nT))) (.cons (.int _) (.cons (r1.mono ?_) .nil))⟩
      exact frz_mono fun a o _ ha => ex2 a o ha
/-- the columns of two, of three -/
def zip2D : List D → Option (List D)
  | [a, b] => itemsA a >>= fun xs => itemsA b >>= fun ys => if ys.length = xs.length then some (rows [xs, ys] xs.length) else none
  | _ => none
def EvZ (z : Z) (O : List Nat) (EX : EXT) (tz : TZ) (f : FA) : Prop :=
  ∀ B P σ H ρ S R, P.map (·.1) = O → Rel z B P σ H ρ S →
    Sat (f ρ S) (fun r => ∀ L H1 n, Grow z H H1 → Rel z B P σ H1 ρ r.2 → (∀ q ∈ L, q.2.2.length = n) → Items z (ItZ z.K L n) (Frz H1 (z.L B P)) r.1 → R L H1) EX → tz σ H R
structure PZd (X : Cx) (z : Z) (O : List Nat) (EX : EXT) (e : Expr) (f : FA) : Prop where
  ex : ∃ t, PZ X e t ∧ EvZ z O EX t f
theorem pzd_zip2 (hK : X.K = z.K) {p : Pos} {fa : FA} (hm : X.mg "zip" = none) (ha : PAd X z O EX [a, b] fa) (hg : Gl X "zip" := by rfl)
    (hs : starEach [a, b] X.env = (false, eval a X.env) :: starEach [b] X.env := by rfl) (hpl : (backTo pos (starEach [b] X.env)).any (·.1) = false := by rfl) : PZd X z O EX (.Call (.Name "zip" p) [a, b] [] pos) (rngI zip2D fa) := by
  obtain ⟨t, pt, q⟩ := ha.ex
  refine ⟨_, pz_zip2 hm pt hg hs hpl, fun B P σ H ρ S R hP rr hs => ?_⟩
  refine q B P σ H ρ S _ hP rr ((sat_bind.mp hs).imp fun x hx vs H1 g1 r1 hv => ?_)
  obtain ⟨ds, hd, hq⟩ := sat_of (sat_bind.mp hx)
  obtain ⟨xs, S1⟩ := x
  dsimp only at hd hv
  unfold zip2D at hd
  split at hd
  · rename_i a1 b1
    simp only [Option.bind_eq_bind, Option.bind_eq_some_iff] at hd
    obtain ⟨xs, ex, ys, ey, hd⟩ := hd
    split at hd
    · rename_i w
      cases hd
      cases hv with
      | cons h1 r =>
        cases r with
        | cons h2 r =>
          cases r
          obtain ⟨q1, rfl, s1, c1⟩ := h1.seq ex
          obtain ⟨q2, rfl, s2, c2⟩ := h2.seq ey
          have C : Cols z.K z.ca (Frz H1 (z.L B P)) xs.length [q1, q2] [xs, ys] := .cons s1 c1 rfl (.cons s2 c2 w .nil)
          rw [hK]
          exact ⟨q1, q2, rfl, C.held (frz_ex _ _), hq _ H1 _ g1 r1 C.len (items_zip C)⟩
    · cases hd
  · cases hd
theorem pid_zip (hK : X.K = z.K) {tg : Expr} {fa : FA} (hz : PZd X z O EX e fa) : PId X z O EX tg e fa := by
  obtain ⟨t, pt, q⟩ := hz.ex
  refine ⟨_, pi_zipn pt, fun B P σ H ρ S R hP rr hs => ?_⟩
  refine q B P σ H ρ S _ hP rr (hs.imp fun x hx L H1 n g1 r1 hl it => ?_)
  rw [hK]
  exact ⟨n, hl, hx _ H1 g1 r1 it⟩
def enI (fa : FA) : FA := fun ρ S => fa ρ S >>= fun x => R.ok (enD x.1, x.2)
theorem pid_enumz (hK : X.K = z.K) {elts : List Expr} {kk : Nat} {tpos p : Pos} {fa : FA} (hm : X.mg "enumerate" = none) (hz : PZd X z O EX e fa) (hg : Gl X "enumerate" := by rfl) (hs : starEach [e] X.env = [(false, eval e X.env)] := by rfl) :
    PId X z O EX (.Tuple elts kk tpos) (.Call (.Name "enumerate" p) [e] [] pos) (enI fa) := by
  obtain ⟨t, pt, q⟩ := hz.ex
  refine ⟨_, pi_enumz hm pt hg hs, fun B P σ H ρ S R hP rr hs => ?_⟩
  refine q B P σ H ρ S _ hP rr ((sat_bind.mp hs).imp fun x hx L H1 n g1 r1 hl it => ?_)
  rw [hK]
  exact ⟨n, hl, hx _ H1 g1 r1 (items_enum it)⟩
end
end PL
set_option Elab.async false
set_option linter.all false
set_option maxRecDepth 100000
set_option maxHeartbeats 4000000
namespace PL
open PySem PySem.Spec PyProof.Rows L2 ClX
/-! ### isinstance of the usual types, of own classes -/
def known : List String := ["NoneType", "bool", "int", "str", "tuple", "list", "dict"]
def tyB (t T : String) : Bool := t == T || (t == "bool" && T == "int")
def tyK (T : String) : String → Option Bool := fun t => if t ∈ known then some (tyB t T) else none
theorem kit_known (K : PySem.W.Frag) : ∀ T ∈ ["bool", "int", "str", "tuple", "list", "dict"], ∀ t ∈ known, PySem.W.kitOne K (.type t) (.type T) = some (tyB t T) := by
  intro T hT t ht
  simp only [known, List.mem_cons, List.not_mem_nil, or_false] at hT ht
  rcases hT with rfl | rfl | rfl | rfl | rfl | rfl <;> rcases ht with rfl | rfl | rfl | rfl | rfl | rfl | rfl <;> kernel_rfl
/-- an own class, as isinstance sees it -/
structure OwnC (K : PySem.W.Frag) (C : Addr) : Prop where
  ik : InsK K C
  bt : ∀ T ∈ ["bool", "int", "str", "tuple", "list", "dict"], PySem.W.kitOne K (.ref C) (.type T) = some false
  me : ((PySem.W.clsIn K C).isSome && PySem.W.typeIn K (.ref C) == some (.type "type")) = true
theorem kit_own (K : PySem.W.Frag) {C : Addr} (h : ((PySem.W.clsIn K C).isSome && PySem.W.typeIn K (.ref C) == some (.type "type")) = true) : ∀ t ∈ known, PySem.W.kitOne K (.type t) (.ref C) = some false := by
  intro t ht
  have e : PySem.W.kitCls K (.type t) (.ref C) = PySem.W.subIn K (.type t) (.ref C) := by
    show (if _ then _ else _) = _
    rw [if_pos h]
  show (if (Value.type t == Value.ref C) = true then some true else PySem.W.kitCls K (.type t) (.ref C)) = some false
  rw [if_neg (by intro q; cases q), e]
  simp only [known, List.mem_cons, List.not_mem_nil, or_false] at ht
  rcases ht with rfl | rfl | rfl | rfl | rfl | rfl | rfl <;> kernel_rfl
/-- the own classes there are, one of them -/
def inst0 (cs : List Str) : Str → Option Bool := fun c => if c ∈ cs then some false else none
def inst1 (cs : List Str) (me : Str) : Str → Option Bool := fun c => if c = me then some true else if c ∈ cs then some false else none
section
variable {X : Cx} {z : Z} {O OI OM OO OL : List Nat} {EX : EXT} {a b c e : Expr} {es : List Expr} {f g h : FE} {fs gs : FS} {pos p p2 : Pos}
theorem pd_isB (T : String) (hT : T ∈ ["bool", "int", "str", "tuple", "list", "dict"]) (cs : List Str) (hcs : ∀ c ∈ cs, ∃ C, z.ca c = some C ∧ OwnC z.K C) (hK : X.K = z.K) (hm : X.mg "isinstance" = none) {x : Str} (hmT : X.mg x = none) (hbt : bootBuiltins x = some (.type T)) (ha : PB X z O EX e f)
    (hn : x ≠ "__name__" := by decide) (hd : (x == ("__debug__" : Str)) = false := by decide) (hg : Gl X "isinstance" := by rfl) (hgT : Gl X x := by rfl)
    (he : starEach [e, .Name x p2] X.env = (false, eval e X.env) :: starEach [.Name x p2] X.env := by rfl) (he2 : starEach [.Name x p2] X.env = (false, eval (.Name x p2) X.env) :: starEach [] X.env := by rfl) (hpl : (backTo pos (starEach [.Name x p2] X.env)).any (·.1) = false := by rfl) :
    PD X z O EX (.Call (.Name "isinstance" p) [e, .Name x p2] [] pos) (un1 (isiD (tyK T) (inst0 cs)) f) := by
  refine pd_isi hK hm (pe_bltn hgT hmT hbt (v := .ty T) rfl hn hd) (.ty T) (fun t k h => ?_) (fun c k h => ?_) ha hg he he2 hpl
  · unfold tyK at h
    split at h
    · rename_i w
      rw [kit_known z.K T hT t w]
      exact h
    · cases h
  · unfold inst0 at h
    split at h
    · rename_i w
      cases h
      obtain ⟨C, e, o⟩ := hcs c w
      exact ⟨C, e, o.ik, o.bt T hT⟩
    · cases h
theorem pd_isC (me : Str) {C : Addr} (hC : z.ca me = some C) (oC : OwnC z.K C) (cs : List Str) (hcs : ∀ c ∈ cs, ∃ D, z.ca c = some D ∧ OwnC z.K D ∧ PySem.W.kitOne z.K (.ref D) (.ref C) = some false) (hK : X.K = z.K) (hm : X.mg "isinstance" = none) (hmC : X.mg me = some (.ref C)) (ha : PB X z O EX e f)
    (hd : (me == ("__debug__" : Str)) = false := by decide) (hg : Gl X "isinstance" := by rfl) (hgT : Gl X me := by rfl)
    (he : starEach [e, .Name me p2] X.env = (false, eval e X.env) :: starEach [.Name me p2] X.env := by rfl) (he2 : starEach [.Name me p2] X.env = (false, eval (.Name me p2) X.env) :: starEach [] X.env := by rfl) (hpl : (backTo pos (starEach [.Name me p2] X.env)).any (·.1) = false := by rfl) :
    PD X z O EX (.Call (.Name "isinstance" p) [e, .Name me p2] [] pos) (un1 (isiD (fun t => if t ∈ known then some false else none) (inst1 cs me)) f) := by
  refine pd_isi hK hm (pe_glob hgT hmC (v := .ref C) rfl hd) (.own C) (fun t k h => ?_) (fun c k h => ?_) ha hg he he2 hpl
  · split at h
    · rename_i w
      rw [kit_own z.K oC.me t w]
      exact h
    · cases h
  · unfold inst1 at h
    split at h
    · rename_i w
      cases h
      subst w
      refine ⟨C, hC, oC.ik, ?_⟩
      show (if (Value.ref C == Value.ref C) = true then some true else _) = some true
      rw [if_pos (beq_self_eq_true _)]
    · split at h
      · rename_i w
        cases h
        obtain ⟨D, e, o, q⟩ := hcs c w
        exact ⟨D, e, o.ik, q⟩
      · cases h
/-- a class's value, read off the class -/
theorem pd_cval {me fn : Str} {C : Addr} {mc u : Value} {v : V} {d : D} (hm : X.mg me = some (.ref C)) (r : CRead X.K C mc) (k : CVal X.K C mc fn v u) (hv : ∀ F, Rp z.K z.ca F v d) (hg : Gl X me := by rfl) (hdb : (me == ("__debug__" : Str)) = false := by decide)
    (hb : attributeBase (.Name me p) fn X.env (eval (.Name me p) X.env) = eval (.Name me p) X.env := by rfl) : PD X z O EX (.Attribute (.Name me p) fn pos) (fun _ S => R.ok (d, S)) :=
  ⟨_, pe_cval (pe_glob hg hm (v := .ref C) rfl hdb) hb, fun B P σ H ρ S Q hP rr hs => ⟨C, mc, v, u, rfl, r, k, hs v H Grow.refl rr (hv _)⟩⟩
end
end PL
set_option Elab.async false
set_option linter.all false
set_option maxRecDepth 100000
set_option maxHeartbeats 4000000
/-! What is wanted of a result, form by form: simp walks a def's function from its head on. -/
namespace PL
open PySem PySem.Spec PyProof.Rows L2 ClX
@[simp ↓] theorem wp_bind {α β : Type} {x : R α} {f : α → R β} {Q : β → Prop} {EX : EXT} : Sat (x >>= f) Q EX ↔ Sat x (fun a => Sat (f a) Q EX) EX := sat_bind
@[simp ↓] theorem wp_ok {α : Type} {a : α} {Q : α → Prop} {EX : EXT} : Sat (R.ok a) Q EX ↔ Q a := Iff.rfl
@[simp ↓] theorem wp_bad {α : Type} {Q : α → Prop} {EX : EXT} : Sat (R.bad : R α) Q EX ↔ False := Iff.rfl
@[simp ↓] theorem wp_some {α : Type} {a : α} {Q : α → Prop} {EX : EXT} : Sat (R.of (some a)) Q EX ↔ Q a := Iff.rfl
@[simp ↓] theorem wp_none {α : Type} {Q : α → Prop} {EX : EXT} : Sat (R.of (none : Option α)) Q EX ↔ False := Iff.rfl
@[simp ↓] theorem wp_if {α : Type} {c : Prop} [Decidable c] {a b : R α} {Q : α → Prop} {EX : EXT} : Sat (if c then a else b) Q EX ↔ if c then Sat a Q EX else Sat b Q EX := by split <;> exact Iff.rfl
@[simp ↓] theorem wp_ofif {α : Type} {c : Prop} [Decidable c] {a b : Option α} {Q : α → Prop} {EX : EXT} : Sat (R.of (if c then a else b)) Q EX ↔ if c then Sat (R.of a) Q EX else Sat (R.of b) Q EX := by split <;> exact Iff.rfl
@[simp ↓] theorem wp_noX {α : Type} {r : R α} {Q : α → Prop} {EX : EXT} : Sat (noX r) Q EX ↔ Sat r Q EX0 := by cases r <;> exact Iff.rfl
@[simp ↓] theorem wp_lk0 {d : D} {ρ : Env} {Q : D → Prop} {EX : EXT} : Sat (lk (some d :: ρ) 0) Q EX ↔ Q d := Iff.rfl
@[simp ↓] theorem wp_lkS {d : Option D} {ρ : Env} {i : Nat} {Q : D → Prop} {EX : EXT} : Sat (lk (d :: ρ) (i + 1)) Q EX ↔ Sat (lk ρ i) Q EX := Iff.rfl
@[simp ↓] theorem wp_set0 {d : D} {o : Option D} {ρ : Env} {Q : Env → Prop} {EX : EXT} : Sat (setE (o :: ρ) 0 d) Q EX ↔ Q (some d :: ρ) := by
  unfold setE
  rw [if_pos (show 0 < (o :: ρ).length from Nat.succ_pos _)]
  exact Iff.rfl
@[simp ↓] theorem wp_setS {d : D} {o : Option D} {ρ : Env} {i : Nat} {Q : Env → Prop} {EX : EXT} : Sat (setE (o :: ρ) (i + 1) d) Q EX ↔ Sat (setE ρ i d) (fun r => Q (o :: r)) EX := by
  unfold setE
  by_cases h : i < ρ.length
  · rw [if_pos (show i + 1 < (o :: ρ).length from Nat.succ_lt_succ h), if_pos h]; exact Iff.rfl
  · rw [if_neg (show ¬ i + 1 < (o :: ρ).length from fun q => h (Nat.lt_of_succ_lt_succ q)), if_neg h]; exact Iff.rfl
def blK {α : Type} (d : D) (a b : R α) : R α := match d with | .bl true => a | .bl false => b | _ => .bad
@[simp ↓] theorem wp_blK {α : Type} {k : Bool} {a b : R α} {Q : α → Prop} {EX : EXT} : Sat (blK (.bl k) a b) Q EX ↔ if k = true then Sat a Q EX else Sat b Q EX := by cases k <;> exact Iff.rfl
theorem bind_congr' {α β : Type} {x : R α} {f g : α → R β} (h : ∀ a, f a = g a) : (x >>= f) = (x >>= g) := by rw [funext h]
theorem chn_eq {g2 g3 : D → D → Option D} {f g h : FE} {ρ : Env} {S : List D} : chn g2 g3 f g h ρ S = (f ρ S >>= fun x => g ρ x.2 >>= fun y => R.of (g2 x.1 y.1) >>= fun d => blK d (h ρ y.2 >>= fun w => R.of (g3 y.1 w.1) >>= fun d' => R.ok (d', w.2)) (R.ok (.bl false, y.2))) :=
  bind_congr' fun _ => bind_congr' fun _ => bind_congr' fun d => by
    cases d with
    | bl k => cases k <;> rfl
    | _ => rfl
@[simp ↓] theorem wp_chn {g2 g3 : D → D → Option D} {f g h : FE} {ρ : Env} {S : List D} {Q : D × List D → Prop} {EX : EXT} : Sat (chn g2 g3 f g h ρ S) Q EX ↔ Sat (f ρ S >>= fun x => g ρ x.2 >>= fun y => R.of (g2 x.1 y.1) >>= fun d => blK d (h ρ y.2 >>= fun w => R.of (g3 y.1 w.1) >>= fun d' => R.ok (d', w.2)) (R.ok (.bl false, y.2))) Q EX := by rw [chn_eq]
theorem consC_eq {g2 : D → D → Option D} {g : FE} {h : D → FE} {d : D} {ρ : Env} {S : List D} : consC g2 g h d ρ S = (g ρ S >>= fun y => R.of (g2 d y.1) >>= fun r => blK r (h y.1 ρ y.2) (R.ok (.bl false, y.2))) :=
  bind_congr' fun _ => bind_congr' fun d => by
    cases d with
    | bl k => cases k <;> rfl
    | _ => rfl
@[simp ↓] theorem wp_consC {g2 : D → D → Option D} {g : FE} {h : D → FE} {d : D} {ρ : Env} {S : List D} {Q : D × List D → Prop} {EX : EXT} : Sat (consC g2 g h d ρ S) Q EX ↔ Sat (g ρ S >>= fun y => R.of (g2 d y.1) >>= fun r => blK r (h y.1 ρ y.2) (R.ok (.bl false, y.2))) Q EX := by rw [consC_eq]
@[simp ↓] theorem wp_nilG {ρ : Env} {S : List D} {Q : Env × List D → Prop} {EX : EXT} : Sat (nilG [] ρ S) Q EX ↔ Q (ρ, S) := Iff.rfl
@[simp ↓] theorem wp_lcE {vs : List Nat} {fi : FA} {g : FG} {tt : FT} {te : FE} {ρ : Env} {S : List D} {Q : List D × List D → Prop} {EX : EXT} : Sat (lcE vs fi g tt te ρ S) Q EX ↔ Sat (fi ρ S) (fun x => Sat (lcL vs g tt te ρ x.1 x.2 []) Q EX0) EX := by
  show Sat (_ >>= _) Q EX ↔ _
  rw [wp_bind]
  exact iff_of_eq (by congr; funext a; exact propext wp_noX)
@[simp ↓] theorem wp_bin2 {g2 : D → D → Option D} {f g : FE} {ρ : Env} {S : List D} {Q : D × List D → Prop} {EX : EXT} : Sat (bin2 g2 f g ρ S) Q EX ↔ Sat (f ρ S >>= fun x => g ρ x.2 >>= fun y => R.of (g2 x.1 y.1) >>= fun d => R.ok (d, y.2)) Q EX := Iff.rfl
@[simp ↓] theorem wp_un1 {g1 : D → Option D} {f : FE} {ρ : Env} {S : List D} {Q : D × List D → Prop} {EX : EXT} : Sat (un1 g1 f ρ S) Q EX ↔ Sat (f ρ S >>= fun x => R.of (g1 x.1) >>= fun d => R.ok (d, x.2)) Q EX := Iff.rfl
@[simp ↓] theorem wp_tst {f : FE} {ρ : Env} {S : List D} {Q : Bool × List D → Prop} {EX : EXT} : Sat (tst f ρ S) Q EX ↔ Sat (f ρ S >>= fun x => R.of (truD x.1) >>= fun k => R.ok (k, x.2)) Q EX := Iff.rfl
@[simp ↓] theorem wp_tstB {f : FE} {ρ : Env} {S : List D} {Q : Bool × List D → Prop} {EX : EXT} : Sat (tstB f ρ S) Q EX ↔ Sat (f ρ S >>= fun x => match x.1 with
  | .bl k => R.ok (k, x.2)
  | _ => R.bad) Q EX := Iff.rfl
@[simp ↓] theorem wp_andT {f g : FT} {ρ : Env} {S : List D} {Q : Bool × List D → Prop} {EX : EXT} : Sat (andT f g ρ S) Q EX ↔ Sat (f ρ S >>= fun x => if x.1 then g ρ x.2 else R.ok (false, x.2)) Q EX := Iff.rfl
@[simp ↓] theorem wp_orT {f g : FT} {ρ : Env} {S : List D} {Q : Bool × List D → Prop} {EX : EXT} : Sat (orT f g ρ S) Q EX ↔ Sat (f ρ S >>= fun x => if x.1 then R.ok (true, x.2) else g ρ x.2) Q EX := Iff.rfl
@[simp ↓] theorem wp_notT {f : FT} {ρ : Env} {S : List D} {Q : Bool × List D → Prop} {EX : EXT} : Sat (notT f ρ S) Q EX ↔ Sat (f ρ S >>= fun x => R.ok (!x.1, x.2)) Q EX := Iff.rfl
@[simp ↓] theorem wp_andV {f g : FE} {ρ : Env} {S : List D} {Q : D × List D → Prop} {EX : EXT} : Sat (andV f g ρ S) Q EX ↔ Sat (f ρ S >>= fun x => R.of (truD x.1) >>= fun k => if k then g ρ x.2 else R.ok x) Q EX := Iff.rfl
@[simp ↓] theorem wp_orV {f g : FE} {ρ : Env} {S : List D} {Q : D × List D → Prop} {EX : EXT} : Sat (orV f g ρ S) Q EX ↔ Sat (f ρ S >>= fun x => R.of (truD x.1) >>= fun k => if k then R.ok x else g ρ x.2) Q EX := Iff.rfl
@[simp ↓] theorem wp_notV {f : FE} {ρ : Env} {S : List D} {Q : D × List D → Prop} {EX : EXT} : Sat (notV f ρ S) Q EX ↔ Sat (f ρ S >>= fun x => R.of (truD x.1) >>= fun k => R.ok (.bl (!k), x.2)) Q EX := Iff.rfl
@[simp ↓] theorem wp_ifE {t : FT} {f g : FE} {ρ : Env} {S : List D} {Q : D × List D → Prop} {EX : EXT} : Sat (ifE t f g ρ S) Q EX ↔ Sat (t ρ S >>= fun x => if x.1 then f ρ x.2 else g ρ x.2) Q EX := Iff.rfl
@[simp ↓] theorem wp_consA {f : FE} {g : FA} {ρ : Env} {S : List D} {Q : List D × List D → Prop} {EX : EXT} : Sat (consA f g ρ S) Q EX ↔ Sat (f ρ S >>= fun x => g ρ x.2 >>= fun y => R.ok (x.1 :: y.1, y.2)) Q EX := Iff.rfl
@[simp ↓] theorem wp_tupE {fa : FA} {ρ : Env} {S : List D} {Q : D × List D → Prop} {EX : EXT} : Sat (tupE fa ρ S) Q EX ↔ Sat (fa ρ S >>= fun x => if x.1.length ≤ LINE then R.ok (.tup x.1, x.2) else R.bad) Q EX := Iff.rfl
@[simp ↓] theorem wp_lstE {fa : FA} {ρ : Env} {S : List D} {Q : D × List D → Prop} {EX : EXT} : Sat (lstE fa ρ S) Q EX ↔ Sat (fa ρ S >>= fun x => if x.1.length ≤ LINE then R.ok (.lst x.1, x.2) else R.bad) Q EX := Iff.rfl
@[simp ↓] theorem wp_someO {f : FE} {ρ : Env} {S : List D} {Q : Option Int × List D → Prop} {EX : EXT} : Sat (someO f ρ S) Q EX ↔ Sat (f ρ S >>= fun x => match x.1 with
  | .int i => R.ok (some i, x.2)
  | _ => R.bad) Q EX := Iff.rfl
@[simp ↓] theorem wp_slcE {f : FE} {l h : FO} {ρ : Env} {S : List D} {Q : D × List D → Prop} {EX : EXT} : Sat (slcE f l h ρ S) Q EX ↔ Sat (f ρ S >>= fun x => l ρ x.2 >>= fun lo => h ρ lo.2 >>= fun hi => R.of (slcD x.1 lo.1 hi.1) >>= fun d => R.ok (d, hi.2)) Q EX := Iff.rfl
@[simp ↓] theorem wp_callE {g : List D → Option D} {fa : FA} {ρ : Env} {S : List D} {Q : D × List D → Prop} {EX : EXT} : Sat (callE g fa ρ S) Q EX ↔ Sat (fa ρ S >>= fun x => R.of (g x.1) >>= fun d => R.ok (d, x.2)) Q EX := Iff.rfl
@[simp ↓] theorem wp_mthE {T : String} {g : D → List D → Option D} {f : FE} {fa : FA} {ρ : Env} {S : List D} {Q : D × List D → Prop} {EX : EXT} : Sat (mthE T g f fa ρ S) Q EX ↔ Sat (f ρ S >>= fun x => if kindD T x.1 then fa ρ x.2 >>= fun y => R.of (g x.1 y.1) >>= fun d => R.ok (d, y.2) else R.bad) Q EX := Iff.rfl
def nxt (g : FS) (r : Ctl × Env × List D) : R (Ctl × Env × List D) := match r.1 with | .nx => g r.2.1 r.2.2 | _ => R.ok r
@[simp ↓] theorem wp_nxt {g : FS} {ρ : Env} {S : List D} {Q : Ctl × Env × List D → Prop} {EX : EXT} : Sat (nxt g (.nx, ρ, S)) Q EX ↔ Sat (g ρ S) Q EX := Iff.rfl
@[simp ↓] theorem wp_nxt_rt {g : FS} {d : D} {ρ : Env} {S : List D} {Q : Ctl × Env × List D → Prop} {EX : EXT} : Sat (nxt g (.rt d, ρ, S)) Q EX ↔ Q (.rt d, ρ, S) := Iff.rfl
@[simp ↓] theorem wp_nxt_bk {g : FS} {ρ : Env} {S : List D} {Q : Ctl × Env × List D → Prop} {EX : EXT} : Sat (nxt g (.bk, ρ, S)) Q EX ↔ Q (.bk, ρ, S) := Iff.rfl
@[simp ↓] theorem wp_nxt_ct {g : FS} {ρ : Env} {S : List D} {Q : Ctl × Env × List D → Prop} {EX : EXT} : Sat (nxt g (.ct, ρ, S)) Q EX ↔ Q (.ct, ρ, S) := Iff.rfl
@[simp ↓] theorem wp_seqS {f g : FS} {ρ : Env} {S : List D} {Q : Ctl × Env × List D → Prop} {EX : EXT} : Sat (seqS f g ρ S) Q EX ↔ Sat (f ρ S) (fun r => Sat (nxt g r) Q EX) EX := by
  show Sat (_ >>= _) Q EX ↔ _
  rw [wp_bind]
  exact Iff.rfl
@[simp ↓] theorem wp_retS {f : FE} {ρ : Env} {S : List D} {Q : Ctl × Env × List D → Prop} {EX : EXT} : Sat (retS f ρ S) Q EX ↔ Sat (f ρ S >>= fun x => R.ok (.rt x.1, ρ, x.2)) Q EX := Iff.rfl
@[simp ↓] theorem wp_exprS {f : FE} {ρ : Env} {S : List D} {Q : Ctl × Env × List D → Prop} {EX : EXT} : Sat (exprS f ρ S) Q EX ↔ Sat (f ρ S >>= fun x => R.ok (.nx, ρ, x.2)) Q EX := Iff.rfl
@[simp ↓] theorem wp_ifS {c : FT} {f g : FS} {ρ : Env} {S : List D} {Q : Ctl × Env × List D → Prop} {EX : EXT} : Sat (ifS c f g ρ S) Q EX ↔ Sat (c ρ S >>= fun x => if x.1 then f ρ x.2 else g ρ x.2) Q EX := Iff.rfl
@[simp ↓] theorem wp_asgS {f : FE} {g : FG} {ρ : Env} {S : List D} {Q : Ctl × Env × List D → Prop} {EX : EXT} : Sat (asgS f g ρ S) Q EX ↔ Sat (f ρ S >>= fun x => g x.1 ρ x.2 >>= fun r => R.ok (.nx, r.1, r.2)) Q EX := Iff.rfl
@[simp ↓] theorem wp_parS {i j : Nat} {fa : FA} {ρ : Env} {S : List D} {Q : Ctl × Env × List D → Prop} {EX : EXT} : Sat (parS i j fa ρ S) Q EX ↔ Sat (fa ρ S >>= fun x => match x.1 with
  | [u, v] => setE ρ i u >>= fun ρ1 => setE ρ1 j v >>= fun ρ2 => R.ok (.nx, ρ2, x.2)
  | _ => R.bad) Q EX := Iff.rfl
@[simp ↓] theorem wp_augS {i : Nat} {g2 : D → D → Option D} {f : FE} {ρ : Env} {S : List D} {Q : Ctl × Env × List D → Prop} {EX : EXT} : Sat (augS i g2 f ρ S) Q EX ↔ Sat (lk ρ i >>= fun u => f ρ S >>= fun x => R.of (g2 u x.1) >>= fun d => setE ρ i d >>= fun ρ1 => R.ok (.nx, ρ1, x.2)) Q EX := Iff.rfl
@[simp ↓] theorem wp_forS {fi : FA} {g : FG} {fb : FS} {ρ : Env} {S : List D} {Q : Ctl × Env × List D → Prop} {EX : EXT} : Sat (forS fi g fb ρ S) Q EX ↔ Sat (fi ρ S >>= fun x => forL g fb x.1 ρ x.2) Q EX := Iff.rfl
@[simp ↓] theorem wp_rngI {g : List D → Option (List D)} {fa : FA} {ρ : Env} {S : List D} {Q : List D × List D → Prop} {EX : EXT} : Sat (rngI g fa ρ S) Q EX ↔ Sat (fa ρ S >>= fun x => R.of (g x.1) >>= fun ds => R.ok (ds, x.2)) Q EX := Iff.rfl
@[simp ↓] theorem wp_seqI {g : D → Option (List D)} {f : FE} {ρ : Env} {S : List D} {Q : List D × List D → Prop} {EX : EXT} : Sat (seqI g f ρ S) Q EX ↔ Sat (f ρ S >>= fun x => R.of (g x.1) >>= fun ds => R.ok (ds, x.2)) Q EX := Iff.rfl
@[simp ↓] theorem wp_ofF {f : FA} {ρ : Env} {S : List D} {Q : D × List D → Prop} {EX : EXT} : Sat (ofF f ρ S) Q EX ↔ Sat (f ρ S >>= fun x => R.ok (.lst x.1, x.2)) Q EX := Iff.rfl
@[simp ↓] theorem wp_lstF {fa : FA} {ρ : Env} {S : List D} {Q : List D × List D → Prop} {EX : EXT} : Sat (lstF fa ρ S) Q EX ↔ Sat (fa ρ S >>= fun x => if x.1.length ≤ LINE then R.ok x else R.bad) Q EX := Iff.rfl
@[simp ↓] theorem wp_bin2F {g2 : D → D → Option (List D)} {f g : FE} {ρ : Env} {S : List D} {Q : List D × List D → Prop} {EX : EXT} : Sat (bin2F g2 f g ρ S) Q EX ↔ Sat (f ρ S >>= fun x => g ρ x.2 >>= fun y => R.of (g2 x.1 y.1) >>= fun d => R.ok (d, y.2)) Q EX := Iff.rfl
@[simp ↓] theorem wp_callF {g : List D → Option (List D)} {fa : FA} {ρ : Env} {S : List D} {Q : List D × List D → Prop} {EX : EXT} : Sat (callF g fa ρ S) Q EX ↔ Sat (fa ρ S >>= fun x => R.of (g x.1) >>= fun d => R.ok (d, x.2)) Q EX := Iff.rfl
@[simp ↓] theorem wp_ownS {i : Nat} {f : FA} {ρ : Env} {S : List D} {Q : Ctl × Env × List D → Prop} {EX : EXT} : Sat (ownS i f ρ S) Q EX ↔ Sat (f ρ S >>= fun x => setE ρ i (.lst x.1) >>= fun ρ1 => R.ok (.nx, ρ1, x.2)) Q EX := Iff.rfl
@[simp ↓] theorem wp_appS {i : Nat} {f : FE} {ρ : Env} {S : List D} {Q : Ctl × Env × List D → Prop} {EX : EXT} : Sat (appS i f ρ S) Q EX ↔ Sat (f ρ S >>= fun x => lk ρ i >>= fun l => match l with
  | .lst ds => if ds.length < LINE then setE ρ i (.lst (ds ++ [x.1])) >>= fun ρ1 => R.ok (.nx, ρ1, x.2) else R.bad
  | _ => R.bad) Q EX := Iff.rfl
@[simp ↓] theorem wp_stoS {i : Nat} {f g : FE} {ρ : Env} {S : List D} {Q : Ctl × Env × List D → Prop} {EX : EXT} : Sat (stoS i f g ρ S) Q EX ↔ Sat (f ρ S >>= fun x => g ρ x.2 >>= fun y => lk ρ i >>= fun l => match l, y.1 with
  | .lst ds, .int k => match ixN ds.length k with
    | some j => setE ρ i (.lst (ds.set j x.1)) >>= fun ρ1 => R.ok (.nx, ρ1, y.2)
    | none => R.bad
  | _, _ => R.bad) Q EX := Iff.rfl
@[simp ↓] theorem wp_callD {F : List D → R D} {dds : List D} {fa : FA} {ρ : Env} {S : List D} {Q : D × List D → Prop} {EX : EXT} : Sat (callD F dds fa ρ S) Q EX ↔ Sat (fa ρ S >>= fun x => noX (F (x.1 ++ dds)) >>= fun d => R.ok (d, x.2)) Q EX := Iff.rfl
@[simp ↓] theorem wp_callN {F : List D → R (List D)} {dds : List D} {fa : FA} {ρ : Env} {S : List D} {Q : List D × List D → Prop} {EX : EXT} : Sat (callN F dds fa ρ S) Q EX ↔ Sat (fa ρ S >>= fun x => noX (F (x.1 ++ dds)) >>= fun d => R.ok (d, x.2)) Q EX := Iff.rfl
@[simp ↓] theorem wp_callP {F : List D → List D → R (D × List D)} {fa : FA} {ρ : Env} {S : List D} {Q : D × List D → Prop} {EX : EXT} : Sat (callP F fa ρ S) Q EX ↔ Sat (fa ρ S >>= fun x => noX (F x.2 x.1)) Q EX := Iff.rfl
@[simp ↓] theorem wp_callPN {F : List D → List D → R (D × List D)} {fn : FA} {ρ : Env} {S : List D} {Q : D × List D → Prop} {EX : EXT} : Sat (callPN F fn ρ S) Q EX ↔ Sat (fn ρ S >>= fun x => noX (F x.1 []) >>= fun r => R.ok (r.1, x.2)) Q EX := Iff.rfl
@[simp ↓] theorem wp_callKD {F : List D → R D} {n m : Nat} {ix : List Nat} {fa fk : FA} {ρ : Env} {S : List D} {Q : D × List D → Prop} {EX : EXT} : Sat (callKD F n m ix fa fk ρ S) Q EX ↔ Sat (fa ρ S >>= fun x => fk ρ x.2 >>= fun y => if x.1.length = n ∧ y.1.length = m then noX (F (pick ix (x.1 ++ y.1))) >>= fun d => R.ok (d, y.2) else R.bad) Q EX := Iff.rfl
@[simp ↓] theorem wp_mkD {c : Str} {nm : List Str} {F : List D → R (List D)} {fa : FA} {ρ : Env} {S : List D} {Q : D × List D → Prop} {EX : EXT} : Sat (mkD c nm F fa ρ S) Q EX ↔ Sat (fa ρ S >>= fun x => noX (F x.1) >>= fun es => R.ok (.ins c nm es, x.2)) Q EX := Iff.rfl
@[simp ↓] theorem wp_mkI {c : Str} {nm : List Str} {F : List D → R (List D)} {n m : Nat} {ix : List Nat} {fa fk : FA} {ρ : Env} {S : List D} {Q : D × List D → Prop} {EX : EXT} : Sat (mkI c nm F n m ix fa fk ρ S) Q EX ↔ Sat (fa ρ S >>= fun x => fk ρ x.2 >>= fun y => if x.1.length = n ∧ y.1.length = m then noX (F (pick ix (x.1 ++ y.1))) >>= fun es => R.ok (.ins c nm es, y.2) else R.bad) Q EX := Iff.rfl
@[simp ↓] theorem wp_mthC {cn m : Str} {F : List D → R D} {dds : List D} {f : FE} {fa : FA} {ρ : Env} {S : List D} {Q : D × List D → Prop} {EX : EXT} : Sat (mthC cn m F dds f fa ρ S) Q EX ↔ Sat (f ρ S >>= fun x => match x.1 with
  | .ins c ns _ => if c = cn ∧ ns.contains m = false then fa ρ x.2 >>= fun y => noX (F (x.1 :: (y.1 ++ dds))) >>= fun d => R.ok (d, y.2) else R.bad
  | _ => R.bad) Q EX := Iff.rfl
@[simp ↓] theorem wp_propD {cn : Str} {F : List D → R D} {f : FE} {ρ : Env} {S : List D} {Q : D × List D → Prop} {EX : EXT} : Sat (propD cn F f ρ S) Q EX ↔ Sat (f ρ S >>= fun x => match x.1 with
  | .ins c _ _ => if c = cn then noX (F [x.1]) >>= fun d => R.ok (d, x.2) else R.bad
  | _ => R.bad) Q EX := Iff.rfl
@[simp ↓] theorem wp_seqN {fs : FS} {fa : FA} {ρ : Env} {S : List D} {Q : List D × List D → Prop} {EX : EXT} : Sat (seqN fs fa ρ S) Q EX ↔ Sat (fs ρ S >>= fun r => match r.1 with | .nx => fa r.2.1 r.2.2 | _ => R.bad) Q EX := Iff.rfl
@[simp ↓] theorem wp_slfS {nm : List Str} {fn : Str} {f : FE} {ρ : Env} {S : List D} {Q : Ctl × Env × List D → Prop} {EX : EXT} : Sat (slfS nm fn f ρ S) Q EX ↔ Sat (f ρ S >>= fun x => if nm[x.2.length]? = some fn ∧ (nm.take x.2.length).contains fn = false ∧ x.2.length < 999 then R.ok (.nx, ρ, x.2 ++ [x.1]) else R.bad) Q EX := Iff.rfl
@[simp ↓] theorem wp_poolE {k : Int} {z0 : Env} {S : List D} {Q : D × List D → Prop} {EX : EXT} : Sat (poolE k z0 S) Q EX ↔ Sat (R.of (L2.atI S k) >>= fun d => R.ok (d, S)) Q EX := Iff.rfl
@[simp ↓] theorem wp_poolG {k : Int} {d : D} {ρ : Env} {S : List D} {Q : Env × List D → Prop} {EX : EXT} : Sat (poolG k d ρ S) Q EX ↔ Sat (match ixN S.length k with | some j => R.ok (ρ, S.set j d) | none => R.bad) Q EX := Iff.rfl
@[simp ↓] theorem wp_lastC {g2 : D → D → Option D} {g : FE} {d : D} {ρ : Env} {S : List D} {Q : D × List D → Prop} {EX : EXT} : Sat (lastC g2 g d ρ S) Q EX ↔ Sat (g ρ S >>= fun y => R.of (g2 d y.1) >>= fun r => R.ok (r, y.2)) Q EX := Iff.rfl
@[simp ↓] theorem wp_chnE {f : FE} {h : D → FE} {ρ : Env} {S : List D} {Q : D × List D → Prop} {EX : EXT} : Sat (chnE f h ρ S) Q EX ↔ Sat (f ρ S >>= fun x => h x.1 ρ x.2) Q EX := Iff.rfl
@[simp ↓] theorem wp_lenC {cn : Str} {F : List D → R D} {f : FE} {ρ : Env} {S : List D} {Q : D × List D → Prop} {EX : EXT} : Sat (lenC cn F f ρ S) Q EX ↔ Sat (f ρ S >>= fun x => match x.1 with
  | .ins c _ _ => if c = cn then noX (F [x.1]) >>= fun d => match d with
    | .int n => if 0 ≤ n ∧ n < 2 ^ 63 then R.ok (.int n, x.2) else R.bad
    | _ => R.bad else R.bad
  | _ => R.bad) Q EX := Iff.rfl
@[simp ↓] theorem wp_rgF {f g : FE} {ρ : Env} {S : List D} {Q : List D × List D → Prop} {EX : EXT} : Sat (rgF f g ρ S) Q EX ↔ Sat (f ρ S >>= fun x => g ρ x.2 >>= fun y => R.of (rangeF [x.1, y.1]) >>= fun d => R.ok (d, y.2)) Q EX := Iff.rfl
@[simp ↓] theorem wp_extS {i : Nat} {f : FE} {ρ : Env} {S : List D} {Q : Ctl × Env × List D → Prop} {EX : EXT} : Sat (extS i f ρ S) Q EX ↔ Sat (f ρ S >>= fun x => lk ρ i >>= fun l => match l, x.1 with
  | .lst ds, .lst es => if ds.length + es.length ≤ LINE then setE ρ i (.lst (ds ++ es)) >>= fun ρ1 => R.ok (.nx, ρ1, x.2) else R.bad
  | _, _ => R.bad) Q EX := Iff.rfl
@[simp ↓] theorem wp_own4S {i j k l : Nat} {f g : FE} {ρ : Env} {S : List D} {Q : Ctl × Env × List D → Prop} {EX : EXT} : Sat (own4S i j k l f g ρ S) Q EX ↔ Sat (f ρ S >>= fun x => g ρ x.2 >>= fun y => setE ρ i (.lst []) >>= fun ρ1 => setE ρ1 j (.lst []) >>= fun ρ2 => setE ρ2 k x.1 >>= fun ρ3 => setE ρ3 l y.1 >>= fun ρ4 => R.ok (.nx, ρ4, y.2)) Q EX := Iff.rfl
@[simp ↓] theorem wp_enI {fa : FA} {ρ : Env} {S : List D} {Q : List D × List D → Prop} {EX : EXT} : Sat (enI fa ρ S) Q EX ↔ Sat (fa ρ S >>= fun x => R.ok (enD x.1, x.2)) Q EX := Iff.rfl
@[simp ↓] theorem wp_nmG {i : Nat} {d : D} {ρ : Env} {S : List D} {Q : Env × List D → Prop} {EX : EXT} : Sat (nmG i d ρ S) Q EX ↔ Sat (setE ρ i d >>= fun ρ1 => R.ok (ρ1, S)) Q EX := Iff.rfl
@[simp ↓] theorem wp_consG {g : FG} {h : FGs} {ds : List D} {ρ : Env} {S : List D} {Q : Env × List D → Prop} {EX : EXT} : Sat (consG g h ds ρ S) Q EX ↔ Sat (match ds with | [] => R.bad | d :: r => g d ρ S >>= fun ρ1 => h r ρ1.1 ρ1.2) Q EX := Iff.rfl
@[simp ↓] theorem wp_tupG {n : Nat} {g : FGs} {d : D} {ρ : Env} {S : List D} {Q : Env × List D → Prop} {EX : EXT} : Sat (tupG n g d ρ S) Q EX ↔ Sat (match d with | .tup ds => if ds.length = n then g ds ρ S else R.bad | _ => R.bad) Q EX := Iff.rfl
@[simp ↓] theorem wp_lstG {n : Nat} {g : FGs} {d : D} {ρ : Env} {S : List D} {Q : Env × List D → Prop} {EX : EXT} : Sat (lstG n g d ρ S) Q EX ↔ Sat (match d with | .lst ds => if ds.length = n then g ds ρ S else R.bad | _ => R.bad) Q EX := Iff.rfl
@[simp ↓] theorem wp_yesT {z0 : Env} {S : List D} {Q : Bool × List D → Prop} {EX : EXT} : Sat (yesT  z0 S) Q EX ↔ Sat (R.ok (true, S)) Q EX := Iff.rfl
@[simp ↓] theorem wp_nxS {ρ : Env} {S : List D} {Q : Ctl × Env × List D → Prop} {EX : EXT} : Sat (nxS  ρ S) Q EX ↔ Sat (R.ok (.nx, ρ, S)) Q EX := Iff.rfl
@[simp ↓] theorem wp_bkS {ρ : Env} {S : List D} {Q : Ctl × Env × List D → Prop} {EX : EXT} : Sat (bkS  ρ S) Q EX ↔ Sat (R.ok (.bk, ρ, S)) Q EX := Iff.rfl
@[simp ↓] theorem wp_ctS {ρ : Env} {S : List D} {Q : Ctl × Env × List D → Prop} {EX : EXT} : Sat (ctS  ρ S) Q EX ↔ Sat (R.ok (.ct, ρ, S)) Q EX := Iff.rfl
@[simp ↓] theorem wp_badS {z0 : Env} {z1 : List D} {Q : Ctl × Env × List D → Prop} {EX : EXT} : Sat (badS  z0 z1) Q EX ↔ Sat (R.bad) Q EX := Iff.rfl
@[simp ↓] theorem wp_nilA {z0 : Env} {S : List D} {Q : List D × List D → Prop} {EX : EXT} : Sat (nilA  z0 S) Q EX ↔ Sat (R.ok ([], S)) Q EX := Iff.rfl
@[simp ↓] theorem wp_noneO {z0 : Env} {S : List D} {Q : Option Int × List D → Prop} {EX : EXT} : Sat (noneO  z0 S) Q EX ↔ Sat (R.ok (none, S)) Q EX := Iff.rfl
@[simp ↓] theorem wp_end_rt {d : D} {ρ : Env} {S : List D} {Q : D → Prop} {EX : EXT} : Sat (endD (.rt d, ρ, S)) Q EX ↔ Q d := Iff.rfl
@[simp ↓] theorem wp_end_nx {ρ : Env} {S : List D} {Q : D → Prop} {EX : EXT} : Sat (endD (.nx, ρ, S)) Q EX ↔ Q .non := Iff.rfl
@[simp ↓] theorem wp_endP_rt {d : D} {ρ : Env} {S : List D} {Q : D × List D → Prop} {EX : EXT} : Sat (endP (.rt d, ρ, S)) Q EX ↔ Q (d, S) := Iff.rfl
@[simp ↓] theorem wp_endP_nx {ρ : Env} {S : List D} {Q : D × List D → Prop} {EX : EXT} : Sat (endP (.nx, ρ, S)) Q EX ↔ Q (.non, S) := Iff.rfl
/-- a def's run, from its arguments on -/
theorem wp_runF {n k : Nat} {fs : FS} {ds : List D} {Q : D → Prop} {EX : EXT} (h : ds.length = k) : Sat (runF n k fs ds) Q EX ↔ Sat (fs (startE n ds) []) (fun r => Sat (endD r) Q EX) EX := by
  unfold runF
  rw [if_pos h]
  exact wp_bind
theorem wp_runP {n k : Nat} {fs : FS} {S ds : List D} {Q : D × List D → Prop} {EX : EXT} (h : ds.length + 1 = k) : Sat (runP n k fs S ds) Q EX ↔ Sat (fs (startP n ds) S) (fun r => Sat (endP r) Q EX) EX := by
  unfold runP
  rw [if_pos h]
  exact wp_bind
theorem wp_runN {n k : Nat} {fa : FA} {ds : List D} {Q : List D → Prop} {EX : EXT} (h : ds.length = k) : Sat (runN n k fa ds) Q EX ↔ Sat (fa (startE n ds) []) (fun r => Q r.1) EX := by
  unfold runN
  rw [if_pos h]
  exact wp_bind
theorem wp_runI {nm : List Str} {n k : Nat} {fs : FS} {ds : List D} {Q : List D → Prop} {EX : EXT} (h : ds.length + 1 = k) : Sat (runI nm n k fs ds) Q EX ↔ Sat (fs (startP n ds) []) (fun r => match r.1 with | .nx => r.2.2.length = nm.length ∧ Q r.2.2 | _ => False) EX := by
  unfold runI
  rw [if_pos h, wp_bind]
  refine iff_of_eq (congrArg (fun q => Sat _ q EX) (funext fun r => ?_))
  obtain ⟨c, ρ, S⟩ := r
  cases c with
  | nx =>
    show Sat (if S.length = nm.length then R.ok S else R.bad) Q EX = _
    rw [wp_if]
    by_cases q : S.length = nm.length
    · rw [if_pos q]; exact propext ⟨fun z => ⟨q, z⟩, fun z => z.2⟩
    · rw [if_neg q]; exact propext ⟨fun z => z.elim, fun z => q z.1⟩
  | _ => rfl
theorem eq_sat {α : Type} {r : R α} {a : α} (h : Sat r (fun x => x = a) EX0) : r = R.ok a := by
  cases r with
  | ok x => exact congrArg R.ok h
  | exc _ _ _ => exact h.elim
  | bad => exact h.elim
/-! operators on plain data -/
@[simp] theorem addD_int (a b : Int) : addD (.int a) (.int b) = some (.int (a + b)) := rfl
@[simp] theorem subD_int (a b : Int) : subD (.int a) (.int b) = some (.int (a - b)) := rfl
@[simp] theorem mulD_int (a b : Int) : mulD (.int a) (.int b) = if (-(2 ^ 64) < a ∧ a < 2 ^ 64) ∨ (-(2 ^ 64) < b ∧ b < 2 ^ 64) then some (.int (a * b)) else none := by
  show (if (-(2 ^ 64) < a ∧ a < 2 ^ 64) ∨ (-(2 ^ 64) < b ∧ b < 2 ^ 64) then some (D.int (a * b)) else none).or ((none : Option D).or (none : Option D)) = _
  simp only [Option.or_none]
@[simp] theorem fdivD_int (a b : Int) : fdivD (.int a) (.int b) = if 0 < b ∧ b < 1073741824 then some (.int (a / b)) else none := rfl
@[simp] theorem modD_int (a b : Int) : modD (.int a) (.int b) = if 0 < b then some (.int (a % b)) else none := rfl
@[simp] theorem powD_int (a b : Int) : powD (.int a) (.int b) = if 0 ≤ b ∧ b ≤ 1000000 ∧ a.natAbs < 2 ^ 64 then some (.int (a ^ b.toNat)) else none := rfl
@[simp] theorem divmodD_int (a b : Int) : divmodD [.int a, .int b] = if 0 < b ∧ b < 1073741824 then some (.tup [.int (a / b), .int (a % b)]) else none := rfl
@[simp] theorem negD_int (a : Int) : negD (.int a) = some (.int (-a)) := rfl
@[simp] theorem ltD_int (a b : Int) : ltD (.int a) (.int b) = some (.bl (decide (a < b))) := rfl
@[simp] theorem leD_int (a b : Int) : leD (.int a) (.int b) = some (.bl (decide (a ≤ b))) := rfl
@[simp] theorem gtD_int (a b : Int) : gtD (.int a) (.int b) = some (.bl (decide (b < a))) := rfl
@[simp] theorem geD_int (a b : Int) : geD (.int a) (.int b) = some (.bl (decide (b ≤ a))) := rfl
@[simp] theorem neD_int (a b : Int) : neD (.int a) (.int b) = some (.bl (!decide (a = b))) := by
  unfold neD eqP toPy
  simp [SeqAt.shaped, PyData.eqv, PyData.canLay0, PyData.depth]
  rfl
@[simp] theorem eqD_int (a b : Int) : eqD (.int a) (.int b) = some (.bl (decide (a = b))) := by
  unfold eqD eqP toPy
  simp [SeqAt.shaped, PyData.eqv, PyData.canLay0, PyData.depth]
  rfl
@[simp] theorem addD_lst (a b : List D) : addD (.lst a) (.lst b) = if a.length + b.length ≤ LINE then some (.lst (a ++ b)) else none := by
  show (none : Option D).or ((none : Option D).or ((addL (.lst a) (.lst b)).or (addT (.lst a) (.lst b)))) = _
  simp only [addL, addT, Option.none_or, Option.or_none]
@[simp] theorem addD_tup (a b : List D) : addD (.tup a) (.tup b) = if a.length + b.length ≤ LINE then some (.tup (a ++ b)) else none := by
  show (none : Option D).or ((none : Option D).or ((addL (.tup a) (.tup b)).or (addT (.tup a) (.tup b)))) = _
  simp only [addL, addT, Option.none_or, Option.or_none]
@[simp] theorem idxD_lst (a : List D) (i : Int) : idxD (.lst a) (.int i) = L2.atI a i := by
  show (L2.atI a i).or ((none : Option D).or (none : Option D)) = _
  simp only [Option.or_none]
@[simp] theorem idxD_tup (a : List D) (i : Int) : idxD (.tup a) (.int i) = L2.atI a i := by
  show (none : Option D).or ((L2.atI a i).or (none : Option D)) = _
  simp only [Option.or_none, Option.none_or]
@[simp] theorem idxD_scr (a : List Int) (i : Int) : idxD (.scr a) (.int i) = (L2.atI a i).map .int := by
  show ((L2.atI a i).map D.int).or ((none : Option D).or (none : Option D)) = _
  simp only [Option.or_none]
@[simp] theorem truD_bl (b : Bool) : truD (.bl b) = some b := rfl
@[simp] theorem truD_int (i : Int) : truD (.int i) = some (i != 0) := rfl
@[simp] theorem lenD_lst (ds : List D) : lenD [.lst ds] = some (.int (ds.length : Nat)) := rfl
@[simp] theorem lenD_tup (ds : List D) : lenD [.tup ds] = some (.int (ds.length : Nat)) := rfl
@[simp] theorem lenD_scr (ds : List Int) : lenD [.scr ds] = some (.int (ds.length : Nat)) := rfl
@[simp] theorem min2D_int (i j : Int) : min2D [.int i, .int j] = some (.int (if j < i then j else i)) := rfl
@[simp] theorem max2D_int (i j : Int) : max2D [.int i, .int j] = some (.int (if j > i then j else i)) := rfl
@[simp] theorem absD_int (i : Int) : absD [.int i] = some (.int (if i < 0 then -i else i)) := rfl
@[simp] theorem tupD_lst (ds : List D) : tupD [.lst ds] = some (.tup ds) := rfl
@[simp] theorem tupD_tup (ds : List D) : tupD [.tup ds] = some (.tup ds) := rfl
@[simp] theorem itemsL_lst (ds : List D) : itemsL (.lst ds) = some ds := rfl
@[simp] theorem itemsL_scr (ns : List Int) : itemsL (.scr ns) = some (ns.map .int) := rfl
@[simp] theorem itemsT_tup (ds : List D) : itemsT (.tup ds) = some ds := rfl
@[simp] theorem itemsA_tup (ds : List D) : itemsA (.tup ds) = some ds := rfl
@[simp] theorem itemsA_lst (ds : List D) : itemsA (.lst ds) = some ds := rfl
@[simp] theorem rng1D_int (n : Int) : rng1D [.int n] = if -(2 ^ 62) ≤ n ∧ n < 2 ^ 62 then some ((List.range n.toNat).map fun i => D.int (0 + (i : Nat))) else none := rfl
@[simp] theorem rng2D_int (a b : Int) : rng2D [.int a, .int b] = if -(2 ^ 62) ≤ a ∧ a < 2 ^ 62 ∧ -(2 ^ 62) ≤ b ∧ b < 2 ^ 62 then some ((List.range (b - a).toNat).map fun i => D.int (a + (i : Nat))) else none := rfl
theorem allD_lst (ds : List D) : allD [.lst ds] = (D.bls ds).map fun ns => .bl (ns.all id) := rfl
@[simp] theorem isiD_int (t : String → Option Bool) (u : Str → Option Bool) (i : Int) : isiD t u (.int i) = (t "int").map .bl := rfl
@[simp] theorem isiD_bl (t : String → Option Bool) (u : Str → Option Bool) (i : Bool) : isiD t u (.bl i) = (t "bool").map .bl := rfl
@[simp] theorem isiD_non (t : String → Option Bool) (u : Str → Option Bool) : isiD t u .non = (t "NoneType").map .bl := rfl
@[simp] theorem isiD_str (t : String → Option Bool) (u : Str → Option Bool) (s : Str) : isiD t u (.str s) = (t "str").map .bl := rfl
@[simp] theorem isiD_tup (t : String → Option Bool) (u : Str → Option Bool) (s : List D) : isiD t u (.tup s) = (t "tuple").map .bl := rfl
@[simp] theorem isiD_lst (t : String → Option Bool) (u : Str → Option Bool) (s : List D) : isiD t u (.lst s) = (t "list").map .bl := rfl
@[simp] theorem isiD_scr (t : String → Option Bool) (u : Str → Option Bool) (s : List Int) : isiD t u (.scr s) = (t "list").map .bl := rfl
@[simp] theorem isiD_dic (t : String → Option Bool) (u : Str → Option Bool) (s : List Key) (v : List D) : isiD t u (.dic s v) = (t "dict").map .bl := rfl
@[simp] theorem isiD_ins (t : String → Option Bool) (u : Str → Option Bool) (c : Str) (n : List Str) (v : List D) : isiD t u (.ins c n v) = (u c).map .bl := rfl
/-! an item at a place -/
theorem atI_of {α : Type} {xs : List α} {i : Int} (h0 : 0 ≤ i) (h1 : i < xs.length) : ∃ d, L2.atI xs i = some d ∧ d ∈ xs ∧ xs[i.toNat]? = some d := by
  have h2 : i.toNat < xs.length := by omega
  refine ⟨xs[i.toNat], ?_, List.getElem_mem h2, List.getElem?_eq_getElem h2⟩
  unfold L2.atI ixN
  rw [if_pos h0, if_pos h1]
  exact List.getElem?_eq_getElem h2
inductive All2 {α β : Type} (r : α → β → Prop) : List α → List β → Prop
  | nil : All2 r [] []
  | cons {a : α} {b : β} {as : List α} {bs : List β} : r a b → All2 r as bs → All2 r (a :: as) (b :: bs)
theorem All2.length_eq {α β : Type} {r : α → β → Prop} {as : List α} {bs : List β} (h : All2 r as bs) : as.length = bs.length := by
  induction h with
  | nil => rfl
  | cons _ _ ih => simp [ih]
theorem All2.eq_map {α β : Type} {f : α → β} {as : List α} {bs : List β} (h : All2 (fun a b => b = f a) as bs) : bs = as.map f := by
  induction h with
  | nil => rfl
  | cons h _ ih => simp [h, ih]
/-! loops -/
theorem wp_for {g : FG} {fb : FS} {Q : Ctl × Env × List D → Prop} {EX : EXT} (ds : List D) (I : Nat → Env → List D → Prop)
    (step : ∀ i d ρ S, ds[i]? = some d → I i ρ S → Sat (g d ρ S) (fun r => Sat (fb r.1 r.2) (fun c => match c.1 with
      | .nx => I (i + 1) c.2.1 c.2.2
      | .ct => I (i + 1) c.2.1 c.2.2
      | .bk => Q (.nx, c.2.1, c.2.2)
      | .rt d => Q (.rt d, c.2.1, c.2.2)) EX) EX) (fin : ∀ ρ S, I ds.length ρ S → Q (.nx, ρ, S)) {ρ : Env} {S : List D} (h0 : I 0 ρ S) : Sat (forL g fb ds ρ S) Q EX := by
  have key : ∀ (n : Nat) (k : Nat), k + n = ds.length → ∀ ρ S, I k ρ S → Sat (forL g fb (ds.drop k) ρ S) Q EX := by
    intro n
    induction n with
    | zero =>
      intro k hk ρ S hI
      rw [List.drop_eq_nil_of_le (by omega)]
      have : k = ds.length := by omega
      exact fin ρ S (this ▸ hI)
    | succ n ih =>
      intro k hk ρ S hI
      have hlt : k < ds.length := by omega
      rw [List.drop_eq_getElem_cons hlt]
      show Sat (g ds[k] ρ S >>= fun ρ1 => fb ρ1.1 ρ1.2 >>= fun c => match c.1 with
        | .nx => forL g fb (ds.drop (k + 1)) c.2.1 c.2.2
        | .ct => forL g fb (ds.drop (k + 1)) c.2.1 c.2.2
        | .bk => R.ok (.nx, c.2.1, c.2.2)
        | .rt d => R.ok (.rt d, c.2.1, c.2.2)) Q EX
      rw [sat_bind]
      refine (step k ds[k] ρ S (List.getElem?_eq_getElem hlt) hI).imp fun r hr => ?_
      rw [sat_bind]
      refine hr.imp fun c hc => ?_
      obtain ⟨c1, ρ1, S1⟩ := c
      cases c1 with
      | nx => exact ih (k + 1) (by omega) ρ1 S1 hc
      | ct => exact ih (k + 1) (by omega) ρ1 S1 hc
      | bk => exact hc
      | rt d => exact hc
  have := key ds.length 0 (by omega) ρ S h0
  rwa [List.drop_zero] at this
def lpK (g : FG) (fb : FS) (r : List D) (c : Ctl × Env × List D) : R (Ctl × Env × List D) := match c.1 with
  | .nx => forL g fb r c.2.1 c.2.2
  | .ct => forL g fb r c.2.1 c.2.2
  | .bk => R.ok (.nx, c.2.1, c.2.2)
  | .rt d => R.ok (.rt d, c.2.1, c.2.2)
@[simp ↓] theorem wp_lpK_nx {g : FG} {fb : FS} {r : List D} {ρ : Env} {S : List D} {Q : Ctl × Env × List D → Prop} {EX : EXT} : Sat (lpK g fb r (.nx, ρ, S)) Q EX ↔ Sat (forL g fb r ρ S) Q EX := Iff.rfl
@[simp ↓] theorem wp_lpK_ct {g : FG} {fb : FS} {r : List D} {ρ : Env} {S : List D} {Q : Ctl × Env × List D → Prop} {EX : EXT} : Sat (lpK g fb r (.ct, ρ, S)) Q EX ↔ Sat (forL g fb r ρ S) Q EX := Iff.rfl
@[simp ↓] theorem wp_lpK_bk {g : FG} {fb : FS} {r : List D} {ρ : Env} {S : List D} {Q : Ctl × Env × List D → Prop} {EX : EXT} : Sat (lpK g fb r (.bk, ρ, S)) Q EX ↔ Q (.nx, ρ, S) := Iff.rfl
@[simp ↓] theorem wp_lpK_rt {g : FG} {fb : FS} {r : List D} {d : D} {ρ : Env} {S : List D} {Q : Ctl × Env × List D → Prop} {EX : EXT} : Sat (lpK g fb r (.rt d, ρ, S)) Q EX ↔ Q (.rt d, ρ, S) := Iff.rfl
/-- a loop, turn by turn (not for simp by itself) -/
theorem wp_for_cons {g : FG} {fb : FS} {d : D} {r : List D} {ρ : Env} {S : List D} {Q : Ctl × Env × List D → Prop} {EX : EXT} : Sat (forL g fb (d :: r) ρ S) Q EX ↔ Sat (g d ρ S) (fun ρ1 => Sat (fb ρ1.1 ρ1.2) (fun c => Sat (lpK g fb r c) Q EX) EX) EX := by
  show Sat (g d ρ S >>= fun ρ1 => fb ρ1.1 ρ1.2 >>= lpK g fb r) Q EX ↔ _
  rw [wp_bind]
  exact iff_of_eq (congrArg (fun q => Sat _ q EX) (funext fun a => propext wp_bind))
theorem wp_for_nil {g : FG} {fb : FS} {ρ : Env} {S : List D} {Q : Ctl × Env × List D → Prop} {EX : EXT} : Sat (forL g fb [] ρ S) Q EX ↔ Q (.nx, ρ, S) := Iff.rfl
theorem bls_true {α : Type} (l : List α) : D.bls (l.map fun _ => D.bl true) = some (l.map fun _ => true) := by
  induction l with
  | nil => rfl
  | cons a r ih => simp [D.bls, ih]
theorem all_true {α : Type} (l : List α) : allD [.lst (l.map fun _ => D.bl true)] = some (.bl true) := by
  rw [allD_lst, bls_true]
  simp
/-- a comprehension without tests: each item of the result belongs to its item -/
theorem wp_lc {vs : List Nat} {g : FG} {te : FE} {ρ : Env} {Q : List D × List D → Prop} {EX : EXT} (I : List D → Prop) (rel : D → D → Prop) (ds : List D) (hl : ds.length ≤ LINE)
    (step : ∀ d ∈ ds, ∀ S, I S → Sat (g d (wipeE ρ vs) S) (fun r => Sat (te r.1 r.2) (fun y => I y.2 ∧ rel d y.1) EX) EX)
    (fin : ∀ rs S, I S → All2 rel ds rs → Q (rs, S)) {S : List D} (h0 : I S) : Sat (lcL vs g yesT te ρ ds S []) Q EX := by
  have key : ∀ (as bs : List D) (S : List D) (rs : List D), ds = as ++ bs → I S → All2 rel as rs → Sat (lcL vs g yesT te ρ bs S rs) Q EX := by
    intro as bs
    induction bs generalizing as with
    | nil =>
      intro S rs e hI hr
      rw [List.append_nil] at e
      exact fin rs S hI (e ▸ hr)
    | cons b bs ih =>
      intro S rs e hI hr
      show Sat (g b (wipeE ρ vs) S >>= fun ρ1 => yesT ρ1.1 ρ1.2 >>= fun k => if k.1 then te ρ1.1 k.2 >>= fun y => (if rs.length < LINE then lcL vs g yesT te ρ bs y.2 (rs ++ [y.1]) else R.bad) else lcL vs g yesT te ρ bs k.2 rs) Q EX
      rw [sat_bind]
      refine (step b (by rw [e]; simp) S hI).imp fun r hr1 => ?_
      show Sat (te r.1 r.2 >>= fun y => (if rs.length < LINE then lcL vs g yesT te ρ bs y.2 (rs ++ [y.1]) else R.bad)) Q EX
      rw [sat_bind]
      refine hr1.imp fun y hy => ?_
      have h1 : rs.length = as.length := hr.length_eq.symm
      have h2 : as.length < ds.length := by rw [e]; simp
      rw [if_pos (by omega)]
      have happ : ∀ {l1 l2 : List D}, All2 rel l1 l2 → All2 rel (l1 ++ [b]) (l2 ++ [y.1]) := by
        intro l1 l2 h
        induction h with
        | nil => exact .cons hy.2 .nil
        | cons h _ ih => exact .cons h ih
      exact ih (as ++ [b]) y.2 (rs ++ [y.1]) (by rw [e]; simp) hy.1 (happ hr)
  exact key [] ds S [] rfl h0 .nil
end PL
set_option Elab.async false
set_option linter.all false
set_option maxRecDepth 100000
set_option maxHeartbeats 4000000
/-! The helpers that all laws share: what their functions give. -/
namespace LW
open PySem PySem.Spec PyProof.Rows L2 ClX PL
abbrev nm (i : Nat) : FE := fun ρ S => lk ρ i >>= fun d => R.ok (d, S)
def f_cell : FS := (seqS (ifS (tstB (bin2 ltD (nm 1) (callE lenD (consA (nm 0) nilA)))) (retS (bin2 idxD (nm 0) (nm 1))) nxS)
  (seqS (asgS (bin2 modD (bin2 mulD (fun _ S => R.ok (.int 70009, S)) (bin2 addD (bin2 addD (bin2 mulD (nm 1) (nm 1)) (bin2 mulD (fun _ S => R.ok (.int 7, S)) (nm 1))) (fun _ S => R.ok (.int 19, S)))) (fun _ S => R.ok (.int 2147483179, S))) (nmG 2))
  (seqS (forS (seqI itemsL (slcE (nm 0) noneO (someO (fun _ S => R.ok (.int 3, S))))) (nmG 3) (asgS (bin2 modD (bin2 addD (bin2 mulD (nm 2) (fun _ S => R.ok (.int 42019, S))) (nm 3)) (fun _ S => R.ok (.int 2147483179, S))) (nmG 2)))
  (retS (nm 2)))))
abbrev F_cell := runF 4 2 f_cell
def f_pool : FA := (seqN (asgS (ifE (orT (tstB (bin2 ltD (nm 0) (fun _ S => R.ok (.int 0, S)))) (tstB (bin2 geD (nm 0) (bin2 powD (fun _ S => R.ok (.int 10, S)) (fun _ S => R.ok (.int 18, S)))))) (callE absD (consA (nm 0) nilA)) (fun _ S => R.ok (.int 0, S))) (nmG 1))
  (lstF (consA (bin2 modD (nm 0) (fun _ S => R.ok (.int 2147483179, S))) (consA (nm 1) (consA (fun _ S => R.ok (.int 0, S)) nilA)))))
abbrev F_pool := runN 2 1 f_pool
def f_draw : FS := (seqS (asgS (bin2 addD (poolE 2) (fun _ S => R.ok (.int 1, S))) (poolG 2))
  (seqS (asgS (poolE 0) (nmG 2))
  (seqS (asgS (bin2 modD (bin2 addD (bin2 addD (bin2 mulD (nm 2) (bin2 addD (bin2 modD (nm 2) (fun _ S => R.ok (.int 40993, S))) (fun _ S => R.ok (.int 30013, S)))) (bin2 mulD (fun _ S => R.ok (.int 70001, S)) (poolE 2))) (fun _ S => R.ok (.int 9, S))) (fun _ S => R.ok (.int 2147483179, S))) (poolG 0))
  (seqS (ifS (tstB (bin2 gtD (poolE 1) (fun _ S => R.ok (.int 0, S)))) (seqS (asgS (callE divmodD (consA (poolE 1) (consA (nm 1) nilA))) (tupG 2 (consG (poolG 1) (consG (nmG 3) nilG))))
  (retS (nm 3))) nxS)
  (retS (bin2 modD (bin2 fdivD (poolE 0) (fun _ S => R.ok (.int 64, S))) (nm 1)))))))
abbrev F_draw := runP 4 2 f_draw
def f_flows : FS := (seqS (own4S 4 5 6 7 (fun _ S => R.ok (.int 0, S)) (nm 3))
  (seqS (forS (rngI rng1D (consA (nm 1) nilA)) (nmG 8) (seqS (asgS (callP F_draw (consA (fun _ S => R.ok (.int 6, S)) nilA)) (nmG 9))
  (seqS (asgS (callE min2D (consA (nm 7) (consA (bin2 idxD (ofF (lstF (consA (fun _ S => R.ok (.int 0, S)) (consA (fun _ S => R.ok (.int 0, S)) (consA (fun _ S => R.ok (.int 1, S)) (consA (nm 2) (consA (callP F_draw (consA (bin2 addD (nm 2) (fun _ S => R.ok (.int 1, S))) nilA)) (consA (callP F_draw (consA (bin2 addD (nm 2) (fun _ S => R.ok (.int 1, S))) nilA)) nilA)))))))) (nm 9)) nilA))) (nmG 10))
  (seqS (parS 6 7 (consA (bin2 addD (nm 6) (nm 10)) (consA (bin2 subD (nm 7) (nm 10)) nilA)))
  (seqS (asgS (callP F_draw (consA (fun _ S => R.ok (.int 6, S)) nilA)) (nmG 9))
  (seqS (asgS (bin2 idxD (ofF (lstF (consA (fun _ S => R.ok (.int 0, S)) (consA (nm 6) (consA (callE min2D (consA (fun _ S => R.ok (.int 1, S)) (consA (nm 6) nilA))) (consA (callP F_draw (consA (bin2 addD (nm 6) (fun _ S => R.ok (.int 1, S))) nilA)) (consA (callP F_draw (consA (bin2 addD (nm 6) (fun _ S => R.ok (.int 1, S))) nilA)) (consA (callE min2D (consA (nm 6) (consA (nm 10) nilA))) nilA)))))))) (nm 9)) (nmG 11))
  (seqS (appS 4 (nm 10))
  (seqS (appS 5 (nm 11))
  (asgS (bin2 subD (nm 6) (nm 11)) (nmG 6))))))))))
  (retS (ofF (lstF (consA (callE tupD (consA (nm 4) nilA)) (consA (callE tupD (consA (nm 5) nilA)) nilA)))))))
abbrev F_flows := runP 12 4 f_flows
abbrev P31 : Int := 2147483179
def PoolOk (S : List D) : Prop := ∃ a b c : Int, S = [.int a, .int b, .int c] ∧ 0 ≤ a ∧ a < P31 ∧ 0 ≤ b ∧ 0 ≤ c
theorem atI3 (x y z : D) : L2.atI [x, y, z] 0 = some x ∧ L2.atI [x, y, z] 1 = some y ∧ L2.atI [x, y, z] 2 = some z := ⟨rfl, rfl, rfl⟩
theorem ixN3 : ixN 3 0 = some 0 ∧ ixN 3 1 = some 1 ∧ ixN 3 2 = some 2 := ⟨rfl, rfl, rfl⟩
theorem draw_spec {S : List D} {n : Int} (hS : PoolOk S) (h0 : 0 < n) (h1 : n < 1073741824) : Sat (F_draw S [.int n]) (fun r => ∃ v : Int, r.1 = .int v ∧ 0 ≤ v ∧ v < n ∧ PoolOk r.2) EX0 := by
  obtain ⟨a, b, c, rfl, ha, ha2, hb, hc⟩ := hS
  refine (wp_runP rfl).mpr ?_
  unfold f_draw
  simp [startP, startE, atI3, ixN3]
  refine ⟨.inr ⟨by omega, by omega⟩, ?_⟩
  have hp : PoolOk [D.int ((a * (a % 40993 + 30013) + 70001 * (c + 1) + 9) % 2147483179), D.int (b / n), D.int (c + 1)] := ⟨_, _, _, rfl, Int.emod_nonneg _ (by decide), Int.emod_lt_of_pos _ (by decide), Int.ediv_nonneg hb (by omega), by omega⟩
  have hq : PoolOk [D.int ((a * (a % 40993 + 30013) + 70001 * (c + 1) + 9) % 2147483179), D.int b, D.int (c + 1)] := ⟨_, _, _, rfl, Int.emod_nonneg _ (by decide), Int.emod_lt_of_pos _ (by decide), hb, by omega⟩
  split
  · exact ⟨⟨h0, h1⟩, Int.emod_nonneg _ (by omega), Int.emod_lt_of_pos _ h0, hp⟩
  · exact ⟨h0, Int.emod_nonneg _ (by omega), Int.emod_lt_of_pos _ h0, hq⟩
/-! sums of the first ones -/
def pre (a : List Int) (k : Nat) : Int := (a.take k).sum
theorem pre_zero (a : List Int) : pre a 0 = 0 := by simp [pre]
theorem pre_all (a : List Int) {k : Nat} (h : a.length ≤ k) : pre a k = a.sum := by simp [pre, List.take_of_length_le h]
theorem pre_snoc (a : List Int) (x : Int) {k : Nat} (h : k ≤ a.length) : pre (a ++ [x]) k = pre a k := by
  unfold pre
  rw [List.take_append_of_le_length h]
theorem pre_succ {a : List Int} {i : Nat} {x : Int} (h : a[i]? = some x) : pre a (i + 1) = pre a i + x := by
  unfold pre
  obtain ⟨h1, h2⟩ := List.getElem?_eq_some_iff.mp h
  rw [List.take_succ_eq_append_getElem h1, h2]
  simp
theorem sum_nn : ∀ {l : List Int}, (∀ x ∈ l, 0 ≤ x) → 0 ≤ l.sum
  | [], _ => by simp
  | x :: r, h => by
    have h1 := h x (by simp)
    have h2 := sum_nn (l := r) fun y hy => h y (by simp [hy])
    simp
    omega
structure Flow (a b : List Int) (m : Int) : Prop where
  len : a.length = b.length
  ca : ∀ x ∈ a, 0 ≤ x
  cb : ∀ x ∈ b, 0 ≤ x
  le : ∀ k, k ≤ a.length → pre b k ≤ pre a k
  top : a.sum ≤ m
theorem Flow.nil {m : Int} (h : 0 ≤ m) : Flow [] [] m := ⟨rfl, by simp, by simp, by simp [pre], by simpa using h⟩
theorem Flow.snoc {a b : List Int} {m x y : Int} (f : Flow a b m) (hx : 0 ≤ x) (hx2 : a.sum + x ≤ m) (hy : 0 ≤ y) (hy2 : y ≤ a.sum - b.sum + x) : Flow (a ++ [x]) (b ++ [y]) m where
  len := by simp [f.len]
  ca := by
    intro z hz
    rcases List.mem_append.mp hz with h | h
    · exact f.ca z h
    · simp at h; omega
  cb := by
    intro z hz
    rcases List.mem_append.mp hz with h | h
    · exact f.cb z h
    · simp at h; omega
  le := by
    intro k hk
    simp at hk
    by_cases h : k ≤ a.length
    · rw [pre_snoc a x h, pre_snoc b y (by rw [← f.len]; exact h)]
      exact f.le k h
    · have := f.len
      rw [pre_all _ (by simp; omega), pre_all _ (by simp; omega)]
      simp
      omega
  top := by simpa using hx2
theorem rng_at {n i : Nat} {d : D} {lo : Int} (h : ((List.range n).map fun i => D.int (lo + (i : Nat)))[i]? = some d) : i < n ∧ d = .int (lo + i) := by
  rw [List.getElem?_map] at h
  cases q : (List.range n)[i]? with
  | none => rw [q] at h; cases h
  | some k =>
    rw [q] at h
    obtain ⟨h1, h2⟩ := List.getElem?_eq_some_iff.mp q
    simp at h1 h2 h
    subst h2
    exact ⟨h1, h.symm⟩
abbrev intL (a : List Int) : List D := a.map D.int
theorem flows_spec {S : List D} {n most m : Int} (hS : PoolOk S) (h0 : 0 ≤ n) (h1 : n ≤ 1000) (hm0 : 0 ≤ most) (hm1 : most < 1000000) (hp0 : 0 ≤ m) (hp1 : m < 1000000) :
    Sat (F_flows S [.int n, .int most, .int m]) (fun r => ∃ a b : List Int, r.1 = .lst [.tup (intL a), .tup (intL b)] ∧ (a.length : Int) = n ∧ Flow a b m ∧ PoolOk r.2) EX0 := by
  refine (wp_runP rfl).mpr ?_
  unfold f_flows
  simp [startP, startE]
  refine ⟨by omega, ?_⟩
  refine wp_for _ (fun i ρ S => ∃ (a b : List Int) (here : Int) (o1 o2 o3 o4 : Option D), ρ = [none, some (D.int n), some (D.int most), some (D.int m), some (.lst (intL a)), some (.lst (intL b)), some (.int here), some (.int (m - a.sum)), o1, o2, o3, o4] ∧ a.length = i ∧ Flow a b m ∧ here = a.sum - b.sum ∧ 0 ≤ here ∧ PoolOk S) ?_ ?_ ⟨[], [], 0, none, none, none, none, by simp [intL], rfl, Flow.nil hp0, rfl, by omega, hS⟩
  · rintro i d ρ S hd ⟨a, b, here, o1, o2, o3, o4, rfl, hl, hf, hh, hh0, hS⟩
    have ht := hf.top
    have hbs := sum_nn hf.cb
    obtain ⟨hin, rfl⟩ := rng_at (lo := 0) (by simpa using hd)
    simp
    refine (draw_spec hS (by omega) (by omega)).imp ?_
    rintro ⟨_, S1⟩ ⟨w, rfl, hw0, hw1, hS1⟩
    simp
    refine (draw_spec hS1 (by omega) (by omega)).imp ?_
    rintro ⟨_, S2⟩ ⟨u1, rfl, hu0, hu1, hS2⟩
    simp
    refine (draw_spec hS2 (by omega) (by omega)).imp ?_
    rintro ⟨_, S3⟩ ⟨u2, rfl, hv0, hv1, hS3⟩
    simp
    obtain ⟨x0, e0, hm, _⟩ := atI_of (xs := [D.int 0, D.int 0, D.int 1, D.int most, D.int u1, D.int u2]) (i := w) hw0 (by simpa using hw1)
    obtain ⟨x, rfl, hx0, hx1⟩ : ∃ x : Int, x0 = .int x ∧ 0 ≤ x ∧ x ≤ most + 1 := by
      simp at hm
      rcases hm with rfl | rfl | rfl | rfl | rfl <;> exact ⟨_, rfl, by omega, by omega⟩
    rw [e0]
    simp [LINE]
    generalize hx : (if x < m - a.sum then x else m - a.sum) = new
    have hn0 : 0 ≤ new := by split at hx <;> omega
    have hn1 : a.sum + new ≤ m := by split at hx <;> omega
    refine (draw_spec hS3 (by omega) (by omega)).imp ?_
    rintro ⟨_, S4⟩ ⟨w2, rfl, hw0, hw1, hS4⟩
    simp
    refine (draw_spec hS4 (by omega) (by omega)).imp ?_
    rintro ⟨_, S5⟩ ⟨u3, rfl, hu0, hu1, hS5⟩
    simp
    refine (draw_spec hS5 (by omega) (by omega)).imp ?_
    rintro ⟨_, S6⟩ ⟨u4, rfl, hv0, hv1, hS6⟩
    simp
    obtain ⟨y0, e1, hm, _⟩ := atI_of (xs := [D.int 0, D.int (here + new), D.int (if here + new < 1 then here + new else 1), D.int u3, D.int u4, D.int (if new < here + new then new else here + new)]) (i := w2) hw0 (by simpa using hw1)
    obtain ⟨y, rfl, hy0, hy1⟩ : ∃ y : Int, y0 = .int y ∧ 0 ≤ y ∧ y ≤ here + new := by
      simp at hm
      rcases hm with rfl | rfl | rfl | rfl | rfl | rfl <;> first | exact ⟨_, rfl, by omega, by omega⟩ | exact ⟨_, rfl, by split <;> omega, by split <;> omega⟩
    rw [e1]
    simp [LINE]
    have hlb := hf.len
    refine ⟨by omega, by omega, a ++ [new], b ++ [y], here + new - y, ⟨by simp, by simp, rfl, by simp; omega⟩, by simp; omega, hf.snoc hn0 hn1 hy0 (by omega), by simp; omega, by omega, hS6⟩
  · rintro ρ S ⟨a, b, here, o1, o2, o3, o4, rfl, hl, hf, hh, hh0, hS⟩
    simp [LINE]
    refine ⟨a, b, ⟨rfl, rfl⟩, ?_, hf, hS⟩
    simp at hl
    omega
end LW
set_option Elab.async false
set_option linter.all false
set_option maxRecDepth 100000
set_option maxHeartbeats 4000000
/-! An own class's defs that the language calls: properties, [], str, repr; texts joined. -/
namespace PL
open PySem PySem.Spec PyProof.Rows L2 ClX
section
variable {X : Cx} {z : Z} {O OI OM OO OL : List Nat} {EX : EXT} {a b c e o : Expr} {es : List Expr} {f g h : FE} {fa ga fk : FA} {fs gs : FS} {pos p apos : Pos}
variable {B : List Addr} {P : List (Nat × Addr)} {σ σ' : L2.St} {H H' : Hp} {ρ ρ' : Env} {S S' : List D} {x m : Str}
variable {k : Nat} {fA C : Addr} {fd : FuncData} {ps ks : List Str}
/-! ### e[i], an instance -/
def itmD (cn : Str) (F : List D → R D) (f g : FE) : FE := fun ρ S => f ρ S >>= fun x => g ρ x.2 >>= fun y => match x.1 with
  | .ins c _ _ => if c = cn then noX (F [x.1, y.1]) >>= fun d => R.ok (d, y.2) else R.bad
  | _ => R.bad
/-! ### str(e), repr(e), an instance -/
def strC (cn : Str) (F : List D → R D) (f : FE) : FE := fun ρ S => f ρ S >>= fun x => match x.1 with
  | .ins c _ _ => if c = cn then noX (F [x.1]) >>= fun d => match d with
    | .str y => R.ok (.str y, x.2)
    | _ => R.bad else R.bad
  | _ => R.bad
/-! ### f-strings -/
abbrev FJ := Str → Env → List D → R (Str × List D)
def nilJ : FJ := fun acc _ S => R.ok (acc, S)
def consJ (f : FE) (h : FJ) : FJ := fun acc ρ S => f ρ S >>= fun x => match x.1 with
  | .str y => if (acc ++ y).length ≤ LINE then h (acc ++ y) ρ x.2 else R.bad
  | _ => R.bad
def EvJ (z : Z) (O : List Nat) (EX : EXT) (ts : List TE) (f : FJ) : Prop :=
  ∀ B P σ H ρ S acc (Q : Str → Hp → Prop), P.map (·.1) = O → Rel z B P σ H ρ S → Sat (f acc ρ S) (fun r => ∀ H', Grow z H H' → Rel z B P σ H' ρ r.2 → Q r.1 H') EX → tJs ts acc σ H Q
structure PJd (X : Cx) (z : Z) (O : List Nat) (EX : EXT) (es : List Expr) (f : FJ) : Prop where
  ex : ∃ ts, PJ X es ts ∧ EvJ z O EX ts f
theorem pjd_nil : PJd X z O EX [] nilJ := ⟨_, .nil, fun B P σ H ρ S acc Q hP rr hs => hs H Grow.refl rr⟩
theorem pjd_cons {fj : FJ} (ha : PD X z O EX e f) (hr : PJd X z O EX es fj) : PJd X z O EX (e :: es) (consJ f fj) := by
  obtain ⟨t, pt, q⟩ := ha.ex
  obtain ⟨ts, pts, qs⟩ := hr.ex
  refine ⟨_, .cons pt pts, fun B P σ H ρ S acc Q hP rr hs => ?_⟩
  refine q B P σ H ρ S _ hP rr ((sat_bind.mp hs).imp fun w hw v H1 g1 r1 hv => ?_)
  obtain ⟨w1, w2⟩ := w
  cases w1 with
  | str y =>
    dsimp only at hw
    split at hw
    · rename_i l
      cases hv
      exact ⟨y, rfl, line_le l, qs B P σ H1 ρ w2 _ Q hP r1 (hw.imp fun r hr H' g' r' => hr H' (g1.trans g') r')⟩
    · exact hw.elim
  | _ => exact hw.elim
def fmtD : D → Option D
  | .str y => if y.length ≤ LINE then some (.str y) else none
  | .int i => if i.natAbs.log2 < 1920 then some (.str (toString i)) else none
  | _ => none
def jnE (h : FJ) : FE := fun ρ S => h Str.empty ρ S >>= fun r => R.ok (.str r.1, r.2)
theorem pd_joined {v1 v2 : Expr} {rest : List Expr} {fj : FJ} (ha : PJd X z O EX (v1 :: v2 :: rest) fj) : PD X z O EX (.JoinedStr (v1 :: v2 :: rest) pos) (jnE fj) := by
  obtain ⟨ts, pts, qs⟩ := ha.ex
  refine ⟨_, pe_joined pts, fun B P σ H ρ S Q hP rr hs => ?_⟩
  exact qs B P σ H ρ S _ _ hP rr ((sat_bind.mp hs).imp fun r hr H' g' r' => hr _ H' g' r' (.str _))
/-! ### sep.join(xs) -/
def joinD : D → List D → Option D
  | .str a, [.lst ds] => (D.strs ds).bind fun ys => if (ys.map (·.length)).sum + ys.length * a.length ≤ LINE then some (.str (Txt.join a ys)) else none
  | _, _ => none
def rJoin (K : PySem.W.Frag) : V → List V → Hp → VK → Prop := fun x xs H Q => ∃ a p, ∃ ys : List Str, x = .str a ∧ xs = [.ref p] ∧ (SqL K H p (ys.map V.str) ∨ SqT K H p (ys.map V.str)) ∧
    (ys.map (·.length)).sum + ys.length * a.length ≤ 16777216 ∧ Q (.str (Txt.join a ys)) H
theorem mthD_join {K : PySem.W.Frag} {ca : Str → Option Addr} : MthD K ca "str" (rJoin K) joinD := by
  intro H L N x dx vs ds d Q fr hx hv e hq
  unfold joinD at e
  split at e
  · simp only [Option.bind_eq_some_iff] at e
    obtain ⟨ys, e1, e2⟩ := e
    split at e2
    · rename_i l
      cases e2
      cases hv with
      | cons h r =>
        cases r
        obtain ⟨p, xs, rfl, h1, r1⟩ := h.lst
        have := RpA.strs r1 e1
        subst this
        exact ⟨_, p, ys, hx.str, rfl, .inl (SqL.of h1), l, hq _ H (Ex.refl H) (.str _)⟩
    · cases e2
  · cases e
theorem pd_join (hK : X.K = z.K) (ho : PB X z O EX o f) (ha : PBA X z O EX [e] fa) (hbase : attributeBase o "join" X.env (eval o X.env) = eval o X.env := by rfl)
    (hfew : ((backTo pos (starEach (e :: []) X.env)).all (fun x => !x.1) && (backToKw pos (keywordEach [] X.env)).all (fun x => x.1.isSome)
      && decide ((e :: []).length + ([] : List Keyword).length + (if ([] : List Keyword).isEmpty then 0 else 1) < 30)) = true := by rfl)
    (hline : (apos.endLine == pos.line) = true := by rfl) (hs : starEach (e :: []) X.env = (false, eval e X.env) :: starEach [] X.env := by rfl) (hplain : (backTo pos (starEach [] X.env)).any (·.1) = false := by rfl) :
    PD X z O EX (.Call (.Attribute o "join" apos) [e] [] pos) (mthE "str" joinD f fa) :=
  pd_mth hK PySem.F.plainAttrs_str PySem.F.slot_str_join PySem.F.type_str_join (r := rJoin z.K) (hK ▸ mt_join) mthD_join ho ha hbase hfew hline hs hplain
end
end PL
set_option Elab.async false
set_option linter.all false
set_option maxRecDepth 100000
set_option maxHeartbeats 4000000
/-! A value of a usual type declines to be compared with an own class's instance. -/
namespace PL
open PySem PySem.Spec PyProof.Rows L2 ClX GQ SeqAt MeetsSeq AutoSeq1
end PL
set_option Elab.async false
set_option linter.all false
set_option maxRecDepth 100000
set_option maxHeartbeats 4000000
/-! == and != where an own class's instance stands on one side. -/
namespace PL
open PySem PySem.Spec PyProof.Rows L2 ClX
open PySem.W (InstAt Looks)
end PL
set_option Elab.async false
set_option linter.all false
set_option maxRecDepth 100000
set_option maxHeartbeats 4000000
/-! == and != of an own class's instances and data. -/
namespace PL
open PySem PySem.Spec PyProof.Rows L2 ClX
section
variable {X : Cx} {z : Z} {O : List Nat} {EX : EXT} {a b : Expr} {f g : FE} {pos : Pos} {k : Nat} {fA C : Addr} {fd : FuncData} {ps : List Str}
/-- == where an instance of cn stands on one side: its def's answer -/
def eqC (neg : Bool) (cn : Str) (F : List D → R D) (f g : FE) : FE := fun ρ S => f ρ S >>= fun x => g ρ x.2 >>= fun y => (match x.1, y.1 with
  | .ins c ns vs, .ins c' ns' vs' => if c = cn ∧ c' = cn then noX (F [.ins c ns vs, .ins c' ns' vs']) else R.bad
  | .ins _ _ _, .cls _ => R.bad
  | .cls _, .ins _ _ _ => R.bad
  | .ins _ _ _, .exn _ _ _ => R.bad
  | .exn _ _ _, .ins _ _ _ => R.bad
  | .ins c ns vs, d => if c = cn then noX (F [.ins c ns vs, d]) else R.bad
  | d, .ins c ns vs => if c = cn then noX (F [.ins c ns vs, d]) else R.bad
  | _, _ => R.bad) >>= fun d => match d with
  | .bl k => R.ok (.bl (k != neg), y.2)
  | _ => R.bad
end
end PL
set_option Elab.async false
set_option linter.all false
set_option maxRecDepth 100000
set_option maxHeartbeats 4000000
/-! x, y = [], e: some of the values are new lists, owned from there on. -/
namespace PL
open PySem PySem.Spec PyProof.Rows L2 ClX
/-- values, some of them new lists; L: the new lists, the last one first -/
inductive Mix (K : PySem.W.Frag) (ca : Str → Option Addr) (H F : Hp) : List V → List (Bool × D) → List Addr → Prop
  | nil : Mix K ca H F [] [] []
  | val {v : V} {vs : List V} {d : D} {ds : List (Bool × D)} {L : List Addr} : Rp K ca F v d → Mix K ca H F vs ds L → Mix K ca H F (v :: vs) ((false, d) :: ds) L
  | own {a : Addr} {xs : List V} {es : List D} {vs : List V} {ds : List (Bool × D)} {L : List Addr} : H a = some (.lst xs) → RpA K ca F xs es → Mix K ca H F vs ds L → Mix K ca H F (.ref a :: vs) ((true, .lst es) :: ds) (L ++ [a])
abbrev FM := Env → List D → R (List (Bool × D) × List D)
def EvM (z : Z) (O : List Nat) (EX : EXT) (t : TA) (f : FM) : Prop :=
  ∀ B P σ H ρ S Q, P.map (·.1) = O → Rel z B P σ H ρ S →
    Sat (f ρ S) (fun r => ∀ vs H' L, Grow z H H' → Rel z (L ++ B) P σ H' ρ r.2 → Ex (Frz H (z.L B P)) (Frz H' (z.L (L ++ B) P)) → (∀ a ∈ L, z.H0 a = none) → Mix z.K z.ca H' (Frz H' (z.L (L ++ B) P)) vs r.1 L → Q vs H') EX → t σ H Q
structure PMd (X : Cx) (z : Z) (O : List Nat) (EX : EXT) (es : List Expr) (f : FM) : Prop where
  ex : ∃ t, PA X es t ∧ EvM z O EX t f
def nilM : FM := fun _ S => R.ok ([], S)
def valM (f : FE) (h : FM) : FM := fun ρ S => f ρ S >>= fun x => h ρ x.2 >>= fun y => R.ok ((false, x.1) :: y.1, y.2)
def ownM (f : FA) (h : FM) : FM := fun ρ S => f ρ S >>= fun x => h ρ x.2 >>= fun y => R.ok ((true, .lst x.1) :: y.1, y.2)
section
variable {X : Cx} {z : Z} {O OL : List Nat} {EX : EXT} {a b c e : Expr} {es : List Expr} {f g : FE} {fa : FA} {fm : FM} {pos : Pos}
variable {B : List Addr} {P : List (Nat × Addr)} {σ : L2.St} {H : Hp} {ρ : Env} {S : List D}
theorem pmd_nil : PMd X z O EX [] nilM := ⟨_, pa_nil, fun B P σ H ρ S Q hP rr hs => hs [] H [] Grow.refl rr (Ex.refl _) (fun _ h => nomatch h) .nil⟩
theorem pmd_val (ha : PD X z O EX e f) (hr : PMd X z O EX es fm) (hs : starEach (e :: es) X.env = (false, eval e X.env) :: starEach es X.env := by rfl) : PMd X z O EX (e :: es) (valM f fm) := by
  obtain ⟨t, p, q⟩ := ha.ex
  obtain ⟨u, p2, q2⟩ := hr.ex
  refine ⟨_, pa_cons p p2 hs, fun B P σ H ρ S Q hP rr hs => ?_⟩
  refine q B P σ H ρ S _ hP rr ((sat_bind.mp hs).imp fun x hx v H1 g1 r1 hv => ?_)
  refine q2 B P σ H1 ρ x.2 _ hP r1 ((sat_bind.mp hx).imp fun y hy vs H2 L g2 r2 m h0 hvs => ?_)
  exact hy (v :: vs) H2 L (g1.trans g2) r2 (g1.frz.trans m) h0 (.val (hv.mono m) hvs)
theorem pmd_own (ha : PF X z O EX e fa) (hr : PMd X z O EX es fm) (hs : starEach (e :: es) X.env = (false, eval e X.env) :: starEach es X.env := by rfl) : PMd X z O EX (e :: es) (ownM fa fm) := by
  obtain ⟨t, p, q⟩ := ha.ex
  obtain ⟨u, p2, q2⟩ := hr.ex
  refine ⟨_, pa_cons p p2 hs, fun B P σ H ρ S Q hP rr hs => ?_⟩
  refine q B P σ H ρ S _ hP rr ((sat_bind.mp hs).imp fun x hx ad xs H1 g1 e1 e0 en r1 m hv => ?_)
  refine q2 (ad :: B) P σ H1 ρ x.2 _ hP r1 ((sat_bind.mp hx).imp fun y hy vs H2 L g2 r2 m2 h0 hvs => ?_)
  have eL : L ++ [ad] ++ B = L ++ (ad :: B) := by rw [List.append_assoc]; rfl
  have np : ad ∉ z.pls := fun q => by
    have nd := r1.nd
    unfold Z.L at nd
    exact (List.nodup_append.mp (List.nodup_append.mp nd).2.1).2.2 ad q ad List.mem_cons_self rfl
  have := hy (.ref ad :: vs) H2 (L ++ [ad]) (g1.trans g2) (by rw [eL]; exact r2) (by rw [eL]; exact m.trans m2) (fun a ha => by
    rcases List.mem_append.mp ha with h | h
    · exact h0 a h
    · rw [List.mem_singleton.mp h]; exact e0)
  rw [eL] at this
  exact this (.own (g2 _ _ np e1) (hv.mono m2) hvs)
/-! ### stored to places -/
def stV : List Nat → List V → L2.St → L2.St
  | i :: is, v :: vs, σ => stV is vs (σ.set i (some v))
  | _, _, σ => σ
def stD : List Nat → List (Bool × D) → Env → R Env
  | [], [], ρ => R.ok ρ
  | i :: is, d :: ds, ρ => setE ρ i d.2 >>= fun ρ1 => stD is ds ρ1
  | _, _, _ => R.bad
def flg (is : List Nat) (fl : List Bool) : List Nat := (is.zip fl).filterMap fun p => if p.2 then some p.1 else none
theorem stV_set {i : Nat} {v : V} : ∀ (is : List Nat) (vs : List V) (σ : L2.St), i ∉ is → stV is vs (σ.set i (some v)) = (stV is vs σ).set i (some v)
  | [], _, _, _ => by cases ‹List V› <;> rfl
  | _ :: _, [], _, _ => rfl
  | j :: is, u :: vs, σ, h => by
    have hj : i ≠ j := fun e => h (by rw [e]; exact List.mem_cons_self)
    show stV is vs ((σ.set i (some v)).set j (some u)) = (stV is vs (σ.set j (some u))).set i (some v)
    rw [List.set_comm _ _ hj]
    exact stV_set is vs _ fun q => h (List.mem_cons_of_mem _ q)
theorem sat_stD {i : Nat} {d : D} {EX : EXT} : ∀ (is : List Nat) (ds : List (Bool × D)) (ρ : Env) {Q : Env → Prop}, i ∉ is → i < ρ.length → Sat (stD is ds (ρ.set i (some d))) Q EX → Sat (stD is ds ρ) (fun r => i < r.length ∧ Q (r.set i (some d))) EX
  | [], [], ρ, Q, _, hi, h => ⟨hi, h⟩
  | [], _ :: _, _, _, _, _, h => h.elim
  | _ :: _, [], _, _, _, _, h => h.elim
  | j :: is, u :: ds, ρ, Q, hn, hi, h => by
    have hj : i ≠ j := fun e => hn (by rw [e]; exact List.mem_cons_self)
    obtain ⟨w, h⟩ := sat_set (sat_bind.mp h)
    rw [List.set_comm _ _ hj] at h
    have w' : j < ρ.length := by simpa using w
    refine sat_bind.mpr ?_
    unfold setE
    rw [if_pos w']
    exact sat_stD is ds _ (fun q => hn (List.mem_cons_of_mem _ q)) (by simpa using hi) h
theorem Rel.mix : ∀ {is : List Nat} {vs : List V} {ds : List (Bool × D)} {L B : List Addr} {σ : L2.St} {ρ : Env} {Q : Env → Prop} {EX : EXT}, Mix z.K z.ca H (Frz H (z.L (L ++ B) P)) vs ds L → Rel z (L ++ B) P σ H ρ S → (∀ a ∈ L, z.H0 a = none) → is.Nodup → (∀ i ∈ is, ∀ q ∈ P, q.1 ≠ i) → (∀ i ∈ is, NotPl z i) →
    Sat (stD is ds ρ) Q EX → ∃ ρ' P', Rel z B (P' ++ P) (stV is vs σ) H ρ' S ∧ Q ρ' ∧ Frz H (z.L (L ++ B) P) = Frz H (z.L B (P' ++ P)) ∧ P'.map (·.1) = flg is (ds.map (·.1)) := by
  intro is
  induction is with
  | nil =>
    intro vs ds L B σ ρ Q EX m r h0 hd hP hz hs
    cases m with
    | nil => exact ⟨ρ, [], r, hs, rfl, rfl⟩
    | val _ _ => exact hs.elim
    | own _ _ _ => exact hs.elim
  | cons i is ih =>
    intro vs ds L B σ ρ Q EX m r h0 hd hP hz hs
    obtain ⟨hd1, hd2⟩ := List.nodup_cons.mp hd
    have hPi := hP i List.mem_cons_self
    have hzi := hz i List.mem_cons_self
    cases m with
    | nil => exact hs.elim
    | @val v vs d ds _ hv m =>
      obtain ⟨w, hs⟩ := sat_set (sat_bind.mp hs)
      obtain ⟨ρ', P', r', q, e, ep⟩ := ih m r h0 hd2 (fun j hj => hP j (List.mem_cons_of_mem _ hj)) (fun j hj => hz j (List.mem_cons_of_mem _ hj)) (sat_stD is ds ρ hd1 w hs)
      have e2 : flg (i :: is) ((false, d).1 :: ds.map (·.1)) = flg is (ds.map (·.1)) := rfl
      refine ⟨_, P', ?_, q.2, e, by rw [ep]; rfl⟩
      have hn : ∀ p ∈ P' ++ P, p.1 ≠ i := fun p hp => by
        rcases List.mem_append.mp hp with h | h
        · intro e9
          have : p.1 ∈ flg is (ds.map (·.1)) := by rw [← ep]; exact List.mem_map_of_mem h
          unfold flg at this
          obtain ⟨q', hq', eq'⟩ := List.mem_filterMap.mp this
          split at eq'
          · have e8 := Option.some.inj eq'
            exact hd1 (by rw [← e9, ← e8]; exact (List.of_mem_zip hq').1)
          · cases eq'
        · exact hPi p h
      have := r'.set (e ▸ hv) hn hzi q.1
      rw [show stV (i :: is) (v :: vs) σ = stV is vs (σ.set i (some v)) from rfl, stV_set is vs σ hd1]
      exact this
    | @own ad xs es vs ds L hx hr m =>
      obtain ⟨w, hs⟩ := sat_set (sat_bind.mp hs)
      have eL : L ++ [ad] ++ B = L ++ (ad :: B) := by rw [List.append_assoc]; rfl
      rw [eL] at r m hr
      obtain ⟨ρ', P', r', q, e, ep⟩ := ih (B := ad :: B) m r (fun a ha => h0 a (List.mem_append_left _ ha)) hd2 (fun j hj => hP j (List.mem_cons_of_mem _ hj)) (fun j hj => hz j (List.mem_cons_of_mem _ hj)) (sat_stD is ds ρ hd1 w hs)
      have hn : ∀ p ∈ P' ++ P, p.1 ≠ i := fun p hp => by
        rcases List.mem_append.mp hp with h | h
        · intro e9
          have : p.1 ∈ flg is (ds.map (·.1)) := by rw [← ep]; exact List.mem_map_of_mem h
          unfold flg at this
          obtain ⟨q', hq', eq'⟩ := List.mem_filterMap.mp this
          split at eq'
          · have e8 := Option.some.inj eq'
            exact hd1 (by rw [← e9, ← e8]; exact (List.of_mem_zip hq').1)
          · cases eq'
        · exact hPi p h
      obtain ⟨r2, e2⟩ := r'.own1 hx (h0 ad (List.mem_append_right _ List.mem_cons_self)) (e ▸ hr) hn hzi q.1
      refine ⟨_, (i, ad) :: P', ?_, q.2, by rw [eL, e, e2]; rfl, by rw [List.map_cons, ep]; rfl⟩
      rw [show stV (i :: is) (V.ref ad :: vs) σ = stV is vs (σ.set i (some (V.ref ad))) from rfl, stV_set is vs σ hd1]
      exact r2
def mixS (is : List Nat) (fl : List Bool) (f : FM) : FS := fun ρ S => f ρ S >>= fun x => if x.1.map (·.1) = fl then stD is x.1 ρ >>= fun ρ1 => R.ok (.nx, ρ1, x.2) else R.bad
theorem ev_mix {t : TA} {is : List Nat} {fl : List Bool} (q : EvM z O EX t fm) (hd : is.Nodup) (hO : (O.all fun n => is.all (n != ·)) = true) (hz : ∀ i ∈ is, NotPl z i) {D' : Ends} {OO : List Nat} (hOO : flg is fl ++ O = OO) (hP : P.map (·.1) = O) (rr : Rel z B P σ H ρ S)
    (hs : Sat (mixS is fl fm ρ S) (PostS z B (Frz H (z.L B P)) OO OL D') EX) {Q' : List V → Hp → Prop} (hQ : ∀ vs H1, vs.length = fl.length → D'.nx (stV is vs σ) H1 → Q' vs H1) : t σ H Q' := by
  refine q B P σ H ρ S _ hP rr ((sat_bind.mp hs).imp fun x hx vs H1 L g1 r1 m1 h0 mx => ?_)
  split at hx
  · rename_i ef
    have lm : ∀ {vs : List V} {ds : List (Bool × D)} {L : List Addr} {H F : Hp}, Mix z.K z.ca H F vs ds L → vs.length = ds.length := fun m => by
      induction m with
      | nil => rfl
      | val _ _ ih => simp [ih]
      | own _ _ _ ih => simp [ih]
    refine hQ vs H1 (by rw [lm mx, ← ef, List.length_map]) ?_
    obtain ⟨ρ', P', r2, hq, e, ep⟩ := Rel.mix mx r1 h0 hd (fun i hi p hp q => by
      have hm : p.1 ∈ O := by rw [← hP]; exact List.mem_map_of_mem hp
      have := List.all_eq_true.mp (List.all_eq_true.mp hO p.1 hm) i hi
      rw [q] at this
      simp at this) hz (sat_bind.mp hx)
    exact hq (P' ++ P) _ H1 (by rw [List.map_append, ep, ef, hP, hOO]) (e ▸ m1) r2
  · exact hx.elim
theorem psd_mix2 (i j : Nat) (b1 b2 : Bool) (hc : X.calm = true) (hN : X.N.Nodup) (hzi : NotPl z i) (hzj : NotPl z j) (ha : PMd X z O EX [a, b] fm) (hO : (O.all fun n => [i, j].all (n != ·)) = true := by rfl) {OO : List Nat} (hOO : flg [i, j] [b1, b2] ++ O = OO := by rfl) {x y : Str} {px py pt : Pos} {kt k2 pt2}
    (hx : X.N[i]? = some x := by rfl) (hy : X.N[j]? = some y := by rfl) (hij : i ≠ j := by decide) (lx : X.env.scope.names.lookup x = some .local := by rfl) (ly : X.env.scope.names.lookup y = some .local := by rfl)
    (hw : swappedStores [.Tuple [.Name x px, .Name y py] kt pt] (.Tuple [a, b] k2 pt2) X.env = pure (some [x, y]) := by rfl)
    (hs : swapsWithSole [.Tuple [.Name x px, .Name y py] kt pt] (.Tuple [a, b] k2 pt2) pos.line X.env = pure false := by rfl) : PSd X z O OO OL EX (.Assign [.Tuple [.Name x px, .Name y py] kt pt] (.Tuple [a, b] k2 pt2) pos) (mixS [i, j] [b1, b2] fm) := by
  obtain ⟨t, p, q⟩ := ha.ex
  refine ⟨_, ps_par hc hN hx hy hij lx ly p hw hs, fun B P σ H ρ S D' hP rr hs => ?_⟩
  refine ev_mix (D' := D') q (by simp [hij]) hO (fun n hn => ?_) hOO hP rr hs fun vs H1 hl h => ?_
  · rcases List.mem_cons.mp hn with rfl | hn
    · exact hzi
    · rw [List.mem_singleton.mp hn]; exact hzj
  · match vs, hl, h with
    | [u, v], _, h => exact ⟨u, v, rfl, h⟩
end
end PL
set_option Elab.async false
set_option linter.all false
set_option maxRecDepth 100000
set_option maxHeartbeats 4000000
/-! sum of lists and tuples of ints. -/
namespace PL
open PySem PySem.Spec PyProof.Rows L2 ClX
section
variable {X : Cx} {z : Z} {O : List Nat} {EX : EXT} {e : Expr} {fa : FA} {p pos : Pos}
def intsA : D → Option (List Int) | .lst ds => D.ints ds | .tup ds => D.ints ds | .scr ns => some ns | _ => none
def rSumA (K : PySem.W.Frag) : List V → Hp → VK → Prop := fun vs H Q => ∃ (a : Addr) (ns : List Int), vs = [V.ref a] ∧ (SqL K H a (ns.map V.int) ∨ SqT K H a (ns.map V.int)) ∧ Q (.int ns.sum) H
theorem cr_sumA (hc : X.calm = true) : CallR X (.builtin "sum") (rSumA X.K) := by
  intro pins s σ H vs us Q I r h
  obtain ⟨a, ns, rfl, hs, q⟩ := h
  rcases hs with hs | hs
  · exact cr_sum hc pins s σ H [V.ref a] us Q I r ⟨a, ns, rfl, hs, q⟩
  · obtain ⟨its, rv, ht, _⟩ := I.tuple hs
    rw [Vals.ref1 r]
    have hi := rv.ints
    obtain ⟨xs, e⟩ := hi.allInts.items
    have hn : numsOf (intItems xs).toList = ns := by rw [← e]; exact hi.numsOf
    rw [nums_intItems] at hn
    rw [e] at ht
    refine PySem.W.ktm_sumG (I.ok.hd hc) ht fun h' tk t' hk => ?_
    refine ⟨.int _, H, I.kept hk, ⟨t', ?_⟩, q⟩
    rw [preSum_eq, List.take_of_length_le (by simp), hn]
def sumA : List D → Option D | [x] => (intsA x).map fun ns => .int ns.sum | _ => none
theorem intsA_sq {K : PySem.W.Frag} {ca : Str → Option Addr} {H : Hp} {L N : List Addr} {v : V} {d : D} {ns : List Int} (h : Rb K ca H L N v d) (e : intsA d = some ns) : ∃ a, v = .ref a ∧ (SqL K H a (ns.map V.int) ∨ SqT K H a (ns.map V.int)) := by
  cases d <;> simp only [intsA, reduceCtorEq, Option.some.injEq] at e
  · obtain ⟨a, xs, rfl, h1, r1⟩ := h.tup
    rw [RpA.ints r1 e] at h1
    exact ⟨a, rfl, .inr (ex_t (frz_ex _ _) h1)⟩
  · obtain ⟨a, xs, rfl, h1, r1⟩ := h.lst
    rw [RpA.ints r1 e] at h1
    exact ⟨a, rfl, .inl (SqL.of h1)⟩
  · subst e
    obtain ⟨a, rfl, h1⟩ := h.scr
    exact ⟨a, rfl, .inl (ex_l (frz_ex _ _) h1)⟩
theorem callD_sumA {K : PySem.W.Frag} {ca : Str → Option Addr} : CallD K ca (rSumA K) sumA := by
  intro H L N vs ds d Q fr hv e hq
  unfold sumA at e
  split at e
  · simp only [Option.map_eq_some_iff] at e
    obtain ⟨ns, e, rfl⟩ := e
    cases hv with
    | cons h r =>
      cases r
      obtain ⟨a, rfl, h1⟩ := intsA_sq h e
      exact ⟨a, ns, rfl, h1, hq _ H (Ex.refl H) (.int _)⟩
  · cases e
theorem pd_sumA (hK : X.K = z.K) (hc : X.calm = true) (hm : X.mg "sum" = none) (ha : PBA X z O EX [e] fa) (hg : Gl X "sum" := by rfl) (he : starEach [e] X.env = (false, eval e X.env) :: starEach [] X.env := by rfl) (hpl : (backTo pos (starEach [] X.env)).any (·.1) = false := by rfl) :
    PD X z O EX (.Call (.Name "sum" p) [e] [] pos) (callE sumA fa) := pd_callB (r := rSumA z.K) (hK ▸ cr_sumA hc) callD_sumA hm ha hg (by decide +kernel) (by decide) (by decide) he hpl
@[simp] theorem sumA_tup (a : List Int) : sumA [.tup (a.map D.int)] = some (.int a.sum) := by
  show (D.ints (a.map D.int)).map _ = _
  rw [D.ints_map]
  rfl
@[simp] theorem sumA_lst (a : List Int) : sumA [.lst (a.map D.int)] = some (.int a.sum) := by
  show (D.ints (a.map D.int)).map _ = _
  rw [D.ints_map]
  rfl
end
end PL
set_option Elab.async false
set_option linter.all false
set_option maxRecDepth 100000
set_option maxHeartbeats 4000000
/-! Texts of printable signs, the texts of data. -/
namespace PL
open PySem PySem.Spec PyProof.Rows L2 ClX
def Nice (n : Nat) (x : Str) : Prop := (∀ c ∈ x.cps.toList, 32 ≤ c ∧ c < 127) ∧ x.length ≤ n
def niceB (n : Nat) (x : Str) : Bool := x.cps.toList.all (fun c => decide (32 ≤ c) && decide (c < 127)) && decide (x.length ≤ n)
theorem nice_of {n : Nat} {x : Str} (h : niceB n x = true) : Nice n x := by
  unfold niceB at h
  simp only [Bool.and_eq_true, List.all_eq_true, decide_eq_true_eq] at h
  exact h
theorem Nice.mono {n m : Nat} {x : Str} (h : Nice n x) (l : n ≤ m) : Nice m x := ⟨h.1, Nat.le_trans h.2 l⟩
theorem len_append (x y : Str) : (x ++ y).length = x.length + y.length := by
  show (x.cps ++ y.cps).size = _
  simp [Str.length]
theorem Nice.append {n m : Nat} {x y : Str} (h : Nice n x) (k : Nice m y) : Nice (n + m) (x ++ y) := by
  refine ⟨fun c hc => ?_, ?_⟩
  · have : c ∈ (x.cps ++ y.cps).toList := hc
    rw [Array.toList_append, List.mem_append] at this
    rcases this with q | q
    · exact h.1 c q
    · exact k.1 c q
  · rw [len_append]
    have := h.2
    have := k.2
    omega
theorem nice_empty {n : Nat} : Nice n Str.empty := ⟨fun c hc => by simp [Str.empty] at hc, Nat.zero_le _⟩
theorem Nice.ok {n : Nat} {x : Str} (h : Nice n x) : PyData.strOk x = true := by
  unfold PyData.strOk
  rw [Array.all_eq_true']
  intro c hc
  have := h.1 c (by simpa using hc)
  simp
  omega
/-- small numbers -/
theorem nat_str (n : Nat) : (Str.ofString (toString (n : Int))) = ⟨((Nat.toDigits 10 n).map Char.toNat).toArray⟩ := by
  rw [Str.ofString_eq_toList]
  have : (toString (n : Int)) = String.ofList (Nat.toDigits 10 n) := rfl
  rw [this, String.toList_ofList]
theorem dig_ok : ∀ n : _root_.Fin 1000, ((Nat.toDigits 10 n.val).all (fun c => decide (32 ≤ c.toNat) && decide (c.toNat < 127)) && decide ((Nat.toDigits 10 n.val).length ≤ 4)) = true := by decide +kernel
theorem nice_int {i : Int} (h0 : 0 ≤ i) (h1 : i < 1000) : Nice 4 (toString i : String) := by
  obtain ⟨n, rfl⟩ := Int.eq_ofNat_of_zero_le h0
  have := dig_ok ⟨n, by omega⟩
  simp only [Bool.and_eq_true, List.all_eq_true, decide_eq_true_eq] at this
  rw [nat_str]
  refine ⟨fun c hc => ?_, ?_⟩
  · obtain ⟨d, hd, rfl⟩ := List.mem_map.mp (show c ∈ (Nat.toDigits 10 n).map Char.toNat by simpa using hc)
    exact this.1 d hd
  · show (Array.size _) ≤ 4
    simpa using this.2
theorem log_small {i : Int} (h0 : 0 ≤ i) (h1 : i < 1000) : i.natAbs.log2 < 1920 := by
  by_cases z : i.natAbs = 0
  · rw [z]; decide
  · exact Nat.lt_trans ((Nat.log2_lt z).mpr (show i.natAbs < 2 ^ 14 by omega)) (by decide)
theorem repr_fold {q : Nat} (hq : 32 ≤ q ∧ q < 127) : ∀ (l : List Nat) (acc : Array Nat), (∀ c ∈ l, 32 ≤ c ∧ c < 127) → (∀ c ∈ acc.toList, 32 ≤ c ∧ c < 127) →
    (∀ c ∈ (l.foldl (fun out c => out ++ (Builtin.Str.reprChar q c).toArray) acc).toList, 32 ≤ c ∧ c < 127) ∧ (l.foldl (fun out c => out ++ (Builtin.Str.reprChar q c).toArray) acc).size ≤ acc.size + 2 * l.length
  | [], acc, _, h => ⟨h, by simp⟩
  | c :: l, acc, hl, h => by
    have pr : ∀ c : _root_.Fin 127, 32 ≤ c.val → Unicode.isPrintable c.val = true := by decide +kernel
    have hc := hl c List.mem_cons_self
    have e : (Builtin.Str.reprChar q c).length ≤ 2 ∧ ∀ d ∈ Builtin.Str.reprChar q c, 32 ≤ d ∧ d < 127 := by
      unfold Builtin.Str.reprChar
      split
      · exact ⟨Nat.le_refl _, fun d hd => by simp at hd; omega⟩
      · rw [if_neg (by simp; omega), if_neg (by simp; omega), if_neg (by simp; omega), if_pos (pr ⟨c, hc.2⟩ hc.1)]
        exact ⟨by simp, fun d hd => by simp at hd; omega⟩
    obtain ⟨h1, h2⟩ := repr_fold hq l (acc ++ (Builtin.Str.reprChar q c).toArray) (fun d hd => hl d (List.mem_cons_of_mem _ hd)) (fun d hd => by
      rw [Array.toList_append, List.mem_append] at hd
      rcases hd with q | q
      · exact h d q
      · exact e.2 d (by simpa using q))
    refine ⟨h1, Nat.le_trans h2 ?_⟩
    rw [Array.size_append, List.length_cons]
    have := e.1
    simp
    omega
theorem nice_repr {n : Nat} {x : Str} (h : Nice n x) : Nice (2 * n + 2) (reprText x) := by
  have hq : 32 ≤ reprQuote x ∧ reprQuote x < 127 := by unfold reprQuote; split <;> omega
  have e : x.cps.foldl (fun out c => out ++ (Builtin.Str.reprChar (reprQuote x) c).toArray) #[reprQuote x] = x.cps.toList.foldl (fun out c => out ++ (Builtin.Str.reprChar (reprQuote x) c).toArray) #[reprQuote x] := by rw [Array.foldl_toList]
  obtain ⟨h1, h2⟩ := repr_fold hq x.cps.toList #[reprQuote x] h.1 (fun c hc => by simp at hc; omega)
  rw [← e] at h1 h2
  unfold reprText
  refine ⟨fun c hc => ?_, ?_⟩
  · rw [Array.toList_push, List.mem_append] at hc
    rcases hc with q | q
    · exact h1 c q
    · simp at q; omega
  · show (Array.push _ _).size ≤ _
    rw [Array.size_push]
    have := h.2
    have hl : x.cps.toList.length = x.length := by simp [Str.length]
    rw [hl] at h2
    have h3 : (#[reprQuote x] : Array Nat).size = 1 := rfl
    omega
/-! the text of data -/
inductive NiceL : Nat → List Str → Prop
  | nil : NiceL 0 []
  | cons {n m : Nat} {t : Str} {ts : List Str} : Nice n t → NiceL m ts → NiceL (n + m + 2) (t :: ts)
theorem nice_tf {m : Nat} {ts : List Str} (h : NiceL m ts) : ∀ (k a : Nat) (acc : Str), Nice a acc → Nice (a + m) (textFrom k acc ts) := by
  induction h with
  | nil => exact fun k a acc h => h
  | @cons n m t ts h1 _ ih =>
    intro k a acc ha
    have e : Nice 2 ((if k > 0 then ", " else "" : String) : Str) := by split <;> exact nice_of (by decide)
    exact (ih (k + 1) _ _ ((ha.append e).append h1)).mono (by omega)
theorem nice_list {m : Nat} {ts : List Str} (h : NiceL m ts) : Nice (m + 2) (listText ts) :=
  ((nice_tf h 0 1 "[" (nice_of (by decide))).append (show Nice 1 ("]" : String) from nice_of (by decide))).mono (by omega)
theorem nice_join {m : Nat} {ts : List Str} (h : NiceL m ts) : Nice m (Str.join ", " ts) := by
  induction h with
  | nil => exact nice_empty
  | @cons n m t ts h1 h2 ih =>
    cases ts with
    | nil => exact h1.mono (by omega)
    | cons u us => exact (((h1.append (show Nice 2 (", " : String) from nice_of (by decide))).append ih)).mono (by omega)
theorem nice_tuple {m : Nat} {ts : List Str} (h : NiceL m ts) : Nice (m + 3) (tupleText ts) := by
  have e : Nice 2 ((if ts.length == 1 then ",)" else ")" : String) : Str) := by split <;> exact nice_of (by decide)
  exact (((show Nice 1 ("(" : String) from nice_of (by decide)).append (nice_join h)).append e).mono (by omega)
mutual
/-- data whose text is nice: n its signs at most, k its depth at most -/
inductive Nd : Nat → Nat → D → Prop
  | non {n k : Nat} : 4 ≤ n → Nd n k .non
  | bl {n k : Nat} (b : Bool) : 5 ≤ n → Nd n k (.bl b)
  | int {n k : Nat} {i : Int} : 0 ≤ i → i < 1000 → 4 ≤ n → Nd n k (.int i)
  | str {n m k : Nat} {x : Str} : Nice m x → 2 * m + 2 ≤ n → Nd n k (.str x)
  | tup {n m k j : Nat} {ds : List D} : NdA m j ds → m + 3 ≤ n → j < k → Nd n k (.tup ds)
  | lst {n m k j : Nat} {ds : List D} : NdA m j ds → m + 2 ≤ n → j < k → Nd n k (.lst ds)
inductive NdA : Nat → Nat → List D → Prop
  | nil {k : Nat} : NdA 0 k []
  | cons {n m k : Nat} {d : D} {ds : List D} : Nd n k d → NdA m k ds → NdA (n + m + 2) k (d :: ds)
end
structure NP (n k : Nat) (p : PyData) : Prop where
  nice : Nice n p.shown
  show_ : p.showable = true
  flat : p.hasDict = false
  deep : p.depth ≤ k
  lay : p.canLay0 = true
structure NPA (n k : Nat) (ps : List PyData) : Prop where
  nice : NiceL n (PyData.shownAll ps)
  show_ : PyData.showableAll ps = true
  flat : PyData.hasDictAll ps = false
  deep : PyData.depthAll ps ≤ k
  lay : PyData.canLayAll0 ps = true
mutual
theorem Nd.py : ∀ {n k : Nat} {d : D}, Nd n k d → ∃ p, toPy d = some p ∧ NP n k p
  | _, _, _, .non h => ⟨_, rfl, ⟨(show Nice 4 ("None" : String) from nice_of (by decide)).mono h, rfl, rfl, Nat.zero_le _, rfl⟩⟩
  | _, _, _, .bl b h => ⟨_, rfl, ⟨by cases b; exact (show Nice 5 ("False" : String) from nice_of (by decide)).mono h; exact (show Nice 5 ("True" : String) from nice_of (by decide)).mono h, rfl, rfl, Nat.zero_le _, rfl⟩⟩
  | _, _, _, .int h0 h1 h => ⟨_, rfl, ⟨(nice_int h0 h1).mono h, by simp only [PyData.showable, decide_eq_true_eq]; exact log_small h0 h1, rfl, Nat.zero_le _, rfl⟩⟩
  | _, _, _, .str hx h => ⟨_, rfl, ⟨by simp only [PyData.shown]; exact (nice_repr hx).mono h, rfl, rfl, Nat.zero_le _, by simp only [PyData.canLay0]; exact hx.ok⟩⟩
  | _, _, _, .tup ha h hk => by
    obtain ⟨ps, e, q⟩ := NdA.py ha
    exact ⟨.tuple ps, by simp only [toPy, e, Option.map_some], ⟨by simp only [PyData.shown]; exact (nice_tuple q.nice).mono h, by simp only [PyData.showable]; exact q.show_, by simp only [PyData.hasDict]; exact q.flat, by simp only [PyData.depth]; have := q.deep; omega, by simp only [PyData.canLay0]; exact q.lay⟩⟩
  | _, _, _, .lst ha h hk => by
    obtain ⟨ps, e, q⟩ := NdA.py ha
    exact ⟨.list ps, by simp only [toPy, e, Option.map_some], ⟨by simp only [PyData.shown]; exact (nice_list q.nice).mono h, by simp only [PyData.showable]; exact q.show_, by simp only [PyData.hasDict]; exact q.flat, by simp only [PyData.depth]; have := q.deep; omega, by simp only [PyData.canLay0]; exact q.lay⟩⟩
theorem NdA.py : ∀ {n k : Nat} {ds : List D}, NdA n k ds → ∃ ps, toPyA ds = some ps ∧ NPA n k ps
  | _, _, _, .nil => ⟨[], rfl, ⟨.nil, rfl, rfl, Nat.zero_le _, rfl⟩⟩
  | _, _, _, .cons h r => by
    obtain ⟨p, e, q⟩ := Nd.py h
    obtain ⟨ps, e2, q2⟩ := NdA.py r
    refine ⟨p :: ps, by simp only [toPyA, e, e2, Option.bind_some, Option.map_some], ⟨.cons q.nice q2.nice, ?_, ?_, ?_, ?_⟩⟩
    · simp only [PyData.showableAll, q.show_, q2.show_, Bool.and_self]
    · simp only [PyData.hasDictAll, q.flat, q2.flat, Bool.or_self]
    · simp only [PyData.depthAll]; exact Nat.max_le.mpr ⟨q.deep, q2.deep⟩
    · simp only [PyData.canLayAll0, q.lay, q2.lay, Bool.and_self]
end
theorem eqD_self {n k : Nat} {d : D} (h : Nd n k d) (hk : k ≤ 64) : eqD d d = some (.bl true) ∧ neD d d = some (.bl false) := by
  obtain ⟨p, e, q⟩ := h.py
  have es : SeqAt.shaped p = true := by
    unfold SeqAt.shaped
    rw [q.lay]
    have := q.deep
    simp
    omega
  have : eqP d d = some true := by
    unfold eqP
    rw [e]
    simp only [Option.bind_some, es, Bool.and_self, if_true]
    rw [SeqAt.eqv_refl p q.lay]
  unfold eqD neD
  rw [this]
  exact ⟨rfl, rfl⟩
end PL
set_option Elab.async false
set_option linter.all false
set_option maxRecDepth 100000
set_option maxHeartbeats 4000000
/-! The program's own defs about counts and stays; cs: the own classes that a law's text has. -/
namespace LW
open PySem PySem.Spec PyProof.Rows L2 ClX PL
section
variable (cs : List Str)
def nm_ini : List Str := ["arrivals", "departures"]
def f_ii : FS := (retS (andV (un1 (isiD (tyK "int") (inst0 cs)) (nm 0)) (andV (notV (un1 (isiD (tyK "bool") (inst0 cs)) (nm 0))) (chn leD leD (nm 1) (nm 0) (nm 2)))))
abbrev F_ii := runF 3 3 (f_ii cs)
def f_cl : FS := (seqS (ifS (orT (notT (tst (un1 (isiD (tyK "tuple") (inst0 cs)) (nm 0)))) (notT (tst (un1 (isiD (tyK "tuple") (inst0 cs)) (nm 1))))) badS nxS)
  (ifS (orT (tstB (bin2 neD (callE lenD (consA (nm 0) nilA)) (callE lenD (consA (nm 1) nilA)))) (notT (tstB (chn leD leD (fun _ S => R.ok (.int 1, S)) (callE lenD (consA (nm 0) nilA)) (fun _ S => R.ok (.int 60, S)))))) badS nxS))
abbrev F_cl := runF 2 2 (f_cl cs)
def f_inu : FS := (retS (callD (F_ii cs) [] (consA (nm 0) (consA (fun _ S => R.ok (.int 0, S)) (consA (fun _ S => R.ok (.int 999, S)) nilA)))))
abbrev F_inu := runF 1 1 (f_inu cs)
def f_cn : FS := (seqS (asgS (fun _ S => R.ok (.int 0, S)) (nmG 2))
  (seqS (asgS (fun _ S => R.ok (.int 0, S)) (nmG 3))
  (forS (enI (rngI zip2D (consA (nm 0) (consA (nm 1) nilA)))) (tupG 2 (consG (nmG 4) (consG (tupG 2 (consG (nmG 5) (consG (nmG 6) nilG))) nilG))) (seqS (ifS (orT (notT (tst (callD (F_inu cs) [] (consA (nm 5) nilA)))) (notT (tst (callD (F_inu cs) [] (consA (nm 6) nilA))))) badS nxS)
  (seqS (asgS (bin2 addD (nm 2) (nm 5)) (nmG 2))
  (seqS (asgS (bin2 subD (bin2 addD (nm 3) (nm 5)) (nm 6)) (nmG 3))
  (ifS (orT (tstB (bin2 gtD (nm 2) (fun _ S => R.ok (.int 999, S)))) (tstB (bin2 ltD (nm 3) (fun _ S => R.ok (.int 0, S))))) badS nxS)))))))
abbrev F_cn := runF 7 2 (f_cn cs)
def f_ini : FS := (seqS (exprS (callD (F_cl cs) [] (consA (nm 1) (consA (nm 2) nilA))))
  (seqS (exprS (callD (F_cn cs) [] (consA (nm 1) (consA (nm 2) nilA))))
  (seqS (slfS nm_ini "arrivals" (nm 1))
  (slfS nm_ini "departures" (nm 2)))))
abbrev F_ini := runI nm_ini 3 3 (f_ini cs)
def f_len : FS := (retS (callE lenD (consA (un1 (fldD "Counts" "arrivals") (nm 0)) nilA)))
abbrev F_len := runF 1 1 f_len
end
section
variable {cs : List Str}
theorem ii_int (v lo hi : Int) : F_ii cs [.int v, .int lo, .int hi] = R.ok (.bl (decide (lo ≤ v) && decide (v ≤ hi))) := by
  refine eq_sat ((wp_runF rfl).mpr ?_)
  unfold f_ii
  simp [startE, tyK, known, tyB]
  split <;> simp_all <;> omega
theorem enD_at {ds : List D} {i : Nat} {d : D} (h : (enD ds)[i]? = some d) : ∃ x, ds[i]? = some x ∧ d = .tup [.int (i : Nat), x] := by
  unfold enD at h
  rw [List.getElem?_mapIdx] at h
  cases q : ds[i]? with
  | none => rw [q] at h; cases h
  | some x =>
    rw [q] at h
    exact ⟨x, rfl, by simpa using h.symm⟩
theorem rows2_at {xs ys : List D} {n i : Nat} {d : D} (h : (rows [xs, ys] n)[i]? = some d) : i < n ∧ d = .tup [xs.getD i .non, ys.getD i .non] := by
  unfold rows at h
  rw [List.getElem?_map] at h
  cases q : (List.range n)[i]? with
  | none => rw [q] at h; cases h
  | some k =>
    rw [q] at h
    obtain ⟨h1, h2⟩ := List.getElem?_eq_some_iff.mp q
    simp at h1 h2 h
    subst h2
    exact ⟨h1, by simp [← h]⟩
theorem pre_le {a : List Int} (h : ∀ x ∈ a, 0 ≤ x) (k : Nat) : pre a k ≤ a.sum := by
  have e : a.sum = (a.take k).sum + (a.drop k).sum := by rw [← List.sum_append, List.take_append_drop]
  have := sum_nn (l := a.drop k) fun x hx => h x (List.mem_of_mem_drop hx)
  unfold pre
  omega
theorem pre_nn {a : List Int} (h : ∀ x ∈ a, 0 ≤ x) (k : Nat) : 0 ≤ pre a k := sum_nn fun x hx => h x (List.mem_of_mem_take hx)
abbrev cnt (a b : List D) : D := .ins "Counts" ["arrivals", "departures"] [.tup a, .tup b]
end
end LW
set_option Elab.async false
set_option linter.all false
set_option maxRecDepth 100000
set_option maxHeartbeats 4000000
/-! What is wanted of a result: the forms of PLD, PLF, PLH. -/
namespace PL
open PySem PySem.Spec PyProof.Rows L2 ClX
@[simp ↓] theorem wp_itmD {cn : Str} {F : List D → R D} {f g : FE} {ρ : Env} {S : List D} {Q : D × List D → Prop} {EX : EXT} : Sat (itmD cn F f g ρ S) Q EX ↔ Sat (f ρ S >>= fun x => g ρ x.2 >>= fun y => match x.1 with
  | .ins c _ _ => if c = cn then noX (F [x.1, y.1]) >>= fun d => R.ok (d, y.2) else R.bad
  | _ => R.bad) Q EX := Iff.rfl
@[simp ↓] theorem wp_strC {cn : Str} {F : List D → R D} {f : FE} {ρ : Env} {S : List D} {Q : D × List D → Prop} {EX : EXT} : Sat (strC cn F f ρ S) Q EX ↔ Sat (f ρ S >>= fun x => match x.1 with
  | .ins c _ _ => if c = cn then noX (F [x.1]) >>= fun d => match d with
    | .str y => R.ok (.str y, x.2)
    | _ => R.bad else R.bad
  | _ => R.bad) Q EX := Iff.rfl
@[simp ↓] theorem wp_jnE {h : FJ} {ρ : Env} {S : List D} {Q : D × List D → Prop} {EX : EXT} : Sat (jnE h ρ S) Q EX ↔ Sat (h Str.empty ρ S >>= fun r => R.ok (.str r.1, r.2)) Q EX := Iff.rfl
@[simp ↓] theorem wp_nilJ {acc : Str} {ρ : Env} {S : List D} {Q : Str × List D → Prop} {EX : EXT} : Sat (nilJ acc ρ S) Q EX ↔ Q (acc, S) := Iff.rfl
@[simp ↓] theorem wp_consJ {f : FE} {h : FJ} {acc : Str} {ρ : Env} {S : List D} {Q : Str × List D → Prop} {EX : EXT} : Sat (consJ f h acc ρ S) Q EX ↔ Sat (f ρ S >>= fun x => match x.1 with
  | .str y => if (acc ++ y).length ≤ LINE then h (acc ++ y) ρ x.2 else R.bad
  | _ => R.bad) Q EX := Iff.rfl
@[simp ↓] theorem wp_eqC {neg : Bool} {cn : Str} {F : List D → R D} {f g : FE} {ρ : Env} {S : List D} {Q : D × List D → Prop} {EX : EXT} : Sat (eqC neg cn F f g ρ S) Q EX ↔ Sat (f ρ S >>= fun x => g ρ x.2 >>= fun y => (match x.1, y.1 with
  | .ins c ns vs, .ins c' ns' vs' => if c = cn ∧ c' = cn then noX (F [.ins c ns vs, .ins c' ns' vs']) else R.bad
  | .ins _ _ _, .cls _ => R.bad
  | .cls _, .ins _ _ _ => R.bad
  | .ins _ _ _, .exn _ _ _ => R.bad
  | .exn _ _ _, .ins _ _ _ => R.bad
  | .ins c ns vs, d => if c = cn then noX (F [.ins c ns vs, d]) else R.bad
  | d, .ins c ns vs => if c = cn then noX (F [.ins c ns vs, d]) else R.bad
  | _, _ => R.bad) >>= fun d => match d with
  | .bl k => R.ok (.bl (k != neg), y.2)
  | _ => R.bad) Q EX := Iff.rfl
@[simp ↓] theorem wp_nilM {ρ : Env} {S : List D} {Q : List (Bool × D) × List D → Prop} {EX : EXT} : Sat (nilM ρ S) Q EX ↔ Q ([], S) := Iff.rfl
@[simp ↓] theorem wp_valM {f : FE} {h : FM} {ρ : Env} {S : List D} {Q : List (Bool × D) × List D → Prop} {EX : EXT} : Sat (valM f h ρ S) Q EX ↔ Sat (f ρ S >>= fun x => h ρ x.2 >>= fun y => R.ok ((false, x.1) :: y.1, y.2)) Q EX := Iff.rfl
@[simp ↓] theorem wp_ownM {f : FA} {h : FM} {ρ : Env} {S : List D} {Q : List (Bool × D) × List D → Prop} {EX : EXT} : Sat (ownM f h ρ S) Q EX ↔ Sat (f ρ S >>= fun x => h ρ x.2 >>= fun y => R.ok ((true, .lst x.1) :: y.1, y.2)) Q EX := Iff.rfl
@[simp ↓] theorem wp_mixS {is : List Nat} {fl : List Bool} {f : FM} {ρ : Env} {S : List D} {Q : Ctl × Env × List D → Prop} {EX : EXT} : Sat (mixS is fl f ρ S) Q EX ↔ Sat (f ρ S >>= fun x => if x.1.map (·.1) = fl then stD is x.1 ρ >>= fun ρ1 => R.ok (.nx, ρ1, x.2) else R.bad) Q EX := Iff.rfl
@[simp ↓] theorem wp_stD_nil {ρ : Env} {Q : Env → Prop} {EX : EXT} : Sat (stD [] [] ρ) Q EX ↔ Q ρ := Iff.rfl
@[simp ↓] theorem wp_stD_cons {i : Nat} {is : List Nat} {d : Bool × D} {ds : List (Bool × D)} {ρ : Env} {Q : Env → Prop} {EX : EXT} : Sat (stD (i :: is) (d :: ds) ρ) Q EX ↔ Sat (setE ρ i d.2 >>= fun ρ1 => stD is ds ρ1) Q EX := Iff.rfl
@[simp] theorem kindD_str (x : Str) : kindD "str" (.str x) = true := rfl
@[simp] theorem fmtD_int (i : Int) : fmtD (.int i) = if i.natAbs.log2 < 1920 then some (.str (toString i)) else none := rfl
@[simp] theorem fmtD_str (x : Str) : fmtD (.str x) = if x.length ≤ LINE then some (.str x) else none := rfl
@[simp] theorem strD_int (i : Int) : strD [.int i] = if i.natAbs.log2 < 1920 then some (.str (toString i)) else none := rfl
@[simp] theorem addD_str (a b : Str) : addD (.str a) (.str b) = if a.length + b.length ≤ LINE then some (.str (a ++ b)) else none := by
  show (none : Option D).or ((addS (.str a) (.str b)).or ((none : Option D).or (none : Option D))) = _
  simp only [addS, Option.none_or, Option.or_none]
theorem joinD_map (a : Str) (ys : List Str) : joinD (.str a) [.lst (ys.map D.str)] = if (ys.map (·.length)).sum + ys.length * a.length ≤ LINE then some (.str (Txt.join a ys)) else none := by
  show (D.strs (ys.map D.str)).bind _ = _
  rw [D.strs_map]
  rfl
end PL
set_option Elab.async false
set_option linter.all false
set_option maxRecDepth 100000
set_option maxHeartbeats 4000000
/-! The law's own call where lambdas are made: tables of code objects stand in the heap. -/
namespace PL
open PySem PySem.Spec PyProof.Rows L2
/-- what the top knows of the tables: cs, code objects with their tables, still empty -/
structure Tops (K : PySem.W.Frag) (mg : Str → Option Value) (h : Heap) (cs : List (Addr × Addr)) : Prop where
  emp : ∀ p ∈ cs, h.get? p.2 = some { cls := .none, data := .fields #[] }
  out : ∀ p ∈ cs, K.lookup p.2 = none
  code : ∀ p ∈ cs, PySem.W.CodeHd h p.1 p.2
  bm : ∃ (bm : Addr) (ob : Obj), mg "__builtins__" = some (.ref bm) ∧ bm ≠ builtinsNs ∧ h.get? bm = some ob ∧ ob.cls = .type "module" ∧ ob.dict = some builtinsNs ∧ ob.data = .plain
theorem law_gT {Pg : Program} {w : World} {K : PySem.W.Frag} {mg mb : Str → Option Value} {k : Nat} {fA a : Addr} {fd : FuncData} {x : Str} {sp : Sp} {s1 : Shared} {vs : List Value} {ns : List Int} {cs : List (Addr × Addr)}
    (kin : K.In s1.heap) (hns : s1.heap.Ns mainGlobals mg) (hb : s1.heap.Ns builtinsNs mb) (hbb : ∀ y : Str, y ≠ "__name__" → mb y = bootBuiltins y) (lim : s1.heap.NoLimit) (hg : s1.gens = #[])
    (tp : Tops K mg s1.heap cs)
    (ha : s1.heap.get? a = some { cls := .type "list", data := .seq vs.toArray }) (hi : PyProof.Rows.IntsAre vs ns) (hl : ns.length ≤ sizeLine) (hr : Room k callerA)
    (F : ∀ base : Heap, K.In base → base.Ns mainGlobals mg → (∀ p ∈ cs, LamX.TabB base mg p.1 p.2) → FnG Pg w K mg base k fA fd [x] sp) (bnd : ∀ (s : Shared) (u : Value), BindsTo s fd ⟨[u], []⟩ [(x, u)])
    (hsp : ∀ H : Hp, (∀ p ∈ cs, H p.2 = some (.tbl #[])) → a ∉ cs.map (·.2) → SqL K H a (ns.map V.int) → sp [.ref a] H (fun v _ => v = .bl true) fun _ _ _ => False) :
    codeAny (model Pg w) callerA (.call (.ref fA) ⟨[.ref a], []⟩) (fun r s' => r = .ok (.ret (.bool true)) ∧ OldK s1.heap s'.heap ∧ s'.os = s1.os ∧ AllBare s'.gens) s1 := by
  have rv := vals_ints hi
  have ln := hi.length
  have na : a ∉ cs.map (·.2) := fun q => by
    obtain ⟨p, hp, e⟩ := List.mem_map.mp q
    have e2 := tp.emp p hp
    rw [e, ha] at e2
    have e3 := congrArg Obj.data (Option.some.inj e2)
    cases e3
  -- the tables are tracked, and the script where the written part does not have it
  suffices main : ∀ (H : Hp), (∀ p ∈ cs, H p.2 = some (.tbl #[])) → (∀ b u, b ∉ cs.map (·.2) → H b = some u → b = a ∧ K.lookup a = none ∧ ∃ o xs, u = .frz o (.lst xs)) → SqL K H a (ns.map V.int) → HOk Pg w H s1.heap →
      codeAny (model Pg w) callerA (.call (.ref fA) ⟨[.ref a], []⟩) (fun r s' => r = .ok (.ret (.bool true)) ∧ OldK s1.heap s'.heap ∧ s'.os = s1.os ∧ AllBare s'.gens) s1 by
    have tok : ∀ (H : Hp) (b : Addr), b ∈ cs.map (·.2) → H b = some (.tbl #[]) → ∀ u, H b = some u → ObjOk Pg w H s1.heap b u := fun H b hb e u q => by
      obtain ⟨p, hp, rfl⟩ := List.mem_map.mp hb
      rw [e] at q
      cases q
      exact tp.emp p hp
    by_cases hk : ∃ o, K.lookup a = some o
    · obtain ⟨o, hk⟩ := hk
      have eo := kin a o hk
      rw [ha] at eo
      cases eo
      generalize hHH : (fun b => if b ∈ cs.map (·.2) then some (HO.tbl #[]) else none : Hp) = HH
      have hT : ∀ b, b ∈ cs.map (·.2) → HH b = some (.tbl #[]) := fun b hb => by
        rw [← hHH]
        exact if_pos hb
      have hN : ∀ b, b ∉ cs.map (·.2) → HH b = none := fun b hb => by
        rw [← hHH]
        exact if_neg hb
      refine main HH (fun p hp => hT _ (List.mem_map_of_mem hp)) (fun b u nb q => ?_) (.inr ⟨_, vs.toArray, _, hk, rfl, rfl, rfl, by rw [List.size_toArray, ln]; exact hl, by simpa using rv⟩) (fun b u q => ?_)
      · rw [hN b nb] at q
        cases q
      · by_cases nb : b ∈ cs.map (·.2)
        · exact tok _ b nb (hT b nb) u q
        · rw [hN b nb] at q
          cases q
    · have hk0 : K.lookup a = none := by
        cases q : K.lookup a with
        | none => rfl
        | some o => exact absurd ⟨o, q⟩ hk
      generalize hHH : upd (fun b => if b ∈ cs.map (·.2) then some (HO.tbl #[]) else none) a (.frz { cls := .type "list", data := .seq vs.toArray } (.lst (ns.map V.int))) = HH
      have hA : HH a = some (.frz { cls := .type "list", data := .seq vs.toArray } (.lst (ns.map V.int))) := by rw [← hHH, upd_same]
      have hT : ∀ b, b ∈ cs.map (·.2) → HH b = some (.tbl #[]) := fun b hb => by
        rw [← hHH, upd_ne (fun e => na (by rw [← e]; exact hb))]
        exact if_pos hb
      have hN : ∀ b, b ∉ cs.map (·.2) → b ≠ a → HH b = none := fun b hb ne => by
        rw [← hHH, upd_ne ne]
        exact if_neg hb
      refine main HH (fun p hp => hT _ (List.mem_map_of_mem hp)) (fun b u nb q => ?_) (.inl (.inr ⟨_, hA⟩)) (fun b u q => ?_)
      · by_cases hba : b = a
        · rw [hba, hA] at q
          cases q
          exact ⟨hba, hk0, _, _, rfl⟩
        · rw [hN b nb hba] at q
          cases q
      · by_cases nb : b ∈ cs.map (·.2)
        · exact tok _ b nb (hT b nb) u q
        · by_cases hba : b = a
          · rw [hba, hA] at q
            cases q
            rw [hba]
            exact ⟨ha, by rw [List.length_map]; exact hl, vs, _, rv, ha⟩
          · rw [hN b nb hba] at q
            cases q
  intro H hH hO hS hok
  have isT : ∀ {b : Addr} {o : Obj}, s1.heap.get? b = some o → b ∈ cs.map (·.2) → o.cls = .none ∧ o.data = .fields #[] := fun {b o} e hb => by
    obtain ⟨p, hp, rfl⟩ := List.mem_map.mp hb
    rw [tp.emp p hp] at e
    cases e
    exact ⟨rfl, rfl⟩
  have keepB : ∀ {b : Addr} {o : Obj}, s1.heap.get? b = some o → (b ∉ cs.map (·.2)) → (b = a → K.lookup a ≠ none ∨ o.cls ≠ .type "list") → (hidT s1.heap H).get? b = some o := fun {b o} e nb n => hidT_get e (by
    cases q : H b with
    | none => rfl
    | some u =>
      obtain ⟨hba, hk, _⟩ := hO b u nb q
      rcases n hba with z | z
      · exact absurd hk z
      · rw [hba, ha] at e
        cases e
        exact absurd rfl z)
  have dictB : ∀ {b : Addr} {o : Obj} {es : Array DictEntry} {ep : Nat}, s1.heap.get? b = some o → o.data = .dict es ep → (hidT s1.heap H).get? b = some o := fun {b o es ep} e d => hidT_get e (by
    cases q : H b with
    | none => rfl
    | some u =>
      by_cases nb : b ∈ cs.map (·.2)
      · have z := (isT e nb).2
        rw [d] at z
        cases z
      · obtain ⟨hba, hk, _⟩ := hO b u nb q
        rw [hba, ha] at e
        cases e
        cases (show Data.seq vs.toArray _ = Data.dict es ep from d))
  have nsB : ∀ {b : Addr} {m : Str → Option Value}, s1.heap.Ns b m → (hidT s1.heap H).Ns b m := fun {b m} hN => by
    obtain ⟨o, es, ep, e, d, r⟩ := hN
    exact ⟨o, es, ep, dictB e d, d, r⟩
  have kinB : K.In (hidT s1.heap H) := fun b o e => keepB (kin b o e) (fun nb => by
    obtain ⟨p, hp, rfl⟩ := List.mem_map.mp nb
    rw [tp.out p hp] at e
    cases e) fun hba => .inl (by rw [← hba, e]; exact fun z => nomatch z)
  have e0 : Env0 Pg w K mg (hidT s1.heap H) callerA [] s1 H := by
    obtain ⟨mc, h1, h2⟩ := lim
    exact { frames := rfl, mod := ⟨kinB, nsB hns, ⟨mb, nsB hb, hbb⟩, mc, nsB h1, h2⟩, bs := fun b o e => of_hidT e, bsz := Nat.le_of_eq (hidT_size _ _), funs := trivial, frf := (fun b hb => nomatch hb), hok := hok, bare := .of_eq hg }
  have tb : ∀ p ∈ cs, LamX.TabB (hidT s1.heap H) mg p.1 p.2 := fun p hp => by
    refine ⟨?_, ?_, fun q => ?_⟩
    · obtain ⟨o, us, fi, t1, fl, t2, fn, tx, t3, e, ecl, edt, e11, rest⟩ := tp.code p hp
      refine ⟨o, us, fi, t1, fl, t2, fn, tx, t3, keepB e (fun nb => ?_) fun _ => .inr ?_, ecl, edt, e11, rest⟩
      · have z := (isT e nb).1
        rw [ecl] at z
        cases z
      · rw [ecl]
        intro z
        have z2 := congrArg (fun v : Value => match v with | .type t => t | _ => "") z
        exact absurd z2 (by decide)
    · obtain ⟨bm, ob, b1, b2, b3, b4, b5, b6⟩ := tp.bm
      have nb : bm ∉ cs.map (·.2) := fun q => by
        have z := (isT b3 q).2
        rw [b6] at z
        cases z
      refine ⟨bm, ob, b1, b2, fun q => ?_, fun q => nb (by rw [q]; exact List.mem_map_of_mem hp), keepB b3 nb fun _ => .inr ?_, b4, b5, b6⟩
      · obtain ⟨o, es, ep, e, d, _⟩ := hns
        rw [q, e] at b3
        cases b3
        rw [d] at b6
        cases b6
      · rw [b4]
        intro z
        have z2 := congrArg (fun v : Value => match v with | .type t => t | _ => "") z
        exact absurd z2 (by decide)
    · obtain ⟨o, es, ep, e, d, _⟩ := hns
      have z := (isT e (by rw [q]; exact List.mem_map_of_mem hp)).2
      rw [d] at z
      cases z
  refine codeAny_mono ((F _ kinB (nsB hns) tb).go callerA [] s1 H ⟨[.ref a], []⟩ [.ref a] [.ref a] _ _ hr rfl e0 (bnd s1 (.ref a)) (.cons rfl .nil) (hsp H hH na hS)) fun res s' hq => ?_
  match res, hq with
  | .ok (.ret u), hq =>
    obtain ⟨v, H', os, bare, un, hok', r', q⟩ := hq
    cases (show v = .bl true from q)
    cases (show u = Value.bool true from r')
    have kept : ∀ b o, b ∉ cs.map (·.2) → s1.heap.get? b = some o → s'.heap.get? b = some o := fun b o nb e => by
      cases q : H b with
      | none => exact un.keep b o e q (fun z => nomatch z) (fun z => nomatch z)
      | some u =>
        obtain ⟨_, _, ob, xs, rfl⟩ := hO b u nb q
        obtain ⟨e1, _⟩ := hok b _ q
        obtain ⟨e2, _⟩ := hok' b _ (un.frzs b ob _ q)
        rw [e] at e1
        cases e1
        exact e2
    have more : ∀ p ∈ cs, ∃ ps : Array Value, s'.heap.get? p.2 = some { cls := .none, data := .fields ps } := fun p hp => by
      obtain ⟨ps, z⟩ := un.tbls p.2 #[] (hH p hp)
      exact ⟨_, hok' p.2 _ z⟩
    refine ⟨rfl, ⟨fun b o e => ?_, fun b o e => ?_⟩, os, bare⟩
    · by_cases nb : b ∈ cs.map (·.2)
      · obtain ⟨p, hp, rfl⟩ := List.mem_map.mp nb
        obtain ⟨ps, z⟩ := more p hp
        have e2 := tp.emp p hp
        rw [e2] at e
        cases e
        exact .inr (.inl ⟨((tp.code p hp).tab e2).isCodeTable, rfl, #[], ps, rfl, by rw [Array.empty_append]; exact z⟩)
      · exact .inl (kept b o nb e)
    · by_cases nb : b ∈ cs.map (·.2)
      · obtain ⟨p, hp, rfl⟩ := List.mem_map.mp nb
        obtain ⟨ps, z⟩ := more p hp
        exact ⟨_, z⟩
      · exact ⟨o, kept b o nb e⟩
  | .ok .next, hq => exact False.elim hq
  | .ok .brk, hq => exact False.elim hq
  | .ok .cont, hq => exact False.elim hq
  | .error er, hq => exact False.elim hq
end PL
set_option Elab.async false
set_option linter.all false
set_option maxRecDepth 100000
set_option maxHeartbeats 4000000
/-! min(l, key=f) in the hand layer; a lambda of one parameter that is called where it was made. -/
namespace PL
open PySem PySem.Spec PyProof.Rows L2
end PL
set_option Elab.async false
set_option linter.all false
set_option maxRecDepth 100000
set_option maxHeartbeats 4000000
/-! A lambda of one parameter, called where it was made. -/
namespace PL
open PySem PySem.Spec PyProof.Rows L2
end PL
set_option Elab.async false
set_option linter.all false
set_option maxRecDepth 100000
set_option maxHeartbeats 4000000
/-! A lambda made: the one table that its maker has grows, nothing else. -/
namespace PL
open PySem PySem.Spec PyProof.Rows L2
section
variable {X : Cx} {pins : List (Addr × Obj)} {σ : L2.St} {H : Hp} {s : Shared}
theorem lam_made {T : Tb} {cd P : Addr} {pr : Arguments} {bd : Expr} {scp : Scope} {ps : Pos} {E : Value → Shared → Prop} {Q : Value → Shared → Prop} (J : Inv X pins σ H s) (tb : LamX.TabB X.base X.mg cd P) (ecd : X.env.code = .ref cd)
    (mem : (P, X.env.qual ++ "<lambda>") ∈ T) (one : ∀ p ∈ T, p.1 = P → p.2 = X.env.qual ++ "<lambda>") (tt : LamX.Tabs T H) (nodef : defaultsOf pr X.env = ([], [])) (fr : ∀ y ∈ scp.names, y.2 = .free → ∃ c, X.env.cells.lookup y.1 = some c)
    (go : ∀ (f c2 : Addr) (pm ctv : Value) (H1 : Hp) (s1 : Shared), Inv X pins σ H1 s1 → (∀ b o, b ≠ P → H b = some o → H1 b = some o) → LamX.Tabs T H1 →
      s1.heap.get? f = some (PySem.W.kla_obj "<lambda>" (X.env.qual ++ "<lambda>") pr bd scp (cloFrom X.env.cells scp.names []) pm c2 ctv) → H1 f = none → f ∉ frs X.stack → H1 c2 = some (LamX.CodeO c2 (X.env.qual ++ "<lambda>")) → Q (.ref f) s1) :
    wpAny (model X.prog X.w) X.A (eval (.Lambda pr bd scp ps) X.env) Q E s := by
  obtain ⟨tab, atP, tri, amg⟩ := tt _ mem
  have hp : s.heap.get? P = some { cls := .none, data := .fields tab } := J.hok P _ atP
  have young : ∀ f, s.heap.objs.size ≤ f → f ∉ frs X.stack := fun f hf z => by
    rcases List.mem_cons.mp (J.stkSub _ z) with e | e
    · have l := J.lt
      rw [← e] at l
      exact absurd (Nat.lt_of_lt_of_le l hf) (Nat.lt_irrefl _)
    · exact J.nofs hf e
  have gl : X.env.globals = mainGlobals := J.ok.glob
  refine PySem.W.kla_eval nodef ?_
  generalize hq : X.env.qual ++ "<lambda>" = qn at *
  cases cam : codeAmong ps tab.toList with
  | none =>
    refine PySem.W.kla_makeFunction (P := P) (c := cd) (ps := tab) (mg := X.mg)
      (closure_ok fr) gl (J.mod.glob.keeps J.bk) ecd (tb.code.keeps J.bk) hp tri cam tb.gP
      (tb.bm.keeps J.bk) fun h1 ctv h2 tk keep old lt2 rec2 tab2 => ?_
    obtain ⟨c3, oc, ws, t, e3, hoc, hdc, hvc⟩ := rec2
    cases e3
    have big : s.heap.objs.size ≤ h2.objs.size := by omega
    have fresh1 : H h1 = none := J.hok.fresh old
    have neP : P ≠ h1 := ne_of_none atP fresh1
    generalize hfo : PySem.W.kla_obj "<lambda>" qn pr bd scp (cloFrom X.env.cells scp.names []) ((X.mg "__name__").getD .none) h1 ctv = fo
    have J1 := LamX.inv_table (t' := tk) (c := h1) (q := qn) (more := #[rawInt ps.line, rawInt ps.col, .ref h1]) (h' := h2.push fo) J atP
      (fun b o hb e => Heap.get?_push_of_some _ (keep b o hb e)) (Heap.get?_push_of_some _ tab2) old
      ⟨oc, ws, t, Heap.get?_push_of_some _ hoc, hdc, hvc⟩
    generalize hHH : upd (upd H P (.tbl (tab ++ #[rawInt ps.line, rawInt ps.col, .ref h1]))) h1 (LamX.CodeO h1 qn) = HH at J1
    have far : ∀ b, b ≠ P → b ≠ h1 → HH b = H b := fun b n1 n2 => by rw [← hHH, upd_ne n2, upd_ne n1]
    have rest : ∀ b o, b ≠ P → H b = some o → HH b = some o := fun b o n e => by rw [far b n (ne_of_none e fresh1)]; exact e
    have mine : HH P = some (.tbl (tab ++ #[rawInt ps.line, rawInt ps.col, .ref h1])) := by rw [← hHH, upd_ne neP, upd_same]
    have code : HH h1 = some (LamX.CodeO h1 qn) := by rw [← hHH, upd_same]
    have el : (tab ++ #[rawInt ps.line, rawInt ps.col, .ref h1]).toList = tab.toList ++ [rawInt ps.line, rawInt ps.col, .ref h1] := by simp
    have nf1 : h2.objs.size ≠ h1 := by omega
    have nfP : h2.objs.size ≠ P := Nat.ne_of_gt (Nat.lt_of_lt_of_le (Heap.lt_size hp) big)
    refine go h2.objs.size h1 _ ctv HH _ J1 rest (fun p hpT => ?_) (by rw [hfo]; exact Heap.get?_push_size _ (by rw [← hfo]; rfl)) (by rw [far _ nfP nf1]; exact J.hok.fresh big) (young _ big) code
    by_cases same : p.1 = P
    · rw [one p hpT same, same]
      refine ⟨_, mine, by rw [el]; exact PySem.TriplesOk_snoc _ _ _ _ tri, fun p2 cv hcv => ?_⟩
      rw [el] at hcv
      rcases LamX.among_app _ tri hcv with z | z
      · obtain ⟨c0, e1, e2⟩ := amg p2 cv z
        refine ⟨c0, e1, rest _ _ (fun n => ?_) e2⟩
        rw [n, atP] at e2
        exact LamX.codeO_ne _ (Option.some.inj e2).symm
      · exact ⟨h1, z, code⟩
    · obtain ⟨tab', b1, b2, b3⟩ := tt p hpT
      refine ⟨tab', rest _ _ same b1, b2, fun p2 cv hcv => ?_⟩
      obtain ⟨c0, e1, e2⟩ := b3 p2 cv hcv
      refine ⟨c0, e1, rest _ _ (fun n => ?_) e2⟩
      rw [n, atP] at e2
      exact LamX.codeO_ne _ (Option.some.inj e2).symm
  | some cv =>
    obtain ⟨c2, e, hco⟩ := amg ps cv cam
    subst e
    refine PySem.W.kla_makeFunctionHit (P := P) (c := cd) (ps := tab) (mg := X.mg)
      (closure_ok fr) gl (J.mod.glob.keeps J.bk) ecd (tb.code.keeps J.bk) hp tri cam
      (tb.bm.keeps J.bk) fun ctv h2 tk keep big => ?_
    exact go h2.objs.size c2 _ ctv H _ (J.kept fun b o e => Heap.get?_push_of_some _ (keep b o e)) (fun _ _ _ e => e) tt (Heap.get?_push_size _ rfl) (J.hok.fresh big) (young _ big) hco
end
end PL
set_option Elab.async false
set_option linter.all false
set_option maxRecDepth 100000
set_option maxHeartbeats 4000000
/-! min(e, key=lambda a: ..) over plain data. -/
namespace PL
open PySem PySem.Spec PyProof.Rows L2
def keysL (fb : FE) (ρ : Env) (S : List D) : List D → R (List Int)
  | [] => R.ok []
  | d :: r => noX (fb (some d :: ρ) S) >>= fun y => match y.1 with
    | .int k => keysL fb ρ S r >>= fun ks => R.ok (k :: ks)
    | _ => R.bad
def argK (ks : List Int) : Nat := argBest (fun i j => decide (ks.getD i 0 < ks.getD j 0)) (ks.length - 1)
def minLamE (f fb : FE) : FE := fun ρ S => f ρ S >>= fun x => match x.1 with
  | .lst ds => keysL fb ρ x.2 ds >>= fun ks => R.of (if ds = [] then none else ds[argK ks]?) >>= fun d => R.ok (d, x.2)
  | _ => R.bad
section
variable {X : Cx} {z : Z} {EX : EXT} {B : List Addr} {σ : L2.St} {H H' : Hp} {ρ : Env} {S : List D}
theorem Rel.push {v : V} {d : D} (r : Rel z B [] σ H ρ S) (hz : z.pl = none) (hk : z.kp = []) (hv : Rp z.K z.ca (Frz H (z.L B [])) v d) : Rel z B [] (some v :: σ) H (some d :: ρ) S where
  val := fun i d' n e => by
    cases i with
    | zero =>
      cases e
      exact ⟨v, rfl, hv⟩
    | succ i => exact r.val i d' (fun p hp => nomatch hp) e
  own := fun p hp => nomatch hp
  pool := fun i a e => by rw [hz] at e; cases e
  nd := r.nd
  there := r.there
  ex := r.ex
  new := fun p hp => nomatch hp
  len := congrArg (· + 1) r.len
  tabs := r.tabs
  xt := ⟨r.xt.1, fun i hi => by rw [hk] at hi; cases hi⟩
end
@[simp ↓] theorem wp_minLam {f fb : FE} {ρ : Env} {S : List D} {Q : D × List D → Prop} {EX : EXT} : Sat (minLamE f fb ρ S) Q EX ↔ Sat (f ρ S >>= fun x => match x.1 with
  | .lst ds => keysL fb ρ x.2 ds >>= fun ks => R.of (if ds = [] then none else ds[argK ks]?) >>= fun d => R.ok (d, x.2)
  | _ => R.bad) Q EX := Iff.rfl
end PL
set_option Elab.async false
set_option linter.all false
set_option maxRecDepth 100000
set_option maxHeartbeats 4000000
/-! min of a list of ints, its place. -/
namespace PL
open PySem PySem.Spec PyProof.Rows L2
section
variable {X : Cx} {z : Z} {O : List Nat} {EX : EXT} {e o : Expr} {f : FE} {fa : FA} {p pos apos : Pos}
def leastI : List Int → Int
  | [] => 0
  | [x] => x
  | x :: y :: r => if leastI (y :: r) < x then leastI (y :: r) else x
end
end PL
set_option Elab.async false
set_option linter.all false
set_option maxRecDepth 100000
set_option maxHeartbeats 4000000
/-! Defs that make lambdas; the law's end with tables; an owned list handed back. -/
namespace PL
open PySem PySem.Spec PyProof.Rows L2
/-- a def whose lambdas are noted in a table that is among tb -/
structure MkAt (base : Heap) (mg : Str → Option Value) (tb : Tb) (fd : FuncData) (qn : Str) : Prop where
  ex : ∃ c P, fd.code = .ref c ∧ LamX.TabB base mg c P ∧ (P, qn) ∈ tb ∧ ∀ p ∈ tb, p.1 = P → p.2 = qn
section
variable {Pg : Program} {w : World} {K : PySem.W.Frag} {mg : Str → Option Value} {base : Heap} {ca : Str → Option Addr} {T : Tb}
theorem fn_bodyC {x qual : Str} {st : Stmt} {fA : Addr} {fd : FuncData} {N ps : List Str} {k : Nat} {sp : Sp} (F : Fun K x qual st fA fd) (Sc : FnScope N ps (defScope st)) (num : ∀ vs H Q E, sp vs H Q E → vs.length = ps.length)
    (body : ∀ (cdv : Value), fd.code = cdv → ∀ (A : Around) (up : List PySem.Env) (s : Shared) (H : Hp) (vs : List V) (Q : VK) (E : XK), Room k (A.deeper (envOfC qual (defScope st) s.heap.objs.size fA cdv)) → A.guards = some [] → sp vs H Q E →
      ∃ t, PSs (cxOf CX0 Pg w K mg base N qual (defScope st) fA cdv A up s H E).nox (defBody st) t ∧ t { nx := fun _ H' => Q .non H', rt := Q } (L2.start N vs) H) : FnG Pg w K mg base (k + 1) fA fd ps sp := by
  obtain ⟨oc, od, kV, doc, pm, an, cdv, ct, osl, rfl, lk, hcd⟩ := F.ex
  constructor
  · exact num
  · intro A up s H args us vs Q E hr hgu e0 hb rv hsp
    have hlen := num _ _ _ _ hsp
    have kin : K.In s.heap := e0.mod.kin.keeps fun b o e => (e0.bs b o e).1
    have nolim : s.heap.NoLimit := e0.mod.nolimit.keeps fun b o e => (e0.bs b o e).1
    refine codeAny_call_function hr.depth (kin _ _ lk) rfl Sc.co Sc.gen rfl (PySem.W.codeRec_of kin hcd) (hb _ _ _ _ (wpAny_newFunctionEnv_cells Sc.kind (fun y hy => ?_) fun env he s1 x => ?_))
    · obtain ⟨n, v⟩ := y
      exact (Sc.par n (List.of_mem_zip hy).1).imp id fun q => ⟨q, PySem.W.cellsFrom_some _ _ _ (.inl q)⟩
    · subst he
      obtain ⟨t, ht, hq⟩ := body cdv rfl A up s H vs Q E (hr.deeper _) hgu hsp
      have J : Inv (cxOf CX0 Pg w K mg base N qual (defScope st) fA cdv A up s H E) [] (L2.start N vs) H s1 := inv_start Sc hr.hd e0 hlen rv x
      refine ⟨nolim.keeps x.toInCall.keep, codeAny_func (wpAny_mono (ht.nox.run [] s1 _ H _ J hq) (fun fl s' hs => ?_) fun e s' hs => hs)⟩
      cases fl with
      | ret u => obtain ⟨v, σ', H', J2, r2, q2⟩ := hs; exact ⟨v, H', J2.os, J2.bare, J2.base, J2.hok, r2, q2⟩
      | next => obtain ⟨σ', H', J2, q2⟩ := hs; exact ⟨V.non, H', J2.os, J2.bare, J2.base, J2.hok, rfl, q2⟩
      | brk => obtain ⟨_, _, _, q2⟩ := hs; exact q2.elim
      | cont => obtain ⟨_, _, _, q2⟩ := hs; exact q2.elim
end
/-- return x, x an owned list: a new list -/
def ownN (i : Nat) : FA := fun ρ S => lk ρ i >>= fun d => match d with
  | .lst ds => R.ok (ds, S)
  | _ => R.bad
theorem psn_own {X : Cx} {z : Z} {O : List Nat} {EX : EXT} {x : Str} {p pos : Pos} (i : Nat) (hi : O.contains i = true) (hN : X.N[i]? = some x := by rfl) (hv : Vis X.env.scope x := by first | exact Or.inl rfl | exact Or.inr (Or.inl rfl) | exact Or.inr (Or.inr rfl))
    (hd : (x == ("__debug__" : Str)) = false := by decide) (hcd : (x == ("__classdict__" : Str)) = false := by decide) : PSN X z O EX [.Return (some (.Name x p)) pos] (ownN i) := by
  refine ⟨_, pss_one (ps_ret (pe_var hN hv hd hcd)), fun B P σ H ρ S D' hP rr hs => ?_⟩
  obtain ⟨a, ha⟩ := own_at hP hi
  obtain ⟨e1, xs, ds, e2, e3, q⟩ := rr.own (i, a) ha
  refine ⟨_, e1, ?_⟩
  have hs : Sat (lk ρ i >>= fun d => match d with | .lst ds => R.ok (ds, S) | _ => R.bad) _ EX := hs
  have el : lk ρ i = R.ok (.lst ds) := by
    unfold lk
    rw [e3]
    rfl
  rw [el] at hs
  refine hs a xs H (rr.new (i, a) ha) rr.ex rr.tabs e2 (q.mono (frz_sub fun b hb => ?_))
  unfold Z.L
  rcases List.mem_cons.mp hb with h | h
  · rw [h]
    exact List.mem_append_left _ (List.mem_map_of_mem (f := (·.2)) ha)
  · exact List.mem_append_right _ h
/-! the goal that k_head leaves, where the def nm makes lambdas -/
theorem walk_gT {l : PySem.W.OpenLaw} {k : Nat} {q : Program} {loose : List Str} {XP : (Str → Option Value) → Heap → Prop} {YP : World → Heap → Prop} {d : DefRec} {K : Params → PySem.W.Frag} {x nm : Str} {G : List D → R D}
    (hn : l.most = some 63) (hdf : d.params.defaults = []) (hr : Room k callerA) (hY : ∀ (w : World) (h : Heap), YP w h → (K w.params).In h) (hrec : ((recsOf q).any fun e => e.name == nm) = true)
    (F : ∀ (w : World) (mg : Str → Option Value) (fA : Addr) (h : Heap), (K w.params).In h → h.Ns mainGlobals mg → mg d.name = some (.ref fA) → ∀ (f c P : Addr) (o : Obj) (fd0 : FuncData), mg nm = some (.ref f) → h.get? f = some o → o.data = .func fd0 → fd0.code = .ref c → PySem.W.CodeHd h c P →
      (K w.params).lookup P = none ∧ ∃ fd : FuncData, (∀ (s : Shared) (u : Value), BindsTo s fd ⟨[u], []⟩ [(x, u)]) ∧ ∀ base : Heap, (K w.params).In base → base.Ns mainGlobals mg → LamX.TabB base mg c P → ∃ ca, FnG l.prog w (K w.params) mg base k fA fd [x] (spF (K w.params) ca [(P, nm ++ ".<locals>." ++ "<lambda>")] G))
    (hG : ∀ ns : List Int, ns.length ≤ 63 → G [.scr ns] = R.ok (.bl true)) : PySem.W.WalkO q loose XP YP l.row.toRowW d [] (fun f vs => PySem.call f vs) := by
  refine Att.attach_call hn hdf fun w s₀ s₁ mg mb fa o pm cd doc a vs ns Gr Y ho hd hcd hmg hobj hints hlen hg => ?_
  have kin := hY w _ Y
  obtain ⟨dL, hm, hn1⟩ := List.any_eq_true.mp hrec
  have en : dL.name = nm := beq_iff_eq.mp hn1
  obtain ⟨f, of_, fd0, c, P, g1, g2, g3, g4, g5, g6⟩ := Gr.T.tab dL hm
  rw [en] at g1
  obtain ⟨nP, fd, hb, hF⟩ := F w mg fa _ kin Gr.T.g hmg f c P of_ fd0 g1 g2 g3 g4 (PySem.W.CodeHd.of g5 g6)
  have big : ns.length ≤ sizeLine := by rw [sizeLine_eq]; omega
  have eT : s₁.heap.get? P = some { cls := .none, data := .fields #[] } := g6.2
  refine law_gT (cs := [(c, P)]) (sp := fun vs H Q E => ∃ (ns : List Int) (a : Addr), ns.length ≤ 63 ∧ vs = [.ref a] ∧ H P = some (.tbl #[]) ∧ a ≠ P ∧ SqL (K w.params) H a (ns.map V.int) ∧ ∀ H', Q (.bl true) H') kin Gr.T.g Gr.T.b Gr.T.builtins Gr.T.nolimit hg ⟨fun p hp => ?_, fun p hp => ?_, fun p hp => ?_, Gr.T.bmain⟩ hobj hints big hr (fun base h1 h2 h3 => ?_) hb fun H hT hna hS => ⟨ns, a, hlen, rfl, hT (c, P) (by simp), fun e => hna (by simp [e]), hS, fun _ => rfl⟩
  · rw [List.mem_singleton.mp hp]
    exact eT
  · rw [List.mem_singleton.mp hp]
    exact nP
  · rw [List.mem_singleton.mp hp]
    exact PySem.W.CodeHd.of g5 g6
  · obtain ⟨ca, FG⟩ := hF base h1 h2 (h3 (c, P) (by simp))
    refine ⟨fun vs H Q E h => ?_, fun A up s H args us vs Q E hr hgu e0 hb r h => FG.go A up s H args us vs Q E hr hgu e0 hb r ?_⟩
    · obtain ⟨ns, a, _, rfl, _⟩ := h
      rfl
    · obtain ⟨ns, a, hl, rfl, hP, hne, hS, hq⟩ := h
      have tt : LamX.Tabs [(P, nm ++ ".<locals>." ++ "<lambda>")] H := fun p hp => by
        rw [List.mem_singleton.mp hp]
        exact LamX.TabS.nil hP
      refine ⟨[.scr ns], [P], (by simp), fun b hb => ?_, ⟨(by simp [tbs]), fun b hb => hb, tt⟩, .cons (.scr ?_) .nil, ?_⟩
      · rw [List.mem_singleton.mp hb, hP]
        exact fun z => nomatch z
      · rcases hS with hS | hS
        · refine .inl ?_
          rcases hS with hS | ⟨o, hS⟩
          · exact .inl (frz_of hS (by simpa using hne))
          · exact .inr ⟨o, frz_of hS (by simpa using hne)⟩
        · exact .inr hS
      · rw [hG ns hl]
        exact fun v H' _ _ hv => by
          cases hv
          exact hq H'
@[simp ↓] theorem wp_ownN {i : Nat} {ρ : Env} {S : List D} {Q : List D × List D → Prop} {EX : EXT} : Sat (ownN i ρ S) Q EX ↔ Sat (lk ρ i >>= fun d => match d with
  | .lst ds => R.ok (ds, S)
  | _ => R.bad) Q EX := Iff.rfl
end PL
set_option Elab.async false
set_option linter.all false
set_option maxRecDepth 100000
set_option maxHeartbeats 4000000
/-! xs[::-1] of a tuple. -/
namespace PL
open PySem PySem.Spec PyProof.Rows L2 HT
section
variable {X : Cx} {z : Z} {O : List Nat} {EX : EXT} {e : Expr} {f : FE} {pos : Pos}
def revD : D → Option D | .tup ds => some (.tup ds.reverse) | _ => none
theorem RpA.reverse {K : PySem.W.Frag} {ca : Str → Option Addr} {F : Hp} : ∀ {xs : List V} {ds : List D}, RpA K ca F xs ds → RpA K ca F xs.reverse ds.reverse
  | _, _, .nil => .nil
  | _, _, .cons h r => by
    rw [List.reverse_cons, List.reverse_cons]
    exact (RpA.reverse r).append (.cons h .nil)
end
end PL
set_option Elab.async false
set_option linter.all false
set_option maxRecDepth 100000
set_option maxHeartbeats 4000000
/-! A class as a value: what it holds, its making, its classmethods. -/
namespace PL
open PySem PySem.Spec PyProof.Rows L2 ClX
section
variable {X : Cx} {z : Z} {O : List Nat} {EX : EXT} {e o : Expr} {es : List Expr} {f fx : FE} {fa : FA} {C fA : Addr} {fd : FuncData} {k : Nat} {ps : List Str} {x m : Str} {p pos apos : Pos} {sp : Sp} {E : XK} {tx ta : TE} {t : TA}
def clsConD (cn : Str) (d0 : D) : D → Option D | .cls c => if c = cn then some d0 else none | _ => none
def mkV (cn : Str) (nm : List Str) (F : List D → R (List D)) (n : Nat) (ix : List Nat) (fx : FE) (fa : FA) : FE := fun ρ S => fx ρ S >>= fun c => match c.1 with
  | .cls c' => if c' = cn then mkI cn nm F n 0 ix fa nilA ρ c.2 else R.bad
  | _ => R.bad
def cmD (cn : Str) (F : List D → R D) (fa : FA) : FE := fun ρ S => fa ρ S >>= fun x => noX (F (.cls cn :: x.1)) >>= fun d => R.ok (d, x.2)
/-! ### own + -/
def addC (cn : Str) (F : List D → R D) (f g : FE) : FE := fun ρ S => f ρ S >>= fun x => g ρ x.2 >>= fun y => match x.1, y.1 with
  | .ins c _ _, .ins c' _ _ => if c = cn ∧ c' = cn then noX (F [x.1, y.1]) >>= fun d => R.ok (d, y.2) else R.bad
  | _, _ => R.bad
/-! ### what is wanted of them -/
@[simp ↓] theorem wp_addC {cn : Str} {F : List D → R D} {f g : FE} {ρ : Env} {S : List D} {Q : D × List D → Prop} {EX : EXT} : Sat (addC cn F f g ρ S) Q EX ↔ Sat (f ρ S >>= fun x => g ρ x.2 >>= fun y => match x.1, y.1 with
  | .ins c _ _, .ins c' _ _ => if c = cn ∧ c' = cn then noX (F [x.1, y.1]) >>= fun d => R.ok (d, y.2) else R.bad
  | _, _ => R.bad) Q EX := Iff.rfl
@[simp ↓] theorem wp_cmD {cn : Str} {F : List D → R D} {fa : FA} {ρ : Env} {S : List D} {Q : D × List D → Prop} {EX : EXT} : Sat (cmD cn F fa ρ S) Q EX ↔ Sat (fa ρ S >>= fun x => noX (F (.cls cn :: x.1)) >>= fun d => R.ok (d, x.2)) Q EX := Iff.rfl
@[simp ↓] theorem wp_mkV {cn : Str} {nm : List Str} {F : List D → R (List D)} {n : Nat} {ix : List Nat} {fx : FE} {fa : FA} {ρ : Env} {S : List D} {Q : D × List D → Prop} {EX : EXT} : Sat (mkV cn nm F n ix fx fa ρ S) Q EX ↔ Sat (fx ρ S >>= fun c => match c.1 with
  | .cls c' => if c' = cn then mkI cn nm F n 0 ix fa nilA ρ c.2 else R.bad
  | _ => R.bad) Q EX := Iff.rfl
@[simp] theorem clsConD_cls {c cn : Str} {d0 : D} : clsConD cn d0 (.cls c) = if c = cn then some d0 else none := rfl
@[simp] theorem revD_tup {ds : List D} : revD (.tup ds) = some (.tup ds.reverse) := rfl
end
end PL
set_option Elab.async false
set_option linter.all false
set_option maxRecDepth 100000
set_option maxHeartbeats 4000000
/-! min(t), a tuple of ints. -/
namespace PL
open PySem PySem.Spec PyProof.Rows L2 ClX
section
variable {X : Cx} {z : Z} {O : List Nat} {EX : EXT} {e : Expr} {fa : FA} {p pos : Pos}
def tupI : D → Option (List Int) | .tup ds => D.ints ds | _ => none
def minTD : List D → Option D | [x] => (tupI x).bind fun ns => if ns = [] then none else some (.int (leastI ns)) | _ => none
@[simp] theorem minTD_tup (a : List Int) : minTD [.tup (a.map D.int)] = if a = [] then none else some (.int (leastI a)) := by
  show ((D.ints (a.map D.int)).bind _) = _
  rw [D.ints_map]
  rfl
end
end PL
set_option Elab.async false
set_option linter.all false
set_option maxRecDepth 100000
set_option maxHeartbeats 4000000
/-! Own exceptions over ValueError, LookupError, ArithmeticError: made, their attributes stored. -/
namespace PL
open PySem PySem.Spec PyProof.Rows L2 Builtin.ObjectAttr
/-- what the written part says of such a class -/
structure OxC (K : PySem.W.Frag) (C : Addr) (bmB : List Value) (newId : String) : Prop where
  q : PySem.W.excInitIn K C bmB newId = true
  ov : PySem.W.excOver K C bmB = true
  hd : PySem.W.hasDictIn K C = true
  sa : PySem.W.findIn K (.ref C) "__setattr__" = some (some (.builtin "object.__setattr__"))
  exC : PySem.W.subIn K (.ref C) (.type "BaseException") = some true
  tyC : PySem.W.typeIn K (.ref C) = some (.type "type")
  kC : PySem.W.keepIn K (.ref C) = true
section
variable {X : Cx} {pins : List (Addr × Obj)} {σ : L2.St} {H : Hp} {s : Shared} {a C dx : Addr} {f : Str} {y : V} {u : Value} {fs : List (Str × V)} {Q : Unit → Shared → Prop} {E : Value → Shared → Prop} {A : Around} {bmB : List Value} {B newId initId : String}
/-- the exception at a has got its dict at dx -/
theorem Inv.exn_dict {hp h' : Heap} {g : Array GenState} {d : Drawn} {t t' : Nat} {os : OsState} {mA : Str → Option Value} {t1 : Addr} (I : Inv X pins σ H ⟨hp, g, d, t, os⟩) (e : H a = some (exo a C none)) (dn : hp.objs.size ≤ dx) (dne : dx ≠ a)
    (k : ∀ b o, b ≠ a → hp.get? b = some o → h'.get? b = some o) (hx : h'.get? a = some ({ cls := .ref C, dict := some dx, data := .fields #[.ref t1, .none, .none, .none, .bool false, .none] } : Obj)) (hn : h'.Ns1 dx mA) (rel : ∀ f, RelO (fs.lookup f) (mA f)) :
    Inv X pins σ (upd (upd H dx (exd dx fs)) a (exo a C (some dx))) ⟨h', g, d, t', os⟩ := by
  have nd := I.hok.fresh dn
  have lt : ∀ {b : Addr} {o : Obj}, hp.get? b = some o → b ≠ dx := fun {b o} w => Nat.ne_of_lt (Nat.lt_of_lt_of_le (Heap.lt_size w) dn)
  have nn : ∀ {b : Addr}, H b = none → b ≠ a := fun {b} n w => by
    subst w
    rw [n] at e
    cases e
  have go : ∀ {b : Addr} {o : HO}, b ≠ a → b ≠ dx → (upd (upd H dx (exd dx fs)) a (exo a C (some dx))) b = H b := fun {b o} h1 h2 => (upd_ne h1).trans (upd_ne h2)
  have U : Un X.fs [] H (upd (upd H dx (exd dx fs)) a (exo a C (some dx))) hp h' := by
    constructor
    · intro b o w n _ _
      exact k b o (nn n) w
    · intro b o w n _ _
      exact ⟨o.slots, k b o (nn n) w⟩
    · intro b o w n _
      rw [go (o := .own a) (nn n) (lt w)]
      exact n
    · intro b o w _
      by_cases hb : b = a
      · subst hb
        exact ⟨_, hx⟩
      · exact ⟨o, k b o hb w⟩
    · intro b xs w
      rw [go (o := .own a) (at_ne e w exo_tup) (ne_of_none w nd)]
      exact w
    · intro b o v w
      rw [go (o := .own a) (at_ne e w exo_frz) (ne_of_none w nd)]
      exact w
    · intro b ps w
      refine ⟨#[], ?_⟩
      rw [go (o := .own a) (at_ne e w exo_tbl) (ne_of_none w nd), w]
      simp
  refine I.un (t' := t') U fun b o w => ?_
  by_cases hb : b = a
  · subst hb
    rw [upd_same] at w
    cases w
    exact exo_ok hx
  · rw [upd_ne hb] at w
    by_cases hd : b = dx
    · subst hd
      rw [upd_same] at w
      cases w
      exact exd_ok hn rel
    · rw [upd_ne hd] at w
      have own_a : ∀ {c : Addr}, H c = some (.own b) → c ≠ a := fun {c} hc => at_ne e hc exo_own
      refine (I.hok b o w).stay (fun c v hc z => k c v (hc.elim (fun z9 => z9 ▸ hb) own_a) z) (fun c hc => ?_) fun c xs hc => ?_
      · rw [go (o := .own a) (own_a hc) (ne_of_none hc nd)]
        exact hc
      · rw [go (o := .own a) (at_ne e hc exo_tup) (ne_of_none hc nd)]
        exact hc
theorem taker_none {K : PySem.W.Frag} (hno : PySem.W.findIn K (.ref C) f = some none) : PySem.W.takerIn K C f = some none := by
  unfold PySem.W.takerIn
  rw [hno]
  rfl
/-- self.f = y, the first one -/
theorem xst_new (SF : StoreFacts B bmB "object.__setattr__" "object") (T : OxC X.K C bmB newId) (I : Inv X pins σ H s) (e : H a = some (exo a C none)) (hno : PySem.W.findIn X.K (.ref C) f = some none) (ry : RelV y u)
    (h : ∀ dx s', H dx = none → dx ≠ a → Inv X pins σ (upd (upd H dx (exd dx [(f, y)])) a (exo a C (some dx))) s' → Q () s') : wpAny (model X.prog X.w) A (setAttr (.ref a) f u) Q E s := by
  obtain ⟨t1, ho⟩ := exo_at I.hok e
  obtain ⟨hp, g, d, t, os⟩ := s
  have kin : X.K.In hp := I.kIn
  obtain ⟨cd, hc, hd'⟩ := PySem.W.any_some T.hd
  have iat : PySem.W.InstAt hp a ({ cls := .ref C, dict := none, data := .fields #[.ref t1, .none, .none, .none, .bool false, .none] } : Obj) C none := ⟨ho, rfl, rfl, trivial⟩
  have has : a ≠ hp.objs.size := Nat.ne_of_lt (Heap.lt_size ho)
  refine PySem.W.set_plain kin iat T.sa (PySem.W.osa_openX (s := ⟨hp, g, d, t + 1, os⟩) SF kin iat T.ov (taker_none hno) fun b => ?_)
  refine wpAny_bind (wpAny_pure (wpAny_bind (PySem.W.instanceDict_exc (t := t1) (c2 := .none) ho (PySem.W.looks_clsIn kin hc) hd' ?_)))
  show wpAny _ _ (storeInDict hp.objs.size (.str f t) f u) _ _ _
  have ho2 := Heap.get?_push_of_some (h := hp) (PySem.W.dictOf [] 0) ho
  refine PySem.HandSPX.store_in_new ⟨_, #[], _, (Heap.get?_update_ne _ _ _ _ has.symm).trans (Heap.get?_push_at rfl rfl), rfl, fun q hq => absurd hq (by simp), fun _ => rfl⟩ fun h' tk' hn hs => ?_
  have hx : h'.get? a = some ({ cls := .ref C, dict := some hp.objs.size, data := .fields #[.ref t1, .none, .none, .none, .bool false, .none] } : Obj) := (hs.2 a has).trans (Heap.get?_update_self _ ho2 rfl)
  refine h hp.objs.size _ (I.hok.fresh (Nat.le_refl _)) has.symm (Inv.exn_dict I e (Nat.le_refl _) has.symm (fun b o hb ho' => ?_) hx hn (relO_put (fs := []) ry fun g => True.intro))
  · exact (hs.2 b (Nat.ne_of_lt (Heap.lt_size ho'))).trans ((Heap.get?_update_ne _ _ _ _ hb).trans (Heap.get?_push_of_some _ ho'))
/-- .. a further one -/
theorem xst_old (SF : StoreFacts B bmB "object.__setattr__" "object") (T : OxC X.K C bmB newId) (I : Inv X pins σ H s) (e : H a = some (exo a C (some dx))) (ed : H dx = some (exd dx fs)) (hl : fs.length ≤ 900) (hno : PySem.W.findIn X.K (.ref C) f = some none) (ry : RelV y u)
    (h : ∀ s', Inv X pins σ (upd H dx (exd dx ((f, y) :: fs))) s' → Q () s') : wpAny (model X.prog X.w) A (setAttr (.ref a) f u) Q E s := by
  obtain ⟨t1, ho⟩ := exo_at I.hok e
  obtain ⟨mA, hns, rel⟩ := exd_at I.hok ed
  have hw := within_of rel
  obtain ⟨hp, g, d, t, os⟩ := s
  obtain ⟨oD, _, _, hoD, _, _⟩ := hns.count hw
  have kin : X.K.In hp := I.kIn
  obtain ⟨cd, hc, hd'⟩ := PySem.W.any_some T.hd
  have iat : PySem.W.InstAt hp a ({ cls := .ref C, dict := some dx, data := .fields #[.ref t1, .none, .none, .none, .bool false, .none] } : Obj) C (some oD) := ⟨ho, rfl, rfl, hoD⟩
  refine PySem.W.set_plain kin iat T.sa (PySem.W.osa_openX (s := ⟨hp, g, d, t + 1, os⟩) SF kin iat T.ov (taker_none hno) fun b => ?_)
  refine wpAny_bind (wpAny_pure (wpAny_bind (wpAny_bind (wpAny_loadPart ho (wpAny_bind ((PySem.W.looks_clsIn kin hc).here ?_))))))
  rw [hd']
  refine wpAny_pure (a := some dx) ?_
  show wpAny _ _ (storeInDict dx (.str f t) f u) _ _ _
  refine PySem.OEX.store_in_old hns hw (by rw [List.length_map]; omega) fun h' tk' hn hs => ?_
  refine h _ (I.write (t' := tk') (x := dx) (e := dx) (o := exd dx ((f, y) :: fs)) (by rw [ed]; exact True.intro) (.inl rfl) (fun b o hb z => (hs.2 b hb).trans z) ?_ (exd_ok hn (relO_put ry rel)))
  obtain ⟨o, _, _, w, _⟩ := hn
  exact ⟨o, w⟩
end
end PL
set_option Elab.async false
set_option linter.all false
set_option maxRecDepth 100000
set_option maxHeartbeats 4000000
namespace PL
open PySem PySem.Spec PyProof.Rows L2
/-- an exception class of one's own, as it is made: over the base B -/
structure OxB (K : PySem.W.Frag) (C : Addr) : Prop where
  ex : ∃ (B newId initId : String) (bmB : List Value), ExcBaseFacts B newId initId bmB ∧ StoreFacts B bmB "object.__setattr__" "object" ∧ OxC K C bmB newId
theorem OxB.exC {K : PySem.W.Frag} {C : Addr} (h : OxB K C) : PySem.W.subIn K (.ref C) (.type "BaseException") = some true := by
  obtain ⟨_, _, _, _, _, _, t⟩ := h.ex
  exact t.exC
theorem OxB.tyC {K : PySem.W.Frag} {C : Addr} (h : OxB K C) : PySem.W.typeIn K (.ref C) = some (.type "type") := by
  obtain ⟨_, _, _, _, _, _, t⟩ := h.ex
  exact t.tyC
theorem OxB.kC {K : PySem.W.Frag} {C : Addr} (h : OxB K C) : PySem.W.keepIn K (.ref C) = true := by
  obtain ⟨_, _, _, _, _, _, t⟩ := h.ex
  exact t.kC
theorem oxb_V {K : PySem.W.Frag} {C : Addr} (t : OxC K C [.type "ValueError", .type "Exception", .type "BaseException", .type "object"] "ValueError.__new__") : OxB K C := ⟨_, _, _, _, PySem.F.excBase_ValueError, PySem.F.store_ValueError, t⟩
/-- self.f = e of an exception that is being made -/
def tSlx (C : Addr) (f : Str) (to te : TE) : TS := fun D σ H => te σ H fun y H1 => to σ H1 fun x H2 => ∃ a : Addr, x = .ref a ∧
  ((H2 a = some (exo a C none) ∧ ∀ dx, H2 dx = none → dx ≠ a → D.nx σ (upd (upd H2 dx (exd dx [(f, y)])) a (exo a C (some dx)))) ∨
    ∃ (dx : Addr) (fs : List (Str × V)), H2 a = some (exo a C (some dx)) ∧ H2 dx = some (exd dx fs) ∧ fs.length ≤ 900 ∧ D.nx σ (upd H2 dx (exd dx ((f, y) :: fs))))
theorem ps_slx {X : Cx} {C : Addr} {o e : Expr} {to te : TE} {f : Str} {p1 pos : Pos} (T : OxB X.K C) (hno : PySem.W.findIn X.K (.ref C) f = some none) (ho : PE X o to) (he : PE X e te) (hs : swapsWith e (some (.Attribute o f p1)) pos.line X.env = pure false := by rfl) :
    PS X (.Assign [.Attribute o f p1] e pos) (tSlx C f to te) := by
  obtain ⟨B, newId, initId, bmB, FB, SF, T⟩ := T.ex
  constructor
  intro pins s σ H D I h
  refine plainObj_wpAny_Assign_Attribute (thn (he.run pins s σ H _ I h) fun v s1 hv => ?_) hs
  obtain ⟨y, H1, I1, r1, q1⟩ := hv
  refine thn (ho.run pins s1 σ H1 _ I1 q1) fun u s2 hu => ?_
  obtain ⟨x, H2, I2, r2, a, rfl, q⟩ := hu
  obtain rfl : u = Value.ref a := r2
  rcases q with ⟨ea, q⟩ | ⟨dx, fs, ea, ed, hl, q⟩
  · exact xst_new SF T I2 ea hno r1 fun dx s' n ne J => ⟨σ, _, J, q dx n ne⟩
  · exact xst_old SF T I2 ea ed hl hno r1 fun s' J => ⟨σ, _, J, q⟩
/-- an exception's __init__: the attributes fs, in the order in which they are stored -/
def spXI (C : Addr) (fs : List Str) : Sp := fun vs H Q _ => ∃ (a : Addr) (ws : List V), vs = .ref a :: ws ∧ ws.length = fs.length ∧ H a = some (exo a C none) ∧
  ∀ (dx : Addr) (H' : Hp), H dx = none → dx ≠ a → H' a = some (exo a C (some dx)) → H' dx = some (exd dx (fs.zip ws).reverse) → (∀ b, b ≠ a → b ≠ dx → H' b = H b) → Q .non H'
section
variable {Pg : Program} {w : World} {K : PySem.W.Frag} {mg : Str → Option Value} {base : Heap} {C fA : Addr} {fd : FuncData} {x qual sx f g : Str} {st : Stmt} {p0 p1 p2 p3 p4 p5 pos pos' : Pos}
theorem fn_x1 (T : OxB K C) (F : Fun K x qual st fA fd) (Sc : FnScope [sx, f] [sx, f] (defScope st)) (hb : defBody st = [.Assign [.Attribute (.Name sx p0) f p1] (.Name f p2) pos]) (hno : PySem.W.findIn K (.ref C) f = some none)
    (v0 : Vis (defScope st) sx) (v1 : Vis (defScope st) f) (d0 : (sx == ("__debug__" : Str)) = false) (d1 : (f == ("__debug__" : Str)) = false) (c0 : (sx == ("__classdict__" : Str)) = false) (c1 : (f == ("__classdict__" : Str)) = false) :
    FnG Pg w K mg base 1 fA fd [sx, f] (spXI C [f]) := by
  refine fn_body F Sc (fun vs H Q E h => ?_) (fun cdv A outer s H vs Q E hr hgu h => ?_)
  · obtain ⟨a, ws, rfl, hl, _⟩ := h
    simp [hl]
  · obtain ⟨a, ws, rfl, hl, ha, h⟩ := h
    match ws, hl with
    | [v], _ =>
      rw [hb]
      refine ⟨_, pss_one (ps_slx (T := T) hno (pe_var (i := 0) rfl v0 d0 c0) (pe_var (i := 1) rfl v1 d1 c1)), v, rfl, .ref a, rfl, a, rfl, .inl ⟨ha, fun dx n ne => ?_⟩⟩
      refine h dx _ n ne upd_same (by rw [upd_ne ne, upd_same]; rfl) fun b h1 h2 => ?_
      rw [upd_ne h1, upd_ne h2]
end
section
variable {X : Cx} {pins : List (Addr × Obj)} {σ : L2.St} {H : Hp} {s : Shared} {C fI : Addr} {k : Nat} {fd : FuncData} {ps nms : List Str}
/-- C(..), its own __init__ -/
theorem run_mkx {Q : XK} {us : List Value} {vs : List V} (T : OxB X.K C) (iC : PySem.W.findIn X.K (.ref C) "__init__" = some (some (.ref fI))) (hf : PySem.W.isFn X.K (.ref fI) = true) (G : FnG X.prog X.w X.K X.mg X.base k fI fd ps (spXI C nms)) (hr : Rm (k + 1) X.A) (hb : Binds X.K fd ps [])
    (I : Inv X pins σ H s) (r : Vals vs us) (hl : vs.length = nms.length) (hz : vs.length ≤ 1000) (q : ∀ (d : Addr) (H' : Hp), H d = none → H' d = some (.xd (nms.zip vs).reverse) → (∀ b, b ≠ d → H' b = H b) → Q (.ref C) (some d) H') :
    wpAny (model X.prog X.w) X.A (call (.ref C) us) (MkP X pins σ Q) X.xe s := by
  obtain ⟨B, newId, initId, bmB, FB, SF, T⟩ := T.ex
  obtain ⟨nm, N', qn, bs, bm, hdct, sn, sub, ab, col, dd, k0, k1, k2, k3, k5, hC, hT⟩ := PySem.W.excInit_of I.kIn T.q
  obtain ⟨oI, hoI, hcI⟩ : ∃ oI, s.heap.get? fI = some oI ∧ oI.cls = .type "function" := by
    obtain ⟨o, w1, w2⟩ := Option.map_eq_some_iff.mp (show (X.K.lookup fI).map (·.cls) = some (.type "function") from beq_iff_eq.mp hf)
    exact ⟨o, I.kIn _ _ w1, w2⟩
  have hlook := PySem.W.looks_findIn (M := model X.prog X.w) I.kIn iC
  have hbnd := fun self => PySem.W.exc_bind (M := model X.prog X.w) hoI hcI self
  have hlu := r.length
  obtain ⟨hp, g, dr, tk, os⟩ := s
  have le1 : hp.objs.size ≤ hp.objs.size + 1 := Nat.le_succ _
  have hn : H (hp.objs.size + 1) = none := I.hok.fresh le1
  have kk : ∀ b o, hp.get? b = some o → ((hp.push (PySem.W.kdv_tup us)).push (PySem.HandSPX.excO C hp.objs.size)).get? b = some o := fun b o w => Heap.get?_push_of_some _ (Heap.get?_push_of_some _ w)
  have ge : ((hp.push (PySem.W.kdv_tup us)).push (PySem.HandSPX.excO C hp.objs.size)).get? (hp.objs.size + 1) = some (PySem.HandSPX.excO C hp.objs.size) := by heap_get
  have I2 := I.laid (t' := tk) (a := hp.objs.size + 1) (o := exo (hp.objs.size + 1) C none) kk le1 (exo_ok ge)
  have r2 : Vals (V.ref (hp.objs.size + 1) :: vs) (Value.ref (hp.objs.size + 1) :: us) := .cons rfl r
  have hsp : spXI C nms (V.ref (hp.objs.size + 1) :: vs) (upd H (hp.objs.size + 1) (exo (hp.objs.size + 1) C none)) (fun v H2 => v = .non ∧ ∃ (d : Addr) (fs : List (Str × V)), H2 (hp.objs.size + 1) = some (exo (hp.objs.size + 1) C (some d)) ∧ H2 d = some (exd d fs) ∧ H d = none ∧ Q (.ref C) (some d) (upd (del H2 (hp.objs.size + 1)) d (.xd fs))) (fun _ _ _ => False) := by
    refine ⟨_, vs, rfl, hl, upd_same, fun dx H' n ne ha hd hk => ⟨rfl, dx, _, ha, hd, by rw [upd_ne ne] at n; exact n, ?_⟩⟩
    rw [upd_ne ne] at n
    refine q dx _ n upd_same fun b hb => ?_
    rw [upd_ne hb]
    by_cases hba : b = hp.objs.size + 1
    · rw [hba, del_same, hn]
    · rw [del_ne hba, hk b hba hb, upd_ne hba]
  have hgu : (X.A.under (.builtin "type.__call__" ⟨.ref C :: us, []⟩)).guards = some [] := by
    show pushGuards (Code.guards (.builtin "type.__call__" ⟨.ref C :: us, []⟩)) X.A.guards = some []
    rw [hr.g]
    first
      | rfl
      | simp [Code.guards, Code.isGuard, pushGuards]
  have hlen : (Value.ref (hp.objs.size + 1) :: us ++ []).length = ps.length := by
    have w1 := G.num _ _ _ _ hsp
    have w2 := r2.length
    rw [List.append_nil]
    omega
  have hbb := hb ⟨(hp.push (PySem.W.kdv_tup us)).push (PySem.HandSPX.excO C hp.objs.size), g, dr, tk, os⟩ (Value.ref (hp.objs.size + 1) :: us) I2.kIn hlen
  rw [List.append_nil] at hbb
  refine wpAny_call (PySem.HandSPX.call_own FB hT hC hlook hbnd (by rw [← hlu, sizeLine_eq]; omega) ?_)
  refine codeAny_mono (G.go _ X.stack _ _ ⟨Value.ref (hp.objs.size + 1) :: us, []⟩ _ _ _ (fun _ _ _ => False) (hr.r.make C us []) hgu (I2.env0.make C us []) hbb r2 hsp) fun r s' hq => ?_
  match r, hq with
  | .ok (.ret u), hq =>
    obtain ⟨v, H2, os2, bare2, un2, hok2, rv, ev, d, fs, ea, ed, hd1, q2⟩ := hq
    subst ev
    obtain ⟨h2, g2, d2, t2, os'⟩ := s'
    exact ⟨rv, mk_end (raises_own T.exC T.tyC) I le1 kk un2 hok2 os2 bare2 ea ed hd1 q2⟩
  | .ok .next, hq => exact False.elim hq
  | .ok .brk, hq => exact False.elim hq
  | .ok .cont, hq => exact False.elim hq
  | .error er, hq => exact False.elim hq
/-- the reading of C(e, ..), to be raised -/
def tMkx (C : Addr) (nms : List Str) (t : TA) : L2.St → Hp → XK → Prop := fun σ H Q => t σ H fun vs H1 => vs.length = nms.length ∧ vs.length ≤ 1000 ∧
  ∀ (d : Addr) (H' : Hp), H1 d = none → H' d = some (.xd (nms.zip vs).reverse) → (∀ b, b ≠ d → H' b = H1 b) → Q (.ref C) (some d) H'
theorem pmk_x {e : Expr} {es : List Expr} {t : TA} {x : Str} {p pos : Pos} (T : OxB X.K C) (iC : PySem.W.findIn X.K (.ref C) "__init__" = some (some (.ref fI))) (hf : PySem.W.isFn X.K (.ref fI) = true) (G : FnG X.prog X.w X.K X.mg X.base k fI fd ps (spXI C nms)) (hr : Rm (k + 1) X.A) (hb : Binds X.K fd ps [])
    (hg : Gl X x) (hm : X.mg x = some (.ref C)) (ha : PA X (e :: es) t) (hdb : (x == ("__debug__" : Str)) = false := by decide) (he : starEach (e :: es) X.env = (false, eval e X.env) :: starEach es X.env := by rfl) (hpl : (backTo pos (starEach es X.env)).any (·.1) = false := by rfl) :
    PMk X (.Call (.Name x p) (e :: es) [] pos) (tMkx C nms t) := by
  intro pins s σ H Q I h
  refine wpAny_Call_Name_kw (ld_glob I hg hm ?_ hdb)
  refine PySem.W.callWith_K (h₀ := X.base) I.ok.mod.kin T.kC (thn (ha.run pos pins s σ H _ I h) fun us s1 hv => ?_) he hpl
  obtain ⟨vs, H1, I1, r1, hl, hz, q⟩ := hv
  exact ⟨I1.kIn, run_mkx T iC hf G hr hb I1 r1 hl hz q⟩
end
end PL
set_option Elab.async false
set_option linter.all false
set_option maxRecDepth 100000
set_option maxHeartbeats 4000000
/-! Defs that may raise: what they promise, calls, raise. -/
namespace PL
open PySem PySem.Spec PyProof.Rows L2
/-- an exception in the air: its class, its dict -/
inductive Xp (K : PySem.W.Frag) (ca : Str → Option Addr) (F : Hp) : Value → Option Addr → Str → List Str → List D → Prop
  | d0 {C : Addr} {c : Str} : ca c = some C → Xp K ca F (.ref C) none c [] []
  | dD {C dx : Addr} {c : Str} {fs : List (Str × V)} {ds : List D} : ca c = some C → F dx = some (.xd fs) → RpA K ca F (fs.map (·.2)) ds → Xp K ca F (.ref C) (some dx) c (fs.map (·.1)) ds
theorem Xp.mono {K : PySem.W.Frag} {ca : Str → Option Addr} {F F' : Hp} (e : Ex F F') {cls : Value} {d : Option Addr} {c : Str} {ns : List Str} {vs : List D} (h : Xp K ca F cls d c ns vs) : Xp K ca F' cls d c ns vs := by
  cases h with
  | d0 h => exact .d0 h
  | dD h g r => exact .dD h (e _ _ g) (r.mono e)
/-- what is wished of an exception on its way out -/
def WD (z : Z) (EX : EXT) : WX := fun cls d σ H' => ∃ c ns vs, EX c ns vs ∧ Xp z.K z.ca (Frz H' (z.pls ++ z.bs)) cls d c ns vs ∧ (∀ a o, z.H0 a = some o → a ∉ z.pls → H' a = some o) ∧ LamX.Tabs z.tb H' ∧ ∀ i ∈ z.kp, σ[i]? = z.s0[i]?
theorem wd_of {z : Z} {EX : EXT} {B : List Addr} {P : List (Nat × Addr)} {σ : L2.St} {H : Hp} {ρ : Env} {S : List D} {cls : Value} {d : Option Addr} {c : Str} {ns : List Str} {vs : List D} (r : Rel z B P σ H ρ S) (hx : Xp z.K z.ca (Frz H (z.L B P)) cls d c ns vs) (he : EX c ns vs) : WD z EX cls d σ H := by
  refine ⟨c, ns, vs, he, hx.mono (frz_sub fun a ha => ?_), r.ex, r.tabs, r.xt.2⟩
  unfold Z.L
  rcases List.mem_append.mp ha with h | h
  · exact List.mem_append_right _ (List.mem_append_left _ h)
  · exact List.mem_append_right _ (List.mem_append_right _ (r.xt.1 a h).2)
/-- the same places under another way out -/
theorem Rel.way {K : PySem.W.Frag} {ca : Str → Option Addr} {H0 : Hp} {pl : Option (Nat × Addr)} {sh : List V → HO} {T : Tb} {b0 bs : List Addr} {t0 s0 : L2.St} {k0 kp : List Nat} {B : List Addr} {P : List (Nat × Addr)} {σ : L2.St} {H : Hp} {ρ : Env} {S : List D}
    (r : Rel ⟨K, ca, H0, pl, sh, T, b0, t0, k0⟩ B P σ H ρ S) (h1 : ∀ a ∈ bs, H0 a ≠ none ∧ a ∈ B) (h2 : ∀ i ∈ kp, σ[i]? = s0[i]?) : Rel ⟨K, ca, H0, pl, sh, T, bs, s0, kp⟩ B P σ H ρ S :=
  ⟨r.val, r.own, r.pool, r.nd, r.there, r.ex, r.new, r.len, r.tabs, ⟨h1, h2⟩⟩
theorem sat_ex {α : Type} {r : R α} {Q Q' : α → Prop} {EX EX' : EXT} (h : Sat r Q EX) (hq : ∀ a, Q a → Q' a) (he : ∀ c ns vs, EX c ns vs → EX' c ns vs) : Sat r Q' EX' := by
  cases r with
  | ok a => exact hq a h
  | exc c ns vs => exact he c ns vs h
  | bad => exact h
/-! ### promises -/
structure FnX (Pg : Program) (w : World) (K : PySem.W.Frag) (mg : Str → Option Value) (base : Heap) (k : Nat) (fA : Addr) (fd : FuncData) (ps : List Str) (sp : Sp) : Prop where
  num : ∀ vs H Q E, sp vs H Q E → vs.length = ps.length
  go : ∀ (A : Around) (up : List PySem.Env) (s : Shared) (H : Hp) (args : Args) (us : List Value) (vs : List V) (Q : VK) (E : XK), Room k A → A.guards = some [] → Env0 Pg w K mg base A up s H →
    BindsTo s fd args (ps.zip us) → Vals vs us → sp vs H Q E → codeAny (model Pg w) A (.call (.ref fA) args) (CR (L2.CX Pg w) up Pg w H s Q E) s
def spX (K : PySem.W.Frag) (ca : Str → Option Addr) (T : Tb) (F : List D → R D) : Sp := fun vs H Q E => ∃ ds B, B.Nodup ∧ (∀ b ∈ B, H b ≠ none) ∧ TIn T B H ∧ RpA K ca (Frz H B) vs ds ∧
  Sat (F ds) (fun d => ∀ v H', GrT T H H' → LamX.Tabs T H' → Rp K ca (Frz H' B) v d → Q v H') (fun c ns ws => ∀ cls d H', GrT T H H' → LamX.Tabs T H' → Xp K ca (Frz H' B) cls d c ns ws → E cls d H')
/-- an __init__ that may raise -/
def spIX (K : PySem.W.Frag) (ca : Str → Option Addr) (T : Tb) (C : Addr) (nm : List Str) (F : List D → R (List D)) : Sp := fun vs H Q E => ∃ x dx ws ds B, vs = .ref x :: ws ∧ H x = some (.ins C dx []) ∧ (x :: B).Nodup ∧ (∀ b ∈ B, H b ≠ none) ∧ TIn T B H ∧ RpA K ca (Frz H (x :: B)) ws ds ∧
  Sat (F ds) (fun es => ∀ H' xs, (∀ a o, a ≠ x → a ∉ tbs T → H a = some o → H' a = some o) → LamX.Tabs T H' → H' x = some (.ins C dx (nm.zip xs)) → xs.length = nm.length → RpA K ca (Frz H' (x :: B)) xs es → Q .non H')
    (fun c ns ws => ∀ cls d H', (∀ a o, a ≠ x → a ∉ tbs T → H a = some o → H' a = some o) → LamX.Tabs T H' → Xp K ca (Frz H' (x :: B)) cls d c ns ws → E cls d H')
section
variable {Pg : Program} {w : World} {K : PySem.W.Frag} {mg : Str → Option Value} {base : Heap} {j k : Nat} {fA : Addr} {fd : FuncData} {ps : List Str} {sp sp' : Sp} {ca : Str → Option Addr} {T : Tb}
/-- where it raises nothing -/
theorem FnX.calm (F : FnX Pg w K mg base k fA fd ps sp) (h : ∀ vs H Q E, sp' vs H Q E → sp vs H Q fun _ _ _ => False) : FnG Pg w K mg base k fA fd ps sp' :=
  ⟨fun vs H Q E q => F.num vs H Q _ (h vs H Q E q), fun A up s H args us vs Q E hr hgu e0 hb r q => codeAny_mono (F.go A up s H args us vs Q (fun _ _ _ => False) hr hgu e0 hb r (h vs H Q E q)) fun res s' hq => by
    match res, hq with
    | .ok (.ret u), hq => exact hq
    | .ok .next, hq => exact hq.elim
    | .ok .brk, hq => exact hq.elim
    | .ok .cont, hq => exact hq.elim
    | .error er, hq =>
      obtain ⟨_, _, _, _, _, _, _, _, _, _, _, _, z⟩ := hq
      exact z.elim⟩
theorem FnX.toG {F : List D → R D} (G : FnX Pg w K mg base k fA fd ps (spX K ca T F)) : FnG Pg w K mg base k fA fd ps (spF K ca T F) := G.calm fun vs H Q E q => by
  obtain ⟨ds, B, h1, h2, h3, h4, h5⟩ := q
  exact ⟨ds, B, h1, h2, h3, h4, sat_ex h5 (fun _ h => h) fun _ _ _ h => h.elim⟩
theorem FnX.toGI {C : Addr} {nm : List Str} {F : List D → R (List D)} (G : FnX Pg w K mg base k fA fd ps (spIX K ca T C nm F)) : FnG Pg w K mg base k fA fd ps (spI K ca T C nm F) := G.calm fun vs H Q E q => by
  obtain ⟨x, dx, ws, ds, B, h0, h1, h2, h3, h4, h5, h6⟩ := q
  exact ⟨x, dx, ws, ds, B, h0, h1, h2, h3, h4, h5, sat_ex h6 (fun _ h => h) fun _ _ _ h => h.elim⟩
/-- from the body -/
theorem fn_bodyX {x qual : Str} {st : Stmt} {N : List Str} (F : Fun K x qual st fA fd) (Sc : FnScope N ps (defScope st)) (num : ∀ vs H Q E, sp vs H Q E → vs.length = ps.length)
    (body : ∀ (cdv : Value) (A : Around) (up : List PySem.Env) (s : Shared) (H : Hp) (vs : List V) (Q : VK) (E : XK), Room k (A.deeper (envOfC qual (defScope st) s.heap.objs.size fA cdv)) → A.guards = some [] → sp vs H Q E →
      ∃ t, PSs (cxOf (L2.CX Pg w) Pg w K mg base N qual (defScope st) fA cdv A up s H E) (defBody st) t ∧ t { nx := fun _ H' => Q .non H', rt := Q } (L2.start N vs) H) : FnX Pg w K mg base (k + 1) fA fd ps sp := by
  obtain ⟨oc, od, kV, doc, pm, an, cdv, ct, osl, rfl, lk, hcd⟩ := F.ex
  refine ⟨num, fun A up s H args us vs Q E hr hgu e0 hb rv hsp => ?_⟩
  have hlen := num _ _ _ _ hsp
  have kin : K.In s.heap := e0.mod.kin.keeps fun b o e => (e0.bs b o e).1
  have nolim : s.heap.NoLimit := e0.mod.nolimit.keeps fun b o e => (e0.bs b o e).1
  have hvis : ∀ y ∈ ps.zip us, (defScope st).names.lookup y.1 = some .local ∨ ((defScope st).names.lookup y.1 = some .cell ∧ ((cellsFrom (s.heap.objs.size + 1) (defScope st).names []).lookup y.1).isSome = true) := by
    intro y hy
    obtain ⟨n, v⟩ := y
    exact (Sc.par n (List.of_mem_zip hy).1).imp id fun q => ⟨q, PySem.W.cellsFrom_some _ _ _ (.inl q)⟩
  refine codeAny_call_function hr.depth (kin _ _ lk) rfl Sc.co Sc.gen rfl (PySem.W.codeRec_of kin hcd) (hb _ _ _ _ (wpAny_newFunctionEnv_cells Sc.kind hvis fun env he s1 x => ?_))
  subst he
  obtain ⟨t, ht, hq⟩ := body cdv A up s H vs Q E (hr.deeper _) hgu hsp
  have J : Inv (cxOf (L2.CX Pg w) Pg w K mg base N qual (defScope st) fA cdv A up s H E) [] (L2.start N vs) H s1 := inv_start Sc hr.hd e0 hlen rv x
  refine ⟨nolim.keeps x.toInCall.keep, codeAny_func (wpAny_mono (ht.run [] s1 _ H _ J hq) (fun fl s' hs => ?_) fun e s' hs => hs)⟩
  cases fl with
  | ret u =>
    obtain ⟨v, σ', H', J2, r2, q2⟩ := hs
    exact ⟨v, H', J2.os, J2.bare, J2.base, J2.hok, r2, q2⟩
  | next =>
    obtain ⟨σ', H', J2, q2⟩ := hs
    exact ⟨V.non, H', J2.os, J2.bare, J2.base, J2.hok, rfl, q2⟩
  | brk =>
    obtain ⟨_, _, _, q2⟩ := hs
    exact q2.elim
  | cont =>
    obtain ⟨_, _, _, q2⟩ := hs
    exact q2.elim
theorem takes_cx {N : List Str} {qual : Str} {scope : Scope} {cdv : Value} {A : Around} {up : List PySem.Env} {s : Shared} {H : Hp} {E : XK} : L2.Takes (cxOf (L2.CX Pg w) Pg w K mg base N qual scope fA cdv A up s H E) (fun cls d _ H => E cls d H) := takes_of rfl rfl rfl rfl
theorem passes_cx {N : List Str} {qual : Str} {scope : Scope} {cdv : Value} {A : Around} {up : List PySem.Env} {s : Shared} {H : Hp} {E : XK} : PassesOwn (model Pg w) (A.deeper (envOfC qual scope s.heap.objs.size fA cdv)) (envOfC qual scope s.heap.objs.size fA cdv) (cxOf (L2.CX Pg w) Pg w K mg base N qual scope fA cdv A up s H E).xe := PassesOwn.leaving
/-- a def that may raise -/
theorem fn_x {x qual : Str} {st : Stmt} {N : List Str} {fs : FS} {OO : List Nat} (F : Fun K x qual st fA fd) (Sc : FnScope N ps (defScope st))
    (body : ∀ (cdv : Value) (A : Around) (outer : List PySem.Env) (s : Shared) (H : Hp) (E : XK) (bs : List Addr) (EX : EXT), Rm k (A.deeper (envOfC qual (defScope st) s.heap.objs.size fA cdv)) →
      L2.Takes (cxOf (L2.CX Pg w) Pg w K mg base N qual (defScope st) fA cdv A outer s H E) (WD ⟨K, ca, H, none, .lst, T, bs, [], []⟩ EX) →
      PSS (cxOf (L2.CX Pg w) Pg w K mg base N qual (defScope st) fA cdv A outer s H E) ⟨K, ca, H, none, .lst, T, bs, [], []⟩ [] OO [] EX (defBody st) fs) :
    FnX Pg w K mg base (k + 1) fA fd ps (spX K ca T (runF N.length ps.length fs)) := by
  refine fn_bodyX F Sc (fun vs H Q E h => ?_) (fun cdv A outer s H vs Q E hr hgu h => ?_)
  · obtain ⟨ds, B, _, _, _, hv, hs⟩ := h
    rw [hv.length]
    unfold runF at hs
    split at hs
    · assumption
    · exact hs.elim
  · obtain ⟨ds, B, hB, hb, ti, hv, hs⟩ := h
    have ef : ∀ H', Frz H' (tbs T ++ beside T B) = Frz H' B := fun H' => frz_congr fun a => beside_iff ti.sub a
    obtain ⟨t, p, q⟩ := (body cdv A outer s H E (beside T B) (fun c ns ws => ∀ cls d H', GrT T H H' → LamX.Tabs T H' → Xp K ca (Frz H' B) cls d c ns ws → E cls d H') ⟨hr, hgu⟩ (takes_cx.imp fun cls d σ H' h => by
      obtain ⟨c, ns, ws, he, hx, h1, h2, _⟩ := h
      exact he cls d H' (fun a o n e => h1 a o e n) h2 (ef H' ▸ hx))).ex
    refine ⟨t, p, ?_⟩
    unfold runF at hs
    split at hs
    · have r0 := (rel_start (N := N) hB hb ti hv).way (bs := beside T B) (s0 := []) (kp := []) (fun a ha => ⟨hb a (beside_mem.mp ha).1, ha⟩) (fun _ h => nomatch h)
      refine q (beside T B) [] (L2.start N vs) H (startE N.length ds) [] _ rfl r0 ((sat_bind.mp hs).imp fun r hr => ?_)
      obtain ⟨c, ρ1, S1⟩ := r
      cases c with
      | nx =>
        intro P' σ' H' h1 h2 h3
        have hr : ∀ v H', GrT T H H' → LamX.Tabs T H' → Rp K ca (Frz H' B) v .non → Q v H' := hr
        exact hr .non H' (fun a o n e => h3.ex a o e n) h3.tabs .non
      | rt d =>
        intro v H' hf
        have hr : ∀ v H', GrT T H H' → LamX.Tabs T H' → Rp K ca (Frz H' B) v d → Q v H' := hr
        exact hr v H' (fun a o n e => hf.ex a o e n) hf.tabs (ef H' ▸ hf.val)
      | bk => exact hr.elim
      | ct => exact hr.elim
    · exact hs.elim
/-- an __init__ that may raise -/
theorem fn_ix {x qual : Str} {st : Stmt} {C : Addr} {N nm : List Str} {fs : FS} {OO : List Nat} (F : Fun K x qual st fA fd) (Sc : FnScope N ps (defScope st)) (hN : 0 < N.length)
    (body : ∀ (cdv : Value) (A : Around) (outer : List PySem.Env) (s : Shared) (H : Hp) (E : XK) (p dx : Addr) (bs : List Addr) (EX : EXT), Rm k (A.deeper (envOfC qual (defScope st) s.heap.objs.size fA cdv)) →
      L2.Takes (cxOf (L2.CX Pg w) Pg w K mg base N qual (defScope st) fA cdv A outer s H E) (WD ⟨K, ca, H, some (0, p), fun xs => .ins C dx (nm.zip xs), T, bs, [], []⟩ EX) →
      PSS (cxOf (L2.CX Pg w) Pg w K mg base N qual (defScope st) fA cdv A outer s H E) ⟨K, ca, H, some (0, p), fun xs => .ins C dx (nm.zip xs), T, bs, [], []⟩ [] OO [] EX (defBody st) fs) :
    FnX Pg w K mg base (k + 1) fA fd ps (spIX K ca T C nm (runI nm N.length ps.length fs)) := by
  refine fn_bodyX F Sc (fun vs H Q E h => ?_) (fun cdv A outer s H vs Q E hr hgu h => ?_)
  · obtain ⟨p, dx, ws, ds, B, rfl, _, _, _, _, hv, hs⟩ := h
    unfold runI at hs
    split at hs
    · rw [List.length_cons, hv.length]; assumption
    · exact hs.elim
  · obtain ⟨p, dx, ws, ds, B, rfl, hp, hB, hb, ti, hv, hs⟩ := h
    have ef : ∀ H', Frz H' (([p] ++ tbs T) ++ beside T B) = Frz H' (p :: B) := fun H' => frz_congr fun a => besideP_iff (K := K) (ca := ca) (H := H') (sh := .lst) ti.sub a
    obtain ⟨t, pt, q⟩ := (body cdv A outer s H E p dx (beside T B) (fun c ns ws => ∀ cls d H', (∀ a o, a ≠ p → a ∉ tbs T → H a = some o → H' a = some o) → LamX.Tabs T H' → Xp K ca (Frz H' (p :: B)) cls d c ns ws → E cls d H') ⟨hr, hgu⟩ (takes_cx.imp fun cls d σ H' h => by
      obtain ⟨c, ns, ws, he, hx, h1, h2, _⟩ := h
      exact he cls d H' (fun a o n1 n2 e => h1 a o e (by simpa [Z.pls] using ⟨n1, n2⟩)) h2 (ef H' ▸ hx))).ex
    refine ⟨t, pt, ?_⟩
    unfold runI at hs
    split at hs
    · have r0 := (rel_startP (K := K) (ca := ca) (T := T) (sh := fun xs => .ins C dx (nm.zip xs)) (N := N) (xs := []) hN (by rw [hp, List.zip_nil_right]) hB hb ti .nil hv).way (bs := beside T B) (s0 := []) (kp := []) (fun a ha => ⟨hb a (beside_mem.mp ha).1, ha⟩) (fun _ h => nomatch h)
      refine q (beside T B) [] (L2.start N (.ref p :: ws)) H (startP N.length ds) [] _ rfl r0 ((sat_bind.mp hs).imp fun r hr => ?_)
      obtain ⟨c, ρ1, S1⟩ := r
      cases c with
      | nx =>
        intro P' σ' H' h1 h2 h3
        dsimp only at hr
        split at hr
        · rename_i l
          have hf := h3.fin (v := .non) (d := .non) .non
          obtain ⟨xs', e1, q1⟩ := hf.pool 0 p rfl
          exact hr H' xs' (fun a o n n2 e => hf.ex a o e (by simpa [Z.pls] using ⟨n, n2⟩)) hf.tabs e1 (by rw [q1.length]; exact l) (ef H' ▸ q1)
        · exact hr.elim
      | rt d => exact hr.elim
      | bk => exact hr.elim
      | ct => exact hr.elim
    · exact hs.elim
end
/-! ### raise X(..) -/
section
variable {X : Cx} {z : Z} {O OI OM OO OL : List Nat} {EX : EXT} {a b c e o : Expr} {es : List Expr} {f g h : FE} {fa ga fk : FA} {fs gs : FS} {pos p apos : Pos} {st : Stmt} {sts : List Stmt}
variable {B : List Addr} {P : List (Nat × Addr)} {σ σ' : L2.St} {H H' : Hp} {ρ ρ' : Env} {S S' : List D} {x m : Str}
variable {k : Nat} {fA C fI : Addr} {fd : FuncData} {ps ks nms : List Str} {ds : List Value} {dvs : List V} {dds : List D} {kws : List Keyword}
def raiseS (c : Str) (nms : List Str) (fa : FA) : FS := fun ρ S => fa ρ S >>= fun x => if x.1.length = nms.length ∧ x.1.length ≤ 1000 then R.exc c nms.reverse x.1.reverse else R.bad
/-- what has been made -/
theorem xp_made {cn : Str} {K : PySem.W.Frag} {ca : Str → Option Addr} {L : List Addr} {d : Addr} {vs : List V} {ds : List D} (hca : ca cn = some C) (n : d ∉ L) (hd : H' d = some (.xd (nms.zip vs).reverse)) (hk : Ex (Frz H L) (Frz H' L)) (hl : vs.length = nms.length) (hv : RpA K ca (Frz H L) vs ds) :
    Xp K ca (Frz H' L) (.ref C) (some d) cn nms.reverse ds.reverse := by
  have e1 : (nms.zip vs).reverse.map (·.1) = nms.reverse := by rw [List.map_reverse, List.map_fst_zip (by omega)]
  have e2 : (nms.zip vs).reverse.map (·.2) = vs.reverse := by rw [List.map_reverse, List.map_snd_zip (by omega)]
  have q := Xp.dD (K := K) (F := Frz H' L) (c := cn) (ds := ds.reverse) hca (frz_of hd n) (by rw [e2]; exact (hv.mono hk).reverse)
  rw [e1] at q
  exact q
theorem psd_raise {cn : Str} (hc : X.calm = true) (tk : L2.Takes X (WD z EX)) (hca : z.ca cn = some C) (T : OxB X.K C) (iC : PySem.W.findIn X.K (.ref C) "__init__" = some (some (.ref fI))) (hf : PySem.W.isFn X.K (.ref fI) = true) (G : FnG X.prog X.w X.K X.mg X.base k fI fd ps (spXI C nms)) (hr : Rm (k + 1) X.A) (hb : Binds X.K fd ps [])
    (hm : X.mg x = some (.ref C)) (ha : PAd X z O EX (e :: es) fa) (hg : Gl X x := by rfl) (hdb : (x == ("__debug__" : Str)) = false := by decide) (he : starEach (e :: es) X.env = (false, eval e X.env) :: starEach es X.env := by rfl) (hpl : (backTo pos (starEach es X.env)).any (·.1) = false := by rfl) :
    PSd X z O OO OL EX (.Raise (some (.Call (.Name x p) (e :: es) [] pos)) none apos) (raiseS cn nms fa) := by
  obtain ⟨t, pt, q⟩ := ha.ex
  refine ⟨_, ps_raise hc tk (pmk_x T iC hf G hr hb hg hm pt hdb he hpl), fun B P σ H ρ S D' hP rr hs => ?_⟩
  refine q B P σ H ρ S _ hP rr ((sat_bind.mp hs).imp fun w hw vs H1 g1 r1 hv => ?_)
  split at hw
  · rename_i l
    refine ⟨by rw [hv.length]; exact l.1, by rw [hv.length]; exact l.2, fun d H' n hd hk => ?_⟩
    have e1 : Ex H1 H' := fun b u h => by
      rw [hk b (ne_of_none h n)]
      exact h
    have r2 := r1.grow e1
    exact wd_of r2 (xp_made hca (r1.fresh n) hd (Grow.of (z := z) e1).frz (by rw [hv.length]; exact l.1) hv) hw
  · exact hw.elim
/-! ### calls -/
theorem run_x {pins : List (Addr × Obj)} {s : Shared} {Q : VK} {W : WX} {sp : Sp} {args : Args} {us : List Value} {vs : List V} (F : FnX X.prog X.w X.K X.mg X.base k fA fd ps sp) (hr : Rm k X.A) (tk : L2.Takes X W) (hb : BindsTo s fd args (ps.zip us)) (I : Inv X pins σ H s) (r : Vals vs us) (h : sp vs H Q fun cls d H' => W cls d σ H') :
    wpAny (model X.prog X.w) X.A (call (.ref fA) args.pos args.kw) (EP X pins σ Q) X.xe s := by
  refine wpAny_call (codeAny_mono (F.go X.A X.stack s H args us vs Q _ hr.r hr.g I.env0 hb r h) fun res s' hq => ?_)
  match res, hq with
  | .ok (.ret u), hq => exact I.after hq
  | .ok .next, hq => exact False.elim hq
  | .ok .brk, hq => exact False.elim hq
  | .ok .cont, hq => exact False.elim hq
  | .error er, hq => exact tk _ _ (XE.of_call I (fun _ _ _ z => z) hq)
def callX (F : List D → R D) (dds : List D) (fa : FA) : FE := fun ρ S => fa ρ S >>= fun x => F (x.1 ++ dds) >>= fun d => R.ok (d, x.2)
theorem spX_of {F : List D → R D} {vs : List V} {xs : List D} {Q : VK} (r1 : Rel z B P σ H ρ S) (hv : RpA z.K z.ca (Frz H (z.L B P)) vs xs)
    (hs : Sat (F xs >>= fun d => R.ok (d, S)) (fun r => ∀ v H', Grow z H H' → Rel z B P σ H' ρ r.2 → Rp z.K z.ca (Frz H' (z.L B P)) v r.1 → Q v H') EX) : spX z.K z.ca z.tb F vs H Q fun cls d H' => WD z EX cls d σ H' := by
  refine ⟨xs, z.L B P, r1.nd, fun b hb => r1.lt hb, r1.tin, hv, ?_⟩
  exact sat_ex (sat_bind.mp hs) (fun d hd v H' e' tt hv' => hd v H' e'.grow (r1.growT e' tt) hv') fun c ns ws he cls d H' e' tt hx => wd_of (r1.growT e' tt) hx he
def tCallX (sp : Sp) (dvs : List V) (W : WX) (t : TA) : TE := fun σ H Q => t σ H fun vs H1 => sp (vs ++ dvs) H1 Q fun cls d H' => W cls d σ H'
theorem pd_callX {F : List D → R D} (tk : L2.Takes X (WD z EX)) (G : FnX X.prog X.w X.K X.mg X.base k fA fd ps (spX z.K z.ca z.tb F)) (hr : Rm k X.A) (hm : X.mg x = some (.ref fA)) (hk : PySem.W.keepIn X.K (.ref fA) = true) (hb : Binds X.K fd ps ds) (hd : Vals dvs ds) (hdd : ∀ F', RpA z.K z.ca F' dvs dds)
    (ha : PAd X z O EX (e :: es) fa) (hg : Gl X x := by rfl) (hdb : (x == ("__debug__" : Str)) = false := by decide) (he : starEach (e :: es) X.env = (false, eval e X.env) :: starEach es X.env := by rfl) (hpl : (backTo pos (starEach es X.env)).any (·.1) = false := by rfl) :
    PD X z O EX (.Call (.Name x p) (e :: es) [] pos) (callX F dds fa) := by
  obtain ⟨t, pt, q⟩ := ha.ex
  have pe : PE X (.Call (.Name x p) (e :: es) [] pos) (tCallX (spX z.K z.ca z.tb F) dvs (WD z EX) t) := ⟨fun pins s σ H Q I h => by
    refine wpAny_Call_Name_kw (ld_glob I hg hm (PySem.W.callWith_K (h₀ := X.base) I.ok.mod.kin hk (thn (pt.run pos pins s σ H _ I h) fun us s1 hv => ?_) he hpl) hdb)
    obtain ⟨vs, H1, I1, r, q⟩ := hv
    have r2 := r.append hd
    exact ⟨I1.kIn, run_x (args := ⟨us, []⟩) G hr tk (hb s1 us I1.kIn (by rw [← r2.length]; exact G.num _ _ _ _ q)) I1 r2 q⟩⟩
  refine ⟨_, pe, fun B P σ H ρ S Q hP rr hs => ?_⟩
  refine q B P σ H ρ S _ hP rr ((sat_bind.mp hs).imp fun w hw vs H1 g1 r1 hv => ?_)
  exact spX_of r1 (hv.append (hdd _)) (hw.imp fun r hr v H' g' r' hv' => hr v H' (g1.trans g') r' hv')
end
end PL
set_option Elab.async false
set_option linter.all false
set_option maxRecDepth 100000
set_option maxHeartbeats 4000000
/-! New instances whose __init__ may raise; keywords. -/
namespace PL
open PySem PySem.Spec PyProof.Rows L2
section
variable {X : Cx} {z : Z} {O OI OM OO OL : List Nat} {EX : EXT} {a b c e o : Expr} {es : List Expr} {f g h : FE} {fa ga fk : FA} {fs gs : FS} {pos p apos : Pos} {st : Stmt} {sts : List Stmt}
variable {B : List Addr} {P : List (Nat × Addr)} {σ σ' : L2.St} {H H' : Hp} {ρ ρ' : Env} {S S' : List D} {x m : Str} {pins : List (Addr × Obj)} {s : Shared} {Q : VK} {W : WX} {sp : Sp} {t tk : TA}
variable {k : Nat} {fA C fI : Addr} {fd : FuncData} {ps ks nms : List Str} {ds : List Value} {dvs : List V} {dds : List D} {kws : List Keyword}
def mkIX (c : Str) (nm : List Str) (F : List D → R (List D)) (n m : Nat) (ix : List Nat) (fa fk : FA) : FE := fun ρ S => fa ρ S >>= fun x => fk ρ x.2 >>= fun y => if x.1.length = n ∧ y.1.length = m then F (pick ix (x.1 ++ y.1)) >>= fun es => R.ok (.ins c nm es, y.2) else R.bad
end
end PL
set_option Elab.async false
set_option linter.all false
set_option maxRecDepth 100000
set_option maxHeartbeats 4000000
/-! try: .. except .. as e: .. -/
namespace PL
open PySem PySem.Spec PyProof.Rows L2
theorem flying_on {B h h' : Heap} {l : List PySem.Env} {a : Addr} {Zp : Obj → Prop} (f : HandSPX.FlyingZ B l a Zp h) (k : ∀ b o, h.get? b = some o → h'.get? b = some o) : HandSPX.FlyingZ B l a Zp h' := by
  obtain ⟨st, nb, ff, oe, vs, T, oT, ts, q1, q2, q3, q4, q5, q6, q7, q8, q9⟩ := f
  exact ⟨fun b o w => k b o (st b o w), nb, ff.of_keeps fun b o w _ => ⟨o, k b o w, rfl⟩, oe, vs, T, oT, ts, k _ _ q1, q2, q3, q4, q5, q6, k _ _ q7, q8, q9⟩
section
variable {X : Cx} {pins : List (Addr × Obj)} {σ : L2.St} {H : Hp} {sI s s' : Shared} {B : Heap} {a C : Addr} {d : Option Addr}
/-- the exception has landed, and is tracked from here on -/
theorem landX {oe : Obj} {fv : Array Value} (I : Inv X pins σ H sI) (nb : ∀ b o, sI.heap.get? b = some o → b ∉ frs X.stack → B.get? b = some o) (st : B.StaysIn s'.heap) (up : sI.heap.UpToSlots s'.heap) (os : s'.os = sI.os) (ag : AllBare s'.gens)
    (na : H a = none) (nI : sI.heap.get? a = none) (hx : s'.heap.get? a = some oe) (hc : oe.cls = .ref C) (hd : oe.dict = d) (hf : oe.data = .fields fv) : Inv X pins σ (upd H a (exT a C d)) s' := by
  have J := I.landed nb st up os ag
  have fr : ∀ b ∈ frs X.stack, ∀ o, sI.heap.get? b = some o → ∃ sl, s'.heap.get? b = some { o with slots := sl } := by
    intro b hb o w
    obtain ⟨_, o', w', nf⟩ := I.stack.mem hb
    rw [w] at w'
    cases w'
    exact up b o w nf
  have U : Un (frs X.stack) [] H (upd H a (exT a C d)) sI.heap s'.heap := by
    constructor
    · intro b o w _ hb _
      exact st b o (nb b o w hb)
    · intro b o w _ hb _
      exact fr b hb o w
    · intro b o w n _
      rw [upd_ne fun z => by rw [z, nI] at w; cases w]
      exact n
    · intro b o w _
      by_cases hb : b ∈ frs X.stack
      · obtain ⟨sl, q⟩ := fr b hb o w
        exact ⟨_, q⟩
      · exact ⟨o, st b o (nb b o w hb)⟩
    · intro b xs w
      rw [upd_ne (ne_of_none w na)]
      exact w
    · intro b o v w
      rw [upd_ne (ne_of_none w na)]
      exact w
    · intro b ps w
      refine ⟨#[], ?_⟩
      rw [upd_ne (ne_of_none w na), w]
      simp
  refine I.call' (ch := []) os U (fun b o w => ?_) ag fun _ z => nomatch z
  by_cases hb : b = a
  · subst hb
    rw [upd_same] at w
    cases w
    refine ⟨⟨oe, fv, hx, hc, hd, hf⟩, ⟨oe, hx⟩, fun h1 h2 z k => ?_⟩
    obtain ⟨o, f, e1, e2, e3, e4⟩ := z
    exact ⟨o, f, k _ e1, e2, e3, e4⟩
  · rw [upd_ne hb] at w
    refine (J.hok b o w).stay (fun _ _ _ q => q) (fun c q => ?_) fun c xs q => ?_
    · rw [upd_ne (ne_of_none q na)]
      exact q
    · rw [upd_ne (ne_of_none q na)]
      exact q
theorem Inv.hot (I : Inv X pins σ H s) (a : Addr) : Inv (X.suite a (X.pn ++ pins)) [] σ H s :=
  ⟨I.ok.suite a _, I.os, I.bare, I.base, I.loc, I.cell, I.free, I.freeC, fun p hp => I.pin p (by rw [List.append_nil] at hp; exact hp), I.hok, I.len⟩
theorem Inv.cool {pn' : List (Addr × Obj)} (I : Inv (X.suite a (X.pn ++ pins)) pn' σ H s) (ok : X.Ok) : Inv X pins σ H s :=
  ⟨ok, I.os, I.bare, I.base, I.loc, I.cell, I.free, I.freeC, fun p hp => I.pin p (List.mem_append_left _ hp), I.hok, I.len⟩
/-- what an except clause asks: f tells the answer by the exception's class -/
def CTest (X : Cx) (te : Expr) (f : Value → Option Bool) : Prop := ∀ (a : Addr) (pn : List (Addr × Obj)) (σ : L2.St) (H : Hp) (s : Shared) (cls : Value) (b : Bool) (Q : Value → Shared → Prop) (E : Value → Shared → Prop), Inv (X.suite a pn) [] σ H s → f cls = some b →
  PySem.W.Looks (model X.prog X.w) s.heap (typeOf (.ref a)) cls → (∀ (c : Value) (h' : Heap), (∀ q o, s.heap.get? q = some o → h'.get? q = some o) → PySem.W.Looks (model X.prog X.w) h' (excMatches (.ref a) c) b → Q c { s with heap := h' }) →
  wpAny (model X.prog X.w) (X.A.mark (some (.ref a))) (eval te X.env) Q E s
theorem ctest_three {x1 x2 x3 : Str} {c1 c2 c3 : Addr} {p1 p2 p3 p : Pos} {kk : Nat} (g1 : Gl X x1) (g2 : Gl X x2) (g3 : Gl X x3) (m1 : X.mg x1 = some (.ref c1)) (m2 : X.mg x2 = some (.ref c2)) (m3 : X.mg x3 = some (.ref c3))
    (d1 : (x1 == ("__debug__" : Str)) = false) (d2 : (x2 == ("__debug__" : Str)) = false) (d3 : (x3 == ("__debug__" : Str)) = false) :
    CTest X (.Tuple [.Name x1 p1, .Name x2 p2, .Name x3 p3] kk p) fun cls => PySem.W.exmAny X.K cls [.ref c1, .ref c2, .ref c3] := by
  intro a pn σ H s cls b Q E I hf LT h
  refine wpAny_Tuple ?_
  refine wpAny_items_cons (ld_glob I g1 m1 ?_ d1)
  refine wpAny_items_cons (ld_glob I g2 m2 ?_ d2)
  refine wpAny_items_cons (ld_glob I g3 m3 ?_ d3)
  refine wpAny_items_nil ⟨by size_fits, ?_⟩
  have kp : ∀ q o, s.heap.get? q = some o → (s.heap.push { cls := .type "tuple", data := .seq [Value.ref c1, .ref c2, .ref c3].toArray }).get? q = some o := fun q o w => Heap.get?_push_of_some _ w
  exact h (.ref s.heap.objs.size) _ kp (PySem.W.exm_tup3 (I.kIn.keeps kp) (LT.keeps kp) (Heap.get?_push_size s.heap rfl) hf)
end
end PL
set_option Elab.async false
set_option linter.all false
set_option maxRecDepth 100000
set_option maxHeartbeats 4000000
namespace PL
open PySem PySem.Spec PyProof.Rows L2
section
variable {X : Cx} {z : Z} {O OI OO OL : List Nat} {EX : EXT} {B : List Addr} {P : List (Nat × Addr)} {σ σ' : L2.St} {H H' : Hp} {ρ ρ' ρ1 : Env} {S S1 : List D}
/-- a place holds nothing -/
theorem Rel.unset {i : Nat} (r : Rel z B P σ H ρ S) (hi : ∀ p ∈ P, p.1 ≠ i) (hz : NotPl z i) : Rel z B P (σ.set i none) H (ρ.set i none) S where
  val := fun j e n h => by
    by_cases hj : j = i
    · subst hj
      by_cases hl : j < ρ.length
      · rw [List.getElem?_set_self hl] at h
        cases h
      · rw [List.getElem?_eq_none (by simpa using hl)] at h
        cases h
    · rw [List.getElem?_set_ne (Ne.symm hj)] at h
      rw [List.getElem?_set_ne (Ne.symm hj)]
      exact r.val j e n h
  own := fun p hp => by
    obtain ⟨e1, xs, ds, e2, e3, q⟩ := r.own p hp
    have n := Ne.symm (hi p hp)
    exact ⟨by rw [List.getElem?_set_ne n]; exact e1, xs, ds, e2, by rw [List.getElem?_set_ne n]; exact e3, q⟩
  pool := fun j a h => by
    obtain ⟨e1, e0, xs, e2, q⟩ := r.pool j a h
    have n := Ne.symm (hz.1 j a h)
    exact ⟨by rw [List.getElem?_set_ne n]; exact e1, by rw [List.getElem?_set_ne n]; exact e0, xs, e2, q⟩
  nd := r.nd
  there := r.there
  ex := r.ex
  new := r.new
  len := by rw [List.length_set, List.length_set]; exact r.len
  tabs := r.tabs
  xt := ⟨r.xt.1, fun j hj => by rw [List.getElem?_set_ne fun e => hz.2 (by rw [e]; exact hj)]; exact r.xt.2 j hj⟩
/-- the body's view -/
abbrev Z.inner (z : Z) (H : Hp) (bs : List Addr) (s0 : L2.St) (kl : List Nat) : Z := ⟨z.K, z.ca, H, none, .lst, z.tb, bs, s0, kl⟩
theorem inner_ef (r : Rel z B P σ H ρ S) {H0 : Hp} {bs : List Addr} {s0 : L2.St} {kl : List Nat} (H' : Hp) : Frz H' ((z.inner H0 bs s0 kl).L (beside z.tb (z.L B P)) []) = Frz H' (z.L B P) := frz_congr fun a => beside_iff r.tin.sub a
theorem inner_start (r : Rel z B P σ H ρ S) {KO kl : List Nat} (hP : ∀ p ∈ P, p.1 ∈ KO) : Rel (z.inner H (beside z.tb (z.L B P)) σ kl) (beside z.tb (z.L B P)) [] σ H (wipeE ρ KO) [] where
  val := fun i d _ h => by
    by_cases hi : i ∈ KO
    · exact absurd h (wipeE_in ρ KO i hi d)
    · rw [wipeE_get ρ KO i hi] at h
      obtain ⟨v, e1, q⟩ := r.val i d (fun p hp e => hi (e ▸ hP p hp)) h
      exact ⟨v, e1, (inner_ef r (H0 := H) (bs := beside z.tb (z.L B P)) (s0 := σ) (kl := kl) H) ▸ q⟩
  own := fun p hp => nomatch hp
  pool := fun i a h => nomatch h
  nd := beside_nd r.nd r.tin.nd
  there := fun b hb => r.lt (beside_mem.mp hb).1
  ex := fun a o h _ => h
  new := fun p hp => nomatch hp
  len := by rw [wipeE_len]; exact r.len
  tabs := r.tabs
  xt := ⟨fun a ha => ⟨r.lt (beside_mem.mp ha).1, ha⟩, fun _ _ => rfl⟩
theorem grT_of {kl : List Nat} {bs : List Addr} {s0 : L2.St} (ex : ∀ a o, (z.inner H bs s0 kl).H0 a = some o → a ∉ (z.inner H bs s0 kl).pls → H' a = some o) : GrT z.tb H H' := fun a o n h => ex a o h (by simpa [Z.pls] using n)
/-- what is wished of an exception in the body of a try -/
abbrev Looking (X : Cx) (pins : List (Addr × Obj)) (D' : Ends) (hds : List ExceptHandler) : Value → Shared → Prop := fun er s1 => wpAny (model X.prog X.w) X.A (noteFrame er X.env) (fun _ s2 => wpAny (model X.prog X.w) X.A (setFlight er none) (fun _ s3 => wpAny (model X.prog X.w) X.A (handleBy er X.env hds) (SP X pins D') X.xe s3) X.xe s2) X.xe s1
end
end PL
set_option Elab.async false
set_option linter.all false
set_option maxRecDepth 100000
set_option maxHeartbeats 4000000
/-! An exception as a value: its class, its attributes; flat values: in, count, index. -/
namespace PL
open PySem PySem.Spec PyProof.Rows L2
/-- what isinstance and the attributes ask of an exception's class -/
structure ExnC (K : PySem.W.Frag) (C : Addr) : Prop where
  hd : PySem.W.hasDictIn K C = true
  ga : PySem.W.findIn K (.ref C) "__getattribute__" = some (some (.builtin "BaseException.__getattribute__"))
  gg : PySem.W.findIn K (.ref C) "__getattr__" = some none
  ex : PySem.W.subIn K (.ref C) (.type "BaseException") = some true
  ha : PySem.W.findIn K (.ref C) "__class__" = some (some (.builtin "object.__class__"))
  hn : PySem.W.specialIn K (.builtin "object.__class__") "__get__" = some (some (.builtin "getset_descriptor.__get__"))
  tk : PySem.W.takesIn K (.builtin "object.__class__") = some true
  mr : PySem.W.mroIn K C (.type "object") = some true
section
variable {X : Cx} {z : Z} {O OI OM OO OL : List Nat} {EX : EXT} {a b c e o : Expr} {es : List Expr} {f g h : FE} {fa ga fk : FA} {fs gs : FS} {pos p p2 apos cpos : Pos} {st : Stmt} {sts : List Stmt}
variable {B : List Addr} {P : List (Nat × Addr)} {σ σ' : L2.St} {H H' : Hp} {ρ ρ' : Env} {S S' : List D} {x m : Str} {pins : List (Addr × Obj)} {s : Shared}
theorem exT_at {P : Program} {w : World} {h : Heap} {ad C : Addr} {d : Option Addr} (hok : HOk P w H h) (e : H ad = some (exT ad C d)) : ∃ (o : Obj) (fv : Array Value), h.get? ad = some o ∧ o.cls = .ref C ∧ o.dict = d ∧ o.data = .fields fv := by
  have q : ObjOk P w H h ad (.ext fun h => ∃ (o : Obj) (fv : Array Value), h.get? ad = some o ∧ o.cls = .ref C ∧ o.dict = d ∧ o.data = .fields fv) := hok ad _ e
  exact q.1
/-- how it stands -/
def StdX (H : Hp) (ad C : Addr) : Prop := H ad = some (exT ad C none) ∨ ∃ dx fs, H ad = some (exT ad C (some dx)) ∧ H dx = some (.xd fs)
theorem std_at (I : Inv X pins σ H s) {ad C : Addr} (h : StdX H ad C) : ∃ ox od, PySem.W.InstAt s.heap ad ox C od := by
  rcases h with h | ⟨dx, fs, h, hd⟩
  · obtain ⟨o, fv, e1, e2, e3, e4⟩ := exT_at I.hok h
    exact ⟨o, none, e1, e2, by unfold PySem.W.notCls; rw [e4] <;> rfl, by rw [e3]; trivial⟩
  · obtain ⟨o, fv, e1, e2, e3, e4⟩ := exT_at I.hok h
    have hx : ObjOk X.prog X.w H s.heap dx (.xd fs) := I.hok dx _ hd
    obtain ⟨mA, hns, hr⟩ := hx
    obtain ⟨od, ho, hl⟩ := lookIn_ns hns
    exact ⟨o, some od, e1, e2, by unfold PySem.W.notCls; rw [e4] <;> rfl, by rw [e3]; exact ho⟩
def rIsX (K : PySem.W.Frag) : List V → Hp → VK → Prop := fun xs H Q => ∃ (ad C : Addr) (c : V) (cv : Value) (b : Bool), xs = [.ref ad, c] ∧ (∀ u, RelV c u → u = cv) ∧ StdX H ad C ∧ ExnC K C ∧ PySem.W.kitOne K (.ref C) cv = some b ∧ Q (.bl b) H
theorem call_isX : CallR X (.builtin "isinstance") (rIsX X.K) := by
  intro pins s σ H xs us Q I r h
  obtain ⟨ad, C, c, cv, b, rfl, hcv, st, T, e, q⟩ := h
  cases r with
  | cons rx rr =>
    cases rr with
    | cons rt rr =>
      cases rr
      cases rx
      have ec := hcv _ rt
      subst ec
      obtain ⟨ox, od, J⟩ := std_at I st
      have hcl : (PySem.W.clsIn X.K C).isSome = true := by
        obtain ⟨cd, hc, _⟩ := PySem.W.any_some T.hd
        rw [hc] <;> rfl
      exact PySem.W.kia_one (PySem.W.kitx_exc hcl T.ga T.gg T.ex T.ha T.hn T.tk T.mr) I.kIn J e (fun z => nomatch z) fun tk => ⟨.bl b, H, I.kept (t' := tk) fun _ _ z => z, rfl, q⟩
/-- isinstance(e, C), e an exception: sub answers by its class -/
def isXD (sub : Str → Option Bool) : D → Option D
  | .exn c _ _ => (sub c).map .bl
  | _ => none
theorem rp_exn {K : PySem.W.Frag} {ca : Str → Option Addr} {F : Hp} {v : V} {c : Str} {ns : List Str} {vs : List D} (h : Rp K ca F v (.exn c ns vs)) : ∃ ad C, v = .ref ad ∧ ca c = some C ∧ StdX F ad C := by
  cases h with
  | exn0 h c => exact ⟨_, _, rfl, c, .inl h⟩
  | exnD h g c r => exact ⟨_, _, rfl, c, .inr ⟨_, _, h, g⟩⟩
theorem StdX.mono {F F' : Hp} {ad C : Addr} (h : StdX F ad C) (e : Ex F F') : StdX F' ad C := by
  rcases h with h | ⟨dx, fs, h, g⟩
  · exact .inl (e _ _ h)
  · exact .inr ⟨dx, fs, e _ _ h, e _ _ g⟩
theorem pd_isX {sub : Str → Option Bool} {cv : V} {u : Value} {ce : Expr} (hK : X.K = z.K) (hm : X.mg "isinstance" = none) (hcv : PE X ce (tC cv)) (hu : ∀ w, RelV cv w → w = u)
    (hsub : ∀ c k, sub c = some k → ∃ C, z.ca c = some C ∧ ExnC z.K C ∧ PySem.W.kitOne z.K (.ref C) u = some k) (ha : PB X z O EX e f) (hg : Gl X "isinstance" := by rfl)
    (he : starEach [e, ce] X.env = (false, eval e X.env) :: starEach [ce] X.env := by rfl) (he2 : starEach [ce] X.env = (false, eval ce X.env) :: starEach [] X.env := by rfl) (hpl : (backTo pos (starEach [ce] X.env)).any (·.1) = false := by rfl) :
    PD X z O EX (.Call (.Name "isinstance" p) [e, ce] [] pos) (un1 (isXD sub) f) := by
  obtain ⟨t, pt, q⟩ := ha.ex
  refine ⟨_, pe_callB (r := rIsX X.K) call_isX hg hm (by decide +kernel) (pa_cons pt (pa_cons hcv pa_nil he2) he) (by decide) (by decide) he hpl, fun B P σ H ρ S Q hP rr hs => ?_⟩
  refine q B P σ H ρ S _ hP rr ((sat_bind.mp hs).imp fun x hx v H1 g1 r1 hv => ?_)
  obtain ⟨d, hd, hq⟩ := sat_of (sat_bind.mp hx)
  show rIsX X.K [v, cv] H1 Q
  rw [hK]
  obtain ⟨x1, S1⟩ := x
  cases x1 with
  | exn c ns vs =>
    simp only [isXD, Option.map_eq_some_iff] at hd
    obtain ⟨k, e2, rfl⟩ := hd
    obtain ⟨C, hca, ec, hk⟩ := hsub c k e2
    obtain ⟨ad, C', rfl, hc', st⟩ := rp_exn hv.rp
    rw [hca] at hc'
    cases hc'
    exact ⟨ad, C, cv, u, k, rfl, hu, st, ec, hk, hq _ H1 g1 r1 (.bl k)⟩
  | _ => cases hd
/-- .. an own class -/
theorem pd_isXC (me : Str) {C : Addr} {sub : Str → Option Bool} (hK : X.K = z.K) (hm : X.mg "isinstance" = none) (hmC : X.mg me = some (.ref C)) (hsub : ∀ c k, sub c = some k → ∃ D, z.ca c = some D ∧ ExnC z.K D ∧ PySem.W.kitOne z.K (.ref D) (.ref C) = some k) (ha : PB X z O EX e f)
    (hd : (me == ("__debug__" : Str)) = false := by decide) (hg : Gl X "isinstance" := by rfl) (hgT : Gl X me := by rfl)
    (he : starEach [e, .Name me p2] X.env = (false, eval e X.env) :: starEach [.Name me p2] X.env := by rfl) (he2 : starEach [.Name me p2] X.env = (false, eval (.Name me p2) X.env) :: starEach [] X.env := by rfl) (hpl : (backTo pos (starEach [.Name me p2] X.env)).any (·.1) = false := by rfl) :
    PD X z O EX (.Call (.Name "isinstance" p) [e, .Name me p2] [] pos) (un1 (isXD sub) f) :=
  pd_isX hK hm (pe_glob hgT hmC (v := .ref C) rfl hd) (fun w h => h) hsub ha hg he he2 hpl
/-- .. a built-in one -/
theorem pd_isXB {T : String} {sub : Str → Option Bool} {x : Str} (hK : X.K = z.K) (hm : X.mg "isinstance" = none) (hmT : X.mg x = none) (hbt : bootBuiltins x = some (.type T)) (hsub : ∀ c k, sub c = some k → ∃ D, z.ca c = some D ∧ ExnC z.K D ∧ PySem.W.kitOne z.K (.ref D) (.type T) = some k) (ha : PB X z O EX e f)
    (hn : x ≠ "__name__" := by decide) (hd : (x == ("__debug__" : Str)) = false := by decide) (hg : Gl X "isinstance" := by rfl) (hgT : Gl X x := by rfl)
    (he : starEach [e, .Name x p2] X.env = (false, eval e X.env) :: starEach [.Name x p2] X.env := by rfl) (he2 : starEach [.Name x p2] X.env = (false, eval (.Name x p2) X.env) :: starEach [] X.env := by rfl) (hpl : (backTo pos (starEach [.Name x p2] X.env)).any (·.1) = false := by rfl) :
    PD X z O EX (.Call (.Name "isinstance" p) [e, .Name x p2] [] pos) (un1 (isXD sub) f) :=
  pd_isX hK hm (pe_bltn hgT hmT hbt (v := .ty T) rfl hn hd) (fun w h => h) hsub ha hg he he2 hpl
/-- e.n of an exception -/
def xfD (cs : List Str) (n : Str) : D → Option D
  | .exn c ns vs => if c ∈ cs then lookF ns vs n else none
  | _ => none
theorem pd_xf {cs : List Str} {n : Str} (hK : X.K = z.K) (hcs : ∀ c ∈ cs, ∃ C, z.ca c = some C ∧ ExnC z.K C ∧ PySem.W.findIn z.K (.ref C) n = some none) (ha : PD X z O EX e f) (hb : attributeBase e n X.env (eval e X.env) = eval e X.env := by rfl) : PD X z O EX (.Attribute e n pos) (un1 (xfD cs n) f) := by
  obtain ⟨t, pt, q⟩ := ha.ex
  have pe : PE X (.Attribute e n pos) (fun σ H Q => t σ H fun x H1 => ∃ (ad C dx : Addr) (fs : List (Str × V)) (v : V), x = .ref ad ∧ H1 ad = some (exT ad C (some dx)) ∧ H1 dx = some (.xd fs) ∧ ExnC X.K C ∧ PySem.W.findIn X.K (.ref C) n = some none ∧ fs.lookup n = some v ∧ Q v H1) := by
    refine ⟨fun pins s σ H Q I h => ?_⟩
    refine attr_of hb (thn (pt.run pins s σ H _ I h) fun u s1 hh => ?_)
    obtain ⟨x, H1, I1, rx, ad, C, dx, fs, v, rfl, e1, e2, T, hno, l, qq⟩ := hh
    obtain rfl : u = Value.ref ad := rx
    obtain ⟨o, fv, w1, w2, w3, w4⟩ := exT_at I1.hok e1
    have hx : ObjOk X.prog X.w H1 s1.heap dx (.xd fs) := I1.hok dx _ e2
    obtain ⟨mA, hns, hr⟩ := hx
    obtain ⟨od, ho, hl⟩ := lookIn_ns hns
    obtain ⟨u, hu, ru⟩ := RelO.some_of (v := v) (o := mA n) (by rw [← l]; exact hr n)
    have J : PySem.W.InstAt s1.heap ad o C (some od) := ⟨w1, w2, by unfold PySem.W.notCls; rw [w4] <;> rfl, by rw [w3]; exact ho⟩
    have hin := I1.tok (s1.toks + 1)
    exact HandSPX.exc_get I1.kIn J T.ga T.gg T.ex (PySem.W.findObj_own T.hd hno rfl (by rw [hl, hu])) (handed_of ru) ⟨v, H1, hin, ru, qq⟩
  refine ⟨_, pe, fun B P σ H ρ S Q hP rr hs => ?_⟩
  refine q B P σ H ρ S _ hP rr ((sat_bind.mp hs).imp fun w hw v H1 g1 r1 hv => ?_)
  obtain ⟨d, hd, hq⟩ := sat_of (sat_bind.mp hw)
  obtain ⟨w1, w2⟩ := w
  cases w1 with
  | exn c ns vs =>
    simp only [xfD] at hd
    split at hd
    · rename_i hc
      obtain ⟨C, hca, T, hno⟩ := hcs c hc
      cases hv with
      | exn0 h h2 => simp [lookF] at hd
      | exnD h g h2 r =>
        rw [hca] at h2
        cases h2
        obtain ⟨v, e1, qv⟩ := look_rp r hd
        exact ⟨_, C, _, _, v, rfl, frz_ex _ _ _ _ h, frz_ex _ _ _ _ g, hK ▸ T, hK ▸ hno, e1, hq v H1 g1 r1 qv⟩
    · cases hd
  | _ => cases hd
/-! ### flat values -/
def flV : D → Option V
  | .non => some .non
  | .bl b => some (.bl b)
  | .int i => some (.int i)
  | .str x => some (.str x)
  | _ => none
def flVs : List D → Option (List V)
  | [] => some []
  | d :: r => (flV d).bind fun v => (flVs r).map (v :: ·)
theorem fl_rp {K : PySem.W.Frag} {ca : Str → Option Addr} {F : Hp} {v y : V} {d : D} (h : Rp K ca F v d) (e : flV d = some y) : v = y ∧ flatV y = true := by
  cases h <;> simp only [flV, reduceCtorEq, Option.some.injEq] at e <;> subst e <;> exact ⟨rfl, rfl⟩
theorem fl_rpa {K : PySem.W.Frag} {ca : Str → Option Addr} {F : Hp} : ∀ {vs ys : List V} {ds : List D}, RpA K ca F vs ds → flVs ds = some ys → vs = ys ∧ ys.all flatV = true
  | _, _, _, .nil, e => by cases e; exact ⟨rfl, rfl⟩
  | _, _, _, .cons h r, e => by
    simp only [flVs, Option.bind_eq_some_iff, Option.map_eq_some_iff] at e
    obtain ⟨v, e1, q, e2, rfl⟩ := e
    obtain ⟨rfl, f1⟩ := fl_rp h e1
    obtain ⟨rfl, f2⟩ := fl_rpa r e2
    exact ⟨rfl, by rw [List.all_cons, f1, f2]; rfl⟩
def inF (neg : Bool) (x y : D) : Option D := (flV x).bind fun v => match y with
  | .lst ds => (flVs ds).map fun ys => .bl (if neg then !inV v ys else inV v ys)
  | .tup ds => (flVs ds).map fun ys => .bl (if neg then !inV v ys else inV v ys)
  | _ => none
theorem op2_inF {K : PySem.W.Frag} {ca : Str → Option Addr} {neg : Bool} : Op2 K ca (rIn K neg) (inF neg) := by
  intro H L N x y dx dy d Q fr hx hy e hq
  unfold inF at e
  simp only [Option.bind_eq_some_iff] at e
  obtain ⟨v, e1, e⟩ := e
  obtain ⟨rfl, f1⟩ := fl_rp hx.rp e1
  split at e
  · simp only [Option.map_eq_some_iff] at e
    obtain ⟨ys, e2, rfl⟩ := e
    obtain ⟨ad, xs, rfl, h1, r1⟩ := hy.lst
    obtain ⟨rfl, f2⟩ := fl_rpa r1 e2
    exact ⟨ad, xs, rfl, .inl (SqL.of h1), f1, f2, hq _ H (Ex.refl H) (.bl _)⟩
  · simp only [Option.map_eq_some_iff] at e
    obtain ⟨ys, e2, rfl⟩ := e
    obtain ⟨ad, xs, rfl, h1, r1⟩ := hy.tup
    obtain ⟨rfl, f2⟩ := fl_rpa r1 e2
    exact ⟨ad, xs, rfl, .inr (ex_t (frz_ex H L) h1), f1, f2, hq _ H (Ex.refl H) (.bl _)⟩
  · cases e
def rCntF (K : PySem.W.Frag) : V → List V → Hp → VK → Prop := fun x xs H Q => ∃ (q : Addr) (ys : List V) (y : V), x = .ref q ∧ xs = [y] ∧ SqL K H q ys ∧ flatV y = true ∧ ys.all flatV = true ∧ Q (.int (ys.countP (fun w => eqV w y) : Nat)) H
theorem count_eqU {x : V} : ∀ {xs : List V} {us : List Value}, Vals xs us → xs.all flatV = true → us.countP (eqU x) = xs.countP fun y => eqV y x
  | _, _, .nil, _ => rfl
  | y :: xs, u :: us, .cons r t, f => by
    rw [List.all_cons, Bool.and_eq_true] at f
    rw [List.countP_cons, List.countP_cons, eqU_of r f.1, count_eqU t f.2]
theorem mt_lcountF : MtR X "list.count" (rCntF X.K) := by
  intro pins s σ H x xs v us Q I rx rxs h
  obtain ⟨q, ys, y, rfl, rfl, hs, fy, fys, hq⟩ := h
  cases rx
  obtain ⟨u, rfl, ru⟩ := rxs.one
  obtain ⟨its, rv, ⟨⟨cls, dd, data, sl⟩, n, ho, hc, hdn, hd⟩, hlen⟩ := I.list hs
  simp only at hc hd
  subst hc hd
  refine call_meets PySem.F.slot_list_count ⟨_, ho, rfl⟩ PySem.F.entry_list_count (PySem.F.args_list_count_2 _ _)
    (SeqAt.list_countAt q its.toArray n dd sl u (eqU y)) ⟨ho, fun u' hu' => mem_eqAt ru fy rv fys u' (by simpa using hu'), ?_⟩
  have ec : its.toArray.toList.countP (eqU y) = ys.countP fun w => eqV w y := by
    rw [← count_eqU rv fys]
  refine ⟨.int (ys.countP (fun w => eqV w y) : Nat), H, I.tok _, ⟨s.toks, ?_⟩, hq⟩
  show Value.int ((its.toArray.toList.countP (eqU y) : Nat) : Int) s.toks = Value.int ((ys.countP (fun w => eqV w y) : Nat) : Int) s.toks
  rw [ec]
def cntFD : D → List D → Option D
  | .lst ds, [x] => (flVs ds).bind fun ys => (flV x).map fun y => .int (ys.countP (fun w => eqV w y) : Nat)
  | _, _ => none
theorem mthD_cntF {K : PySem.W.Frag} {ca : Str → Option Addr} : MthD K ca "list" (rCntF K) cntFD := by
  intro H L N x dx vs ds d Q fr hx hv e hq
  unfold cntFD at e
  split at e
  · simp only [Option.bind_eq_some_iff, Option.map_eq_some_iff] at e
    obtain ⟨ys, e1, y, e2, rfl⟩ := e
    cases hv with
    | cons h r =>
      cases r
      obtain ⟨rfl, fy⟩ := fl_rp h.rp e2
      obtain ⟨ad, xs, rfl, h1, r1⟩ := hx.lst
      obtain ⟨rfl, fys⟩ := fl_rpa r1 e1
      exact ⟨ad, xs, _, rfl, rfl, SqL.of h1, fy, fys, hq _ H (Ex.refl H) (.int _)⟩
  · cases e
theorem pd_count (hK : X.K = z.K) (ho : PB X z O EX o f) (ha : PBA X z O EX [e] fa) (hbase : attributeBase o "count" X.env (eval o X.env) = eval o X.env := by rfl)
    (hfew : ((backTo pos (starEach (e :: []) X.env)).all (fun x => !x.1) && (backToKw pos (keywordEach [] X.env)).all (fun x => x.1.isSome)
      && decide ((e :: []).length + ([] : List Keyword).length + (if ([] : List Keyword).isEmpty then 0 else 1) < 30)) = true := by rfl)
    (hline : (apos.endLine == pos.line) = true := by rfl) (hs : starEach (e :: []) X.env = (false, eval e X.env) :: starEach [] X.env := by rfl) (hplain : (backTo pos (starEach [] X.env)).any (·.1) = false := by rfl) :
    PD X z O EX (.Call (.Attribute o "count" apos) [e] [] pos) (mthE "list" cntFD f fa) :=
  pd_mth hK PySem.F.plainAttrs_list PySem.F.slot_list_count PySem.F.type_list_count (r := rCntF z.K) (hK ▸ mt_lcountF) mthD_cntF ho ha hbase hfew hline hs hplain
def idxFD : D → List D → Option D
  | .lst ds, [x] => (flVs ds).bind fun ys => (flV x).bind fun y => (ys.findIdx? fun w => eqV w y).map fun j => .int (j : Nat)
  | _, _ => none
theorem mthD_idxF {K : PySem.W.Frag} {ca : Str → Option Addr} : MthD K ca "list" (rIndex K) idxFD := by
  intro H L N x dx vs ds d Q fr hx hv e hq
  unfold idxFD at e
  split at e
  · simp only [Option.bind_eq_some_iff, Option.map_eq_some_iff] at e
    obtain ⟨ys, e1, y, e2, j, e3, rfl⟩ := e
    cases hv with
    | cons h r =>
      cases r
      obtain ⟨rfl, fy⟩ := fl_rp h.rp e2
      obtain ⟨ad, xs, rfl, h1, r1⟩ := hx.lst
      obtain ⟨rfl, fys⟩ := fl_rpa r1 e1
      rw [List.findIdx?_eq_some_iff_getElem] at e3
      obtain ⟨hj, hj2, hj3⟩ := e3
      refine ⟨ad, xs, _, j, xs[j], rfl, rfl, SqL.of h1, fy, fys, List.getElem?_eq_getElem hj, hj2, fun m z' hm hz => ?_, hq _ H (Ex.refl H) (.int _)⟩
      obtain ⟨hm2, rfl⟩ := List.getElem?_eq_some_iff.mp hz
      have := hj3 m hm
      simpa using this
  · cases e
theorem pd_indexF (hK : X.K = z.K) (ho : PB X z O EX o f) (ha : PBA X z O EX [e] fa) (hbase : attributeBase o "index" X.env (eval o X.env) = eval o X.env := by rfl)
    (hfew : ((backTo pos (starEach (e :: []) X.env)).all (fun x => !x.1) && (backToKw pos (keywordEach [] X.env)).all (fun x => x.1.isSome)
      && decide ((e :: []).length + ([] : List Keyword).length + (if ([] : List Keyword).isEmpty then 0 else 1) < 30)) = true := by rfl)
    (hline : (apos.endLine == pos.line) = true := by rfl) (hs : starEach (e :: []) X.env = (false, eval e X.env) :: starEach [] X.env := by rfl) (hplain : (backTo pos (starEach [] X.env)).any (·.1) = false := by rfl) :
    PD X z O EX (.Call (.Attribute o "index" apos) [e] [] pos) (mthE "list" idxFD f fa) :=
  pd_mth hK PySem.F.plainAttrs_list PySem.F.slot_list_index PySem.F.type_list_index (r := rIndex z.K) (hK ▸ mt_index) mthD_idxF ho ha hbase hfew hline hs hplain
end
end PL
set_option Elab.async false
set_option linter.all false
set_option maxRecDepth 100000
set_option maxHeartbeats 4000000
/-! Defs that may be called while an exception is handled. -/
namespace PL
open PySem PySem.Spec PyProof.Rows L2
/-- room for k calls, no guard around; an exception may be handled -/
structure RmH (k : Nat) (A : Around) : Prop where
  r : L2H.RoomH k A
  g : A.guards = some []
theorem RmH.mono {j k : Nat} {A : Around} (h : RmH k A) (l : j ≤ k) : RmH j A := ⟨h.r.mono l, h.g⟩
theorem Rm.hot {k : Nat} {A : Around} (h : Rm k A) (v : Option Value) : RmH k (A.mark v) := ⟨⟨h.r.dp, h.r.un⟩, h.g⟩
theorem Rm.h {k : Nat} {A : Around} (h : Rm k A) : RmH k A := ⟨⟨h.r.dp, h.r.un⟩, h.g⟩
theorem RmH.units {k : Nat} {A : Around} (h : RmH k A) : A.units + 64 < cLine := by have := h.r.un; omega
structure FnA (Pg : Program) (w : World) (K : PySem.W.Frag) (mg : Str → Option Value) (base : Heap) (k : Nat) (fA : Addr) (fd : FuncData) (ps : List Str) (sp : Sp) : Prop where
  num : ∀ vs H Q E, sp vs H Q E → vs.length = ps.length
  go : ∀ (A : Around) (up : List PySem.Env) (s : Shared) (H : Hp) (args : Args) (us : List Value) (vs : List V) (Q : VK) (E : XK), L2H.RoomH k A → A.guards = some [] → Env0 Pg w K mg base A up s H →
    BindsTo s fd args (ps.zip us) → Vals vs us → sp vs H Q E → codeAny (model Pg w) A (.call (.ref fA) args) (CR CX0 up Pg w H s Q E) s
/-- the context of such a def's body -/
abbrev cxA (P : Program) (w : World) (K : PySem.W.Frag) (mg : Str → Option Value) (base : Heap) (N : List Str) (qual : Str) (scope : Scope) (f : Addr) (cd : Value) (A : Around) (outer : List PySem.Env) (s : Shared) (H : Hp) (E : XK) : Cx :=
  { (cxOf CX0 P w K mg base N qual scope f cd A outer s H E).nox with calm := false }
section
variable {Pg : Program} {w : World} {K : PySem.W.Frag} {mg : Str → Option Value} {base : Heap} {j k : Nat} {fA : Addr} {fd : FuncData} {ps : List Str} {sp sp' : Sp} {ca : Str → Option Addr} {T : Tb}
theorem FnA.up (F : FnA Pg w K mg base j fA fd ps sp) (h : j ≤ k) : FnA Pg w K mg base k fA fd ps sp :=
  ⟨F.num, fun A up s H args us vs Q E hr hgu => F.go A up s H args us vs Q E (hr.mono h) hgu⟩
theorem FnA.toG (F : FnA Pg w K mg base k fA fd ps sp) : FnG Pg w K mg base k fA fd ps sp :=
  ⟨F.num, fun A up s H args us vs Q E hr hgu => F.go A up s H args us vs Q E ⟨hr.dp, hr.un⟩ hgu⟩
theorem fn_bodyA {x qual : Str} {st : Stmt} {N : List Str} (F : Fun K x qual st fA fd) (Sc : FnScope N ps (defScope st)) (num : ∀ vs H Q E, sp vs H Q E → vs.length = ps.length)
    (body : ∀ (cdv : Value) (A : Around) (up : List PySem.Env) (s : Shared) (H : Hp) (vs : List V) (Q : VK) (E : XK), L2H.RoomH k (A.deeper (envOfC qual (defScope st) s.heap.objs.size fA cdv)) → A.guards = some [] → sp vs H Q E →
      ∃ t, PSs (cxA Pg w K mg base N qual (defScope st) fA cdv A up s H E) (defBody st) t ∧ t { nx := fun _ H' => Q .non H', rt := Q } (L2.start N vs) H) : FnA Pg w K mg base (k + 1) fA fd ps sp := by
  obtain ⟨oc, od, kV, doc, pm, an, cdv, ct, osl, rfl, lk, hcd⟩ := F.ex
  refine ⟨num, fun A up s H args us vs Q E hr hgu e0 hb rv hsp => ?_⟩
  have hlen := num _ _ _ _ hsp
  have kin : K.In s.heap := e0.mod.kin.keeps fun b o e => (e0.bs b o e).1
  have nolim : s.heap.NoLimit := e0.mod.nolimit.keeps fun b o e => (e0.bs b o e).1
  have hvis : ∀ y ∈ ps.zip us, (defScope st).names.lookup y.1 = some .local ∨ ((defScope st).names.lookup y.1 = some .cell ∧ ((cellsFrom (s.heap.objs.size + 1) (defScope st).names []).lookup y.1).isSome = true) := by
    intro y hy
    obtain ⟨n, v⟩ := y
    exact (Sc.par n (List.of_mem_zip hy).1).imp id fun q => ⟨q, PySem.W.cellsFrom_some _ _ _ (.inl q)⟩
  refine codeAny_call_function hr.depth (kin _ _ lk) rfl Sc.co Sc.gen rfl (PySem.W.codeRec_of kin hcd) (hb _ _ _ _ (wpAny_newFunctionEnv_cells Sc.kind hvis fun env he s1 x => ?_))
  subst he
  obtain ⟨t, ht, hq⟩ := body cdv A up s H vs Q E (hr.deeper _) hgu hsp
  have e1 : Env0 Pg w K mg base { A with handled := none } up s H := ⟨e0.frames, e0.mod, e0.bs, e0.bsz, e0.funs, e0.frf, e0.hok, e0.bare⟩
  have J0 : Inv (cxOf CX0 Pg w K mg base N qual (defScope st) fA cdv { A with handled := none } up s H E) [] (L2.start N vs) H s1 := inv_start Sc rfl e1 hlen rv x
  have J : Inv (cxA Pg w K mg base N qual (defScope st) fA cdv A up s H E) [] (L2.start N vs) H s1 :=
    ⟨⟨J0.ok.mod, J0.ok.kind, J0.ok.glob, J0.ok.blt, J0.ok.above, J0.ok.inj, J0.ok.has, J0.ok.cab, fun q => absurd (show false = true from q) Bool.false_ne_true, Around.frames_deeper e0.frames, J0.ok.stk, J0.ok.exf, J0.ok.bs, J0.ok.bsz, J0.ok.noex, J0.ok.exfs, J0.ok.funs, J0.ok.frf⟩,
      J0.os, J0.bare, J0.base, J0.loc, J0.cell, J0.free, J0.freeC, J0.pin, J0.hok, J0.len⟩
  refine ⟨nolim.keeps x.toInCall.keep, codeAny_func (wpAny_mono (ht.run [] s1 _ H _ J hq) (fun fl s' hs => ?_) fun e s' hs => hs.elim)⟩
  cases fl with
  | ret u =>
    obtain ⟨v, σ', H', J2, r2, q2⟩ := hs
    exact ⟨v, H', J2.os, J2.bare, J2.base, J2.hok, r2, q2⟩
  | next =>
    obtain ⟨σ', H', J2, q2⟩ := hs
    exact ⟨V.non, H', J2.os, J2.bare, J2.base, J2.hok, rfl, q2⟩
  | brk =>
    obtain ⟨_, _, _, q2⟩ := hs
    exact q2.elim
  | cont =>
    obtain ⟨_, _, _, q2⟩ := hs
    exact q2.elim
/-- a def whose body asks nothing of what is handled -/
theorem fn_a {x qual : Str} {st : Stmt} {N : List Str} {fs : FS} {OO : List Nat} (F : Fun K x qual st fA fd) (Sc : FnScope N ps (defScope st))
    (body : ∀ (cdv : Value) (A : Around) (outer : List PySem.Env) (s : Shared) (H : Hp) (E : XK), RmH k (A.deeper (envOfC qual (defScope st) s.heap.objs.size fA cdv)) →
      PSS (cxA Pg w K mg base N qual (defScope st) fA cdv A outer s H E) ⟨K, ca, H, none, .lst, T, [], [], []⟩ [] OO [] EX0 (defBody st) fs) :
    FnA Pg w K mg base (k + 1) fA fd ps (spF K ca T (runF N.length ps.length fs)) := by
  refine fn_bodyA F Sc (fun vs H Q E h => ?_) (fun cdv A outer s H vs Q E hr hgu h => ?_)
  · obtain ⟨ds, B, _, _, _, hv, hs⟩ := h
    rw [hv.length]
    unfold runF at hs
    split at hs
    · assumption
    · exact hs.elim
  · obtain ⟨ds, B, hB, hb, ti, hv, hs⟩ := h
    obtain ⟨t, p, q⟩ := (body cdv A outer s H E ⟨hr, hgu⟩).ex
    refine ⟨t, p, ?_⟩
    unfold runF at hs
    split at hs
    · have ef : ∀ H', Frz H' (Z.L ⟨K, ca, H, none, .lst, T, [], [], []⟩ (beside T B) []) = Frz H' B := fun H' => frz_congr fun a => beside_iff ti.sub a
      refine q (beside T B) [] (L2.start N vs) H (startE N.length ds) [] _ rfl (rel_start hB hb ti hv) ((sat_bind.mp hs).imp fun r hr => ?_)
      obtain ⟨c, ρ1, S1⟩ := r
      cases c with
      | nx =>
        intro P' σ' H' h1 h2 h3
        have hr : ∀ v H', GrT T H H' → LamX.Tabs T H' → Rp K ca (Frz H' B) v .non → Q v H' := hr
        exact hr .non H' (fun a o n e => h3.ex a o e n) h3.tabs .non
      | rt d =>
        intro v H' hf
        have hr : ∀ v H', GrT T H H' → LamX.Tabs T H' → Rp K ca (Frz H' B) v d → Q v H' := hr
        exact hr v H' (fun a o n e => hf.ex a o e n) hf.tabs (ef H' ▸ hf.val)
      | bk => exact hr.elim
      | ct => exact hr.elim
    · exact hs.elim
end
section
variable {X : Cx} {z : Z} {O OI OM OO OL : List Nat} {EX : EXT} {a b c e o : Expr} {es : List Expr} {f g h : FE} {fa ga fk : FA} {fs gs : FS} {pos p apos : Pos} {st : Stmt} {sts : List Stmt}
variable {B : List Addr} {P : List (Nat × Addr)} {σ σ' : L2.St} {H H' : Hp} {ρ ρ' : Env} {S S' : List D} {x m : Str} {pins : List (Addr × Obj)} {s : Shared} {Q : VK} {E : XK} {sp : Sp} {t : TA}
variable {k : Nat} {fA C : Addr} {fd : FuncData} {ps : List Str} {ds : List Value} {dvs : List V} {dds : List D} {kws : List Keyword}
theorem run_a {args : Args} {us : List Value} {vs : List V} (F : FnA X.prog X.w X.K X.mg X.base k fA fd ps sp) (hr : RmH k X.A) (hb : BindsTo s fd args (ps.zip us)) (I : Inv X pins σ H s) (r : Vals vs us) (h : sp vs H Q E) :
    wpAny (model X.prog X.w) X.A (call (.ref fA) args.pos args.kw) (EP X pins σ Q) X.xe s := by
  refine wpAny_call (codeAny_mono (F.go X.A X.stack s H args us vs Q E hr.r hr.g I.env0 hb r h) fun res s' hq => ?_)
  match res, hq with
  | .ok (.ret u), hq => exact I.after hq
  | .ok .next, hq => exact False.elim hq
  | .ok .brk, hq => exact False.elim hq
  | .ok .cont, hq => exact False.elim hq
  | .error er, hq => exact False.elim hq
theorem pd_callA {F : List D → R D} (G : FnA X.prog X.w X.K X.mg X.base k fA fd ps (spF z.K z.ca z.tb F)) (hr : RmH k X.A) (hm : X.mg x = some (.ref fA)) (hk : PySem.W.keepIn X.K (.ref fA) = true) (hb : Binds X.K fd ps ds) (hd : Vals dvs ds) (hdd : ∀ F', RpA z.K z.ca F' dvs dds)
    (ha : PAd X z O EX (e :: es) fa) (hg : Gl X x := by rfl) (hdb : (x == ("__debug__" : Str)) = false := by decide) (he : starEach (e :: es) X.env = (false, eval e X.env) :: starEach es X.env := by rfl) (hpl : (backTo pos (starEach es X.env)).any (·.1) = false := by rfl) :
    PD X z O EX (.Call (.Name x p) (e :: es) [] pos) (callD F dds fa) := by
  obtain ⟨t, pt, q⟩ := ha.ex
  have pe : PE X (.Call (.Name x p) (e :: es) [] pos) (tCall (spF z.K z.ca z.tb F) dvs E0 t) := ⟨fun pins s σ H Q I h => by
    refine wpAny_Call_Name_kw (ld_glob I hg hm (PySem.W.callWith_K (h₀ := X.base) I.ok.mod.kin hk (thn (pt.run pos pins s σ H _ I h) fun us s1 hv => ?_) he hpl) hdb)
    obtain ⟨vs, H1, I1, r, q⟩ := hv
    have r2 := r.append hd
    exact ⟨I1.kIn, run_a (args := ⟨us, []⟩) G hr (hb s1 us I1.kIn (by rw [← r2.length]; exact G.num _ _ _ _ q)) I1 r2 q⟩⟩
  refine ⟨_, pe, fun B P σ H ρ S Q hP rr hs => ?_⟩
  refine q B P σ H ρ S _ hP rr ((sat_bind.mp hs).imp fun w hw vs H1 g1 r1 hv => ?_)
  refine spF_of r1 (hv.append (hdd _)) (hw.imp fun r hr v H' g' r' hv' => hr v H' (g1.trans g') r' hv')
theorem pt_in (hK : X.K = z.K) (ha : PB X z O EX a f) (hb : PB X z O EX b g) (hm : behindInMarks .In b = false := by rfl) : PTd X z O EX (.Compare a [.In] [b] pos) (tstB (bin2 (inF false) f g)) := pt_cmp1 (hK ▸ op_in_seq) op2_inF ha hb hm
end
end PL
set_option Elab.async false
set_option linter.all false
set_option maxRecDepth 100000
set_option maxHeartbeats 4000000
/-! x[i] = e of an owned list; repr of data with {} in it; what an except clause and isinstance ask of own classes. -/
namespace PL
open PySem PySem.Spec PyProof.Rows L2
section
variable {X : Cx} {z : Z} {O OI OM OO OL : List Nat} {EX : EXT} {a b c e o : Expr} {es : List Expr} {f g h : FE} {fa ga fk : FA} {fs gs : FS} {pos p p2 apos cpos : Pos} {st : Stmt} {sts : List Stmt}
variable {B : List Addr} {P : List (Nat × Addr)} {σ σ' : L2.St} {H H' : Hp} {ρ ρ' : Env} {S S' : List D} {x m : Str} {pins : List (Addr × Obj)} {s : Shared}
/-! ### repr -/
/-- an item: data, or {} -/
def toPyQ : D → Option PyData
  | .dic [] [] => some (.dict [])
  | d => toPy d
def toPyQA : List D → Option (List PyData)
  | [] => some []
  | d :: r => (toPyQ d).bind fun p => (toPyQA r).map fun q => p :: q
theorem flat_ints : ∀ ns : List Int, PyData.hasDictAll (ns.map PyData.int) = false
  | [] => rfl
  | n :: r => by simp only [List.map_cons, PyData.hasDictAll, PyData.hasDict, flat_ints r, Bool.or_self]
mutual
theorem Rp.flat {K : PySem.W.Frag} {ca : Str → Option Addr} {F : Hp} : ∀ {v : V} {d : D} {p : PyData}, Rp K ca F v d → toPy d = some p → p.hasDict = false
  | _, _, _, .non, e => by cases e; rfl
  | _, _, _, .bl b, e => by cases e; rfl
  | _, _, _, .int i, e => by cases e; rfl
  | _, _, _, .str x, e => by cases e; rfl
  | _, _, _, .tup h r, e => by
    simp only [toPy, Option.map_eq_some_iff] at e
    obtain ⟨q, e1, rfl⟩ := e
    simp only [PyData.hasDict]
    exact RpA.flat r e1
  | _, _, _, .lst h r, e => by
    simp only [toPy, Option.map_eq_some_iff] at e
    obtain ⟨q, e1, rfl⟩ := e
    simp only [PyData.hasDict]
    exact RpA.flat r e1
  | _, _, _, .scr h, e => by
    cases e
    simp only [PyData.hasDict]
    exact flat_ints _
  | _, _, _, .dic h r, e => by cases e
  | _, _, _, .ins h c r, e => by cases e
  | _, _, _, .cls c, e => by cases e
  | _, _, _, .exn0 _ _, e => by cases e
  | _, _, _, .exnD _ _ _ _, e => by cases e
theorem RpA.flat {K : PySem.W.Frag} {ca : Str → Option Addr} {F : Hp} : ∀ {vs : List V} {ds : List D} {ps : List PyData}, RpA K ca F vs ds → toPyA ds = some ps → PyData.hasDictAll ps = false
  | _, _, _, .nil, e => by cases e; rfl
  | _, _, _, .cons h r, e => by
    simp only [toPyA, Option.bind_eq_some_iff, Option.map_eq_some_iff] at e
    obtain ⟨p, e1, q, e2, rfl⟩ := e
    simp only [PyData.hasDictAll, Rp.flat h e1, RpA.flat r e2, Bool.or_self]
end
/-- an item, as it is read -/
theorem Rp.readsQ (I : Inv X pins σ H s) {ca : Str → Option Addr} {v : V} {d : D} {p : PyData} {u : Value} (rp : Rp X.K ca H v d) (e : toPyQ d = some p) (r : RelV v u) : ∃ as, Reads s.heap u p as ∧ (p.hasDict = true → sysModules ∉ as) := by
  cases rp with
  | dic h q =>
    rename_i ad kvs ds
    cases kvs with
    | cons k ks =>
      cases q
      cases e
    | nil =>
      cases q
      cases e
      cases r
      obtain ⟨_, ne, vs, kv, hd⟩ := (show ObjOk X.prog X.w H s.heap ad (.dK []) from I.hok ad _ h)
      cases kv
      obtain ⟨o, es, ep, e1, e2, e3, _, pr, _⟩ := hd
      have e4 : es.toList = [] := by
        cases pq : es.toList with
        | nil => rfl
        | cons u r =>
          rw [pq] at pr
          cases pr
      refine ⟨_, .dict e1 e2.1 e3 (as := []) (bs := []) (by rw [e4]; exact .nil) (by rw [e4]; exact .nil), fun _ hm => ?_⟩
      have := List.mem_singleton.mp hm
      rw [← this] at ne
      simp at ne
  | ins h c q => cases e
  | cls c => cases e
  | exn0 h c => cases e
  | exnD h g c q => cases e
  | non => exact (Dp.reads I p _ u (Rp.dp (ca := ca) .non e) r).imp fun as h => ⟨h, fun z => by rw [Rp.flat (F := H) (K := X.K) (ca := ca) .non e] at z; cases z⟩
  | bl b => exact (Dp.reads I p _ u (Rp.dp (ca := ca) (.bl b) e) r).imp fun as h => ⟨h, fun z => by rw [Rp.flat (F := H) (K := X.K) (ca := ca) (.bl b) e] at z; cases z⟩
  | int i => exact (Dp.reads I p _ u (Rp.dp (ca := ca) (.int i) e) r).imp fun as h => ⟨h, fun z => by rw [Rp.flat (F := H) (K := X.K) (ca := ca) (.int i) e] at z; cases z⟩
  | str x => exact (Dp.reads I p _ u (Rp.dp (ca := ca) (.str x) e) r).imp fun as h => ⟨h, fun z => by rw [Rp.flat (F := H) (K := X.K) (ca := ca) (.str x) e] at z; cases z⟩
  | tup h q => exact (Dp.reads I p _ u (Rp.dp (.tup h q) e) r).imp fun as w => ⟨w, fun z => by rw [Rp.flat (.tup h q) e] at z; cases z⟩
  | lst h q => exact (Dp.reads I p _ u (Rp.dp (.lst h q) e) r).imp fun as w => ⟨w, fun z => by rw [Rp.flat (.lst h q) e] at z; cases z⟩
  | scr h => exact (Dp.reads I p _ u (Rp.dp (ca := ca) (.scr h) e) r).imp fun as w => ⟨w, fun z => by rw [Rp.flat (ca := ca) (.scr h) e] at z; cases z⟩
/-- items, as they are read and shown -/
theorem RpA.showsQ (I : Inv X pins σ H s) {ca : Str → Option Addr} : ∀ {vs : List V} {ds : List D} {ps : List PyData} {us : List Value}, RpA X.K ca H vs ds → toPyQA ds = some ps → Vals vs us → PyData.showableAll ps = true → (∀ t ∈ PyData.shownAll ps, t.length ≤ sizeLine) →
    ∃ as bs, ReadsAll s.heap us ps as ∧ ReadAtMost s.heap (PyData.depthAll ps) bs ∧ ReprAllK X.prog X.w bs s.heap (PyData.depthAll ps) us (PyData.shownAll ps)
  | _, _, _, _, .nil, e, r, _, _ => by
    cases e
    cases r
    exact ⟨[], [], .nil, (fun _ h => nomatch h), by simp only [PyData.shownAll]; exact .nil⟩
  | _, _, _, _, .cons h q, e, r, hs, hz => by
    simp only [toPyQA, Option.bind_eq_some_iff, Option.map_eq_some_iff] at e
    obtain ⟨p, e1, ps, e2, rfl⟩ := e
    cases r with
    | cons r1 r2 =>
      have hs' : p.showable = true ∧ PyData.showableAll ps = true := by simpa [PyData.showableAll] using hs
      obtain ⟨as, h1, n1⟩ := Rp.readsQ I h e1 r1
      obtain ⟨b1, hb1, k1⟩ := ReprK.of_reads (prog := X.prog) (w := X.w) h1 hs'.1 n1 (hz _ (by simp only [PyData.shownAll]; exact List.mem_cons_self ..))
      obtain ⟨as2, b2, h2, hb2, k2⟩ := RpA.showsQ I q e2 r2 hs'.2 fun t ht => hz t (by simp only [PyData.shownAll]; exact List.mem_cons_of_mem _ ht)
      refine ⟨_, b1 ++ b2, .cons h1 h2, ?_, ?_⟩
      · simp only [PyData.depthAll]
        exact (hb1.mono (Nat.le_max_left _ _)).append (hb2.mono (Nat.le_max_right _ _))
      · simp only [PyData.depthAll, PyData.shownAll]
        exact .cons ((k1.more fun b hb => List.mem_append_left _ hb).level_le (Nat.le_max_left _ _)) (k2.more_le (fun b hb => List.mem_append_right _ hb) (Nat.le_max_right _ _))
/-- the text of data -/
def shownR (p : PyData) : Option Str := if p.showable && decide (p.depth ≤ 60) && decide (p.shown.length ≤ LINE) then some p.shown else none
def reprX (d : D) : Option D := match d with
  | .non => some (.str "None")
  | .bl b => some (.str (if b then "True" else "False"))
  | .int i => if i.natAbs.log2 < 1920 then some (.str (toString i)) else none
  | .str y => if (reprText y).length ≤ LINE then some (.str (reprText y)) else none
  | .tup xs => (toPy (.tup xs)).bind fun p => (shownR p).map .str
  | .lst xs => (toPyQA xs).bind fun ps => (shownR (.list ps)).map .str
  | .dic [] [] => some (.str "{}")
  | _ => none
def reprXL : List D → Option D | [x] => reprX x | _ => none
def rReprX (K : PySem.W.Frag) : List V → Hp → VK → Prop := fun xs H Q => ∃ (v : V) (d : D) (y : D) (u : V) (ca : Str → Option Addr), xs = [v] ∧ Rp K ca H v d ∧ reprX d = some y ∧ (∀ F, Rp K ca F u y) ∧ Q u H
theorem repr_list (I : Inv X pins σ H s) (hu : X.A.units + 64 < cLine) (hg : X.A.guards = some []) {ca : Str → Option Addr} {ad : Addr} {xs : List V} {ds : List D} {ps : List PyData} (h : H ad = some (.lst xs)) (q : RpA X.K ca H xs ds) (e : toPyQA ds = some ps) (hs : PyData.showableAll ps = true) (hd : PyData.depthAll ps + 1 ≤ 60) (hz : (listText (PyData.shownAll ps)).length ≤ sizeLine)
    {Q : VK} (hq : Q (.str (listText (PyData.shownAll ps))) H) : wpAny (model X.prog X.w) X.A (call (.builtin "repr") [.ref ad]) (EP X pins σ Q) X.xe s := by
  obtain ⟨its, rv, ⟨o, n, ho, hc, _, hdt⟩, _⟩ := I.list (SqL.of h)
  obtain ⟨as, bs, h2, hb, k⟩ := RpA.showsQ I q e rv hs fun t ht => Nat.le_trans (listText_mem_le ht) hz
  have hna : ad ∉ bs := not_mem_of_deeper (.list ho hc hdt h2) (by simp only [PyData.depth]; omega) hb
  have hT : s.TypeIs (.ref ad) "list" := ⟨o, ho, hc⟩
  have hu1 : X.A.in1.units = X.A.units + 1 := rfl
  refine call_repr_slot (by omega) hT PySem.F.slot_list_repr.toG ?_
  have fin : ∀ (h' : Heap) (u : Tok) (tk : Nat) (t : Str), t = listText (PyData.shownAll ps) → (∀ b o, s.heap.get? b = some o → h'.get? b = some o) → ∃ x t', Value.str t u = .str x t' ∧ EP X pins σ Q (.str t u) { s with heap := h', toks := tk } := by
    intro h' u tk t et hk
    subst et
    exact ⟨_, _, rfl, .str _, H, I.kept hk, ⟨_, rfl⟩, hq⟩
  cases its with
  | nil =>
    cases h2
    have et : ("[]" : Str) = listText (PyData.shownAll []) := listText_nil.symm
    exact call_list_repr_empty ⟨o, ho, hc⟩ ho hdt (fin s.heap _ _ _ et fun _ _ e => e)
  | cons x l =>
    exact call_list_reprK (as := bs) ho hc hdt hna (by simpa using k.length_eq) (fun i y e => k.item i y (by simpa using e)) hg (fun b _ => Clear.nil b) (by omega) (fun _ _ e => e) (fun h' u tk hk => fin h' u tk _ rfl hk) hz
theorem call_repr_x (hu : X.A.units + 64 < cLine) (hg : X.A.guards = some []) : CallR X (.builtin "repr") (rReprX X.K) := by
  intro pins s σ H xs us Q I r h
  obtain ⟨v, d, y, u, ca, rfl, rp, hy, ru, q⟩ := h
  obtain ⟨w, rfl, rw_⟩ := vals1 r
  cases rp with
  | non =>
    cases hy
    cases ru (fun _ => none)
    cases rw_
    exact PySem.P.repr_of_none ⟨.str _, H, I.tok _, ⟨_, rfl⟩, q⟩
  | bl b =>
    cases hy
    cases ru (fun _ => none)
    cases rw_
    exact PySem.P.repr_of_bool ⟨.str _, H, I.tok _, ⟨s.toks, by cases b <;> rfl⟩, q⟩
  | int i =>
    simp only [reprX] at hy
    split at hy
    · rename_i l
      cases hy
      cases ru (fun _ => none)
      obtain ⟨t, rfl⟩ := rw_
      exact PySem.P.repr_of_int l ⟨.str _, H, I.tok _, ⟨_, rfl⟩, q⟩
    · cases hy
  | str x =>
    simp only [reprX] at hy
    split at hy
    · rename_i l
      cases hy
      cases ru (fun _ => none)
      obtain ⟨t, rfl⟩ := rw_
      exact PySem.P.repr_of_str ⟨.str _, H, I.tok _, ⟨_, rfl⟩, q⟩ (line_le l)
    · cases hy
  | tup h r' =>
    simp only [reprX, Option.bind_eq_some_iff, Option.map_eq_some_iff] at hy
    obtain ⟨p, e1, t, e2, rfl⟩ := hy
    cases ru (fun _ => none)
    have rp' := Rp.tup (ca := ca) h r'
    obtain ⟨as, rd⟩ := Dp.reads I p _ w (rp'.dp e1) rw_
    have fl := rp'.flat e1
    unfold shownR at e2
    split at e2
    · rename_i l
      cases e2
      simp only [Bool.and_eq_true, decide_eq_true_eq] at l
      obtain ⟨⟨w2, w4⟩, w5⟩ := l
      cases rw_
      exact repr_of_reads' rd w2 (PyData.noDict_hsm fl) hg (by omega) (fun _ _ e => e) (fun h' u tk hk => ⟨.str _, H, I.kept hk, ⟨_, rfl⟩, q⟩) (line_le w5)
    · cases e2
  | lst h r' =>
    simp only [reprX, Option.bind_eq_some_iff, Option.map_eq_some_iff] at hy
    obtain ⟨ps, e1, t, e2, rfl⟩ := hy
    cases ru (fun _ => none)
    unfold shownR at e2
    split at e2
    · rename_i l
      simp only [PyData.shown, Option.some.injEq] at e2
      subst e2
      simp only [Bool.and_eq_true, decide_eq_true_eq] at l
      obtain ⟨⟨w2, w4⟩, w5⟩ := l
      simp only [PyData.showable] at w2
      simp only [PyData.depth] at w4
      simp only [PyData.shown] at w5
      cases rw_
      exact repr_list I hu hg h r' e1 w2 (by omega) (line_le w5) q
    · cases e2
  | dic h r' =>
    rename_i ad kvs ds
    cases kvs with
    | cons k ks => cases hy
    | nil =>
      cases r'
      cases hy
      cases ru (fun _ => none)
      obtain ⟨as, rd, hsm⟩ := Rp.readsQ I (p := .dict []) (Rp.dic (ca := ca) h .nil) rfl rw_
      cases rw_
      exact repr_of_reads' rd rfl hsm hg (by have : (PyData.dict []).depth ≤ 2 := (by decide); omega) (fun _ _ e => e) (fun h' u tk hk => ⟨.str _, H, I.kept hk, ⟨_, rfl⟩, q⟩) (by decide)
  | scr h => cases hy
  | ins h c r' => cases hy
  | cls c => cases hy
  | exn0 h c => cases hy
  | exnD h g c r' => cases hy
theorem reprX_str {d y : D} (h : reprX d = some y) : ∃ t, y = .str t := by
  cases d <;> simp only [reprX, Option.bind_eq_some_iff, Option.map_eq_some_iff, reduceCtorEq, Option.some.injEq] at h
  · exact ⟨_, h.symm⟩
  · exact ⟨_, h.symm⟩
  · split at h
    · cases h; exact ⟨_, rfl⟩
    · cases h
  · split at h
    · cases h; exact ⟨_, rfl⟩
    · cases h
  · obtain ⟨p, _, t, _, rfl⟩ := h; exact ⟨_, rfl⟩
  · obtain ⟨p, _, t, _, rfl⟩ := h; exact ⟨_, rfl⟩
  · rename_i ks vs
    cases ks with
    | cons k ks => cases h
    | nil =>
      cases vs with
      | nil => cases h; exact ⟨_, rfl⟩
      | cons v vs => cases h
theorem callD_reprX {K : PySem.W.Frag} {ca : Str → Option Addr} : CallD K ca (rReprX K) reprXL := by
  intro H L N vs ds d Q fr hv e hq
  unfold reprXL at e
  split at e
  · cases hv with
    | cons h r =>
      cases r
      obtain ⟨t, rfl⟩ := reprX_str e
      exact ⟨_, _, _, .str t, ca, rfl, h.rp, e, fun _ => .str t, hq _ H (Ex.refl H) (.str _)⟩
  · cases e
theorem pd_reprX (hK : X.K = z.K) (hu : X.A.units + 64 < cLine) (hgu : X.A.guards = some []) (hm : X.mg "repr" = none) (ha : PBA X z O EX [e] fa) (hg : Gl X "repr" := by rfl) (he : starEach [e] X.env = (false, eval e X.env) :: starEach [] X.env := by rfl) (hpl : (backTo pos (starEach [] X.env)).any (·.1) = false := by rfl) :
    PD X z O EX (.Call (.Name "repr" p) [e] [] pos) (callE reprXL fa) := pd_callB (r := rReprX z.K) (hK ▸ call_repr_x hu hgu) callD_reprX hm ha hg (by decide +kernel) (by decide) (by decide) he hpl
end
/-! ### what an except clause and isinstance ask -/
theorem kit_cls {K : PySem.W.Frag} {D C : Addr} {k : Bool} (hd : PySem.W.hasDictIn K C = true) (ty : PySem.W.typeIn K (.ref C) = some (.type "type")) (m : PySem.W.mroIn K D (.ref C) = some k) : PySem.W.kitCls K (.ref D) (.ref C) = some k := by
  obtain ⟨cd, w, _⟩ := PySem.W.any_some hd
  show (if ((PySem.W.clsIn K C).isSome && PySem.W.typeIn K (.ref C) == some (.type "type")) = true then PySem.W.subIn K (.ref D) (.ref C) else none) = some k
  rw [if_pos (by rw [w, ty]; exact beq_self_eq_true _)]
  exact m
theorem kit_ref {K : PySem.W.Frag} {D C : Addr} {k : Bool} (hd : PySem.W.hasDictIn K C = true) (ty : PySem.W.typeIn K (.ref C) = some (.type "type")) (self : PySem.W.mroIn K D (.ref D) = some true) (m : PySem.W.mroIn K D (.ref C) = some k) : PySem.W.kitOne K (.ref D) (.ref C) = some k := by
  show (if (Value.ref D == Value.ref C) = true then some true else PySem.W.kitCls K (.ref D) (.ref C)) = some k
  split
  · rename_i e
    have e := beq_iff_eq.mp e
    cases e
    rw [self] at m
    exact m
  · exact kit_cls hd ty m
theorem kit_bty {K : PySem.W.Frag} {D : Addr} {T : String} {k : Bool} (mt : PySem.W.kitMeta T = true) (m : PySem.W.mroIn K D (.type T) = some k) : PySem.W.kitOne K (.ref D) (.type T) = some k := by
  show (if (Value.ref D == Value.type T) = true then some true else PySem.W.kitCls K (.ref D) (.type T)) = some k
  rw [if_neg (by intro q; cases q)]
  show (if PySem.W.kitMeta T = true then PySem.W.subIn K (.ref D) (.type T) else none) = some k
  rw [if_pos mt]
  exact m
theorem exm_ref {K : PySem.W.Frag} {D C : Addr} {k : Bool} (ex : PySem.W.mroIn K C (.type "BaseException") = some true) (hd : PySem.W.hasDictIn K C = true) (ty : PySem.W.typeIn K (.ref C) = some (.type "type")) (m : PySem.W.mroIn K D (.ref C) = some k) : PySem.W.exmOne K (.ref D) (.ref C) = some k := by
  unfold PySem.W.exmOne
  rw [if_pos (by rw [show PySem.W.subIn K (.ref C) (.type "BaseException") = some true from ex]; exact beq_self_eq_true _)]
  exact kit_cls hd ty m
theorem exm_three {K : PySem.W.Frag} {v c1 c2 c3 : Value} {b1 b2 b3 : Bool} (h1 : PySem.W.exmOne K v c1 = some b1) (h2 : PySem.W.exmOne K v c2 = some b2) (h3 : PySem.W.exmOne K v c3 = some b3) : PySem.W.exmAny K v [c1, c2, c3] = some (b1 || (b2 || (b3 || false))) := by
  simp only [PySem.W.exmAny, h1, h2, h3]
end PL
set_option Elab.async false
set_option linter.all false
set_option maxRecDepth 100000
set_option maxHeartbeats 4000000
/-! A lambda without parameters, handed to a def that calls it within a try. -/
namespace PL
open PySem PySem.Spec PyProof.Rows L2
section
variable {X : Cx} {pins : List (Addr × Obj)} {σ : L2.St} {H HZ : Hp} {s s1 : Shared} {scope : Scope} {f c' : Addr}
/-- it is called, its maker's frame as it stood -/
theorem lam_go {A' : Around} {up' : List PySem.Env} {E : XK} {k : Nat} {params : Arguments} {body : Expr} {pm ctv : Value} {tb : TE} {Q : VK} (I : Inv X pins σ H s) (L : LamX.LamS X.env.scope scope)
    (of1 : s1.heap.get? f = some (PySem.W.kla_obj "<lambda>" (X.env.qual ++ "<lambda>") params body scope (cloFrom X.env.cells scope.names []) pm c' ctv))
    (hbind : bindArgs (PySem.W.kla_fn "<lambda>" (X.env.qual ++ "<lambda>") params body scope (cloFrom X.env.cells scope.names []) pm (.ref c') ctv) ⟨[], []⟩ = pure [])
    (e0 : Env0 X.prog X.w X.K X.mg X.base A' up' s1 HZ) (un : Un (frs X.stack) [] H HZ s.heap s1.heap) (hc : HZ c' = some (LamX.CodeO c' (X.env.qual ++ "<lambda>"))) (hr : Room (k + 1) A')
    (hbody : Room k (A'.deeper (LamX.lamEnv X scope s1.heap.objs.size f c')) → PE (LamX.lamCx X A' up' s1 HZ E scope f c') body tb) (ht : tb σ HZ Q) :
    codeAny (model X.prog X.w) A' (.call (.ref f) ⟨[], []⟩) (CR (L2.CX X.prog X.w) up' X.prog X.w HZ s1 Q E) s1 := by
  have nol : s1.heap.NoLimit := e0.mod.nolimit.keeps fun b o e => (e0.bs b o e).1
  obtain ⟨⟨oc, ws, tt, g1, g2, g3⟩, _, _⟩ := e0.hok c' _ hc
  refine PySem.W.kla_callFunE hr.depth of1 rfl L.co L.gen rfl ⟨c', oc, ws, tt, rfl, g1, g2, g3⟩ ?_
  rw [hbind]
  refine wpAny_pure (wpAny_newFunctionEnv (fun y hy => (L.own y hy).2) (fun y hy => nomatch hy) (fun h₁ hns hsb => ?_) L.kind)
  refine ⟨nol.fresh _ hsb, ?_⟩
  have grows : ∀ b o, s1.heap.get? b = some o → h₁.get? b = some o := fun b o w => hsb.extBut b o (Nat.ne_of_lt (Heap.lt_size w)) (Heap.get?_push_of_some _ w)
  have J0 := LamX.lam_start2 (A := A') (outer := up') (E := E) (f := f) (c' := c') (tk := s1.toks + ([] : List (Str × Value)).length) I L e0 hr.hd un hns grows
  have go := (hbody (hr.deeper _)).run [] _ _ HZ Q J0 ht
  exact PySem.W.kla_codeExpr (wpAny_mono go (fun v s' ⟨w', H', J', rv, q⟩ => ⟨w', H', J'.os, J'.bare, J'.base, J'.hok, rv, q⟩) fun _ _ q => q)
theorem takes_lam {A' : Around} {up' : List PySem.Env} {E : XK} : L2.Takes (LamX.lamCx X A' up' s1 HZ E scope f c') (fun cls d _ H => E cls d H) := takes_of rfl rfl rfl rfl
end
/-- what is known of the function at f, from the state s, H on: r tells what a call of it gives; B is hidden -/
structure ActK (Pg : Program) (w : World) (K : PySem.W.Frag) (ca : Str → Option Addr) (mg : Str → Option Value) (base : Heap) (T : Tb) (j : Nat) (f : Addr) (s : Shared) (H : Hp) (up : List PySem.Env) (B : List Addr) (r : R D) : Prop where
  fn : ∀ (s1 : Shared) (HZ : Hp), Un (frs up) [] H HZ s.heap s1.heap → PySem.W.FnAt f s1.heap
  go : ∀ (env2 : PySem.Env) (A' : Around) (s1 : Shared) (HZ : Hp) (Q : VK) (E : XK), Room j A' → A'.guards = some [] → Env0 Pg w K mg base A' (env2 :: up) s1 HZ → Un (frs up) [] H HZ s.heap s1.heap → GrT T H HZ → LamX.Tabs T HZ →
    Sat r (fun d => ∀ v H', GrT T HZ H' → LamX.Tabs T H' → Rp K ca (Frz H' B) v d → Q v H') (fun c ns ws => ∀ cls d H', GrT T HZ H' → LamX.Tabs T H' → Xp K ca (Frz H' B) cls d c ns ws → E cls d H') →
    codeAny (model Pg w) A' (.call (.ref f) ⟨[], []⟩) (CR (L2.CX Pg w) (env2 :: up) Pg w HZ s1 Q E) s1
section
variable {X : Cx} {z : Z} {O OO OL : List Nat} {EX : EXT} {fs gs : FS}
/-- a statement, the hidden addresses told -/
def EvSB (z : Z) (Bc : List Addr → Prop) (OI OO OL : List Nat) (EX : EXT) (t : TS) (f : FS) : Prop :=
  ∀ B P σ H ρ S D', Bc B → P.map (·.1) = OI → Rel z B P σ H ρ S → Sat (f ρ S) (PostS z B (Frz H (z.L B P)) OO OL D') EX → t D' σ H
structure PSdB (X : Cx) (z : Z) (Bc : List Addr → Prop) (OI OO OL : List Nat) (EX : EXT) (s : Stmt) (f : FS) : Prop where
  ex : ∃ t, PS X s t ∧ EvSB z Bc OI OO OL EX t f
structure PSSB (X : Cx) (z : Z) (Bc : List Addr → Prop) (OI OO OL : List Nat) (EX : EXT) (s : List Stmt) (f : FS) : Prop where
  ex : ∃ t, PSs X s t ∧ EvSB z Bc OI OO OL EX t f
theorem pssb_cons {OI OM : List Nat} {Bc : List Addr → Prop} {st : Stmt} {sts : List Stmt} (h1 : PSdB X z Bc OI OM OL EX st fs) (h2 : PSS X z OM OO OL EX sts gs) : PSSB X z Bc OI OO OL EX (st :: sts) (seqS fs gs) := by
  obtain ⟨t, p, q⟩ := h1.ex
  obtain ⟨u, p2, q2⟩ := h2.ex
  refine ⟨_, pss_cons p p2, fun B P σ H ρ S D' hB hP rr hs => ?_⟩
  refine q B P σ H ρ S _ hB hP rr ((sat_bind.mp hs).imp fun r hr => ?_)
  obtain ⟨c, ρ1, S1⟩ := r
  cases c with
  | nx =>
    intro P' σ' H' h1 h2 h3
    exact q2 B P' σ' H' ρ1 S1 D' h1 h3 (Sat.imp hr fun _ w => w.mono h2)
  | bk => exact hr
  | ct => exact hr
  | rt d => exact hr
end
end PL
set_option Elab.async false
set_option linter.all false
set_option maxRecDepth 100000
set_option maxHeartbeats 4000000
namespace PL
open PySem PySem.Spec PyProof.Rows L2
/-- try: x = a() / except .. as e: ..; r is what a() gives -/
def tryT (i j : Nat) (ct : Str → Option Bool) (r : R D) (fs : FS) : FS := fun ρ S => match r with
  | .ok d => setE ρ j d >>= fun ρ1 => R.ok (.nx, ρ1, S)
  | .exc c ns ws => if ct c = some true then setE ρ i (.exn c ns ws) >>= fun ρ1 => noX (fs ρ1 S) >>= fun r => R.ok (r.1, r.2.1.set i none, r.2.2) else R.bad
  | .bad => R.bad
section
variable {X : Cx} {ca : Str → Option Addr} {T : Tb} {OL : List Nat} {EX : EXT} {s0 : L2.St} {f : Addr} {B0 : List Addr}
/-- what is wished of an exception out of a() -/
def WAct (z : Z) (B : List Addr) (σ : L2.St) (H : Hp) (ρ : Env) (S : List D) (r : R D) : WX := fun cls d σ' H' => σ' = σ ∧ Ex (Frz H (z.L B [])) (Frz H' (z.L B [])) ∧ Rel z B [] σ H' ρ S ∧ ∃ c ns ws, r = .exc c ns ws ∧ Xp z.K z.ca (Frz H' (z.L B [])) cls d c ns ws
/-- a(), a the def's parameter -/
theorem pe_actx {j : Nat} {r : R D} {W : WX} {a : Str} {p1 p2 : Pos} {σ : L2.St} {H : Hp} {pn : List (Addr × Obj)} {xe : Value → Shared → Prop} (A : ActK X.prog X.w X.K ca X.mg X.base T j f X.s_0 X.H_0 X.outer B0 r) (hs : X.stack = X.env :: X.outer) (hex : X.ex = []) (hr : Rm j X.A) (tk : L2.Takes (X.tr pn xe) W)
    (h0 : σ[0]? = some (some (.ref f))) (g : GrT T X.H_0 H) (tt : LamX.Tabs T H) (hN : X.N[0]? = some a) (hv : Vis X.env.scope a) (hd : (a == ("__debug__" : Str)) = false) (hcd : (a == ("__classdict__" : Str)) = false) :
    PE (X.tr pn xe) (.Call (.Name a p1) [] [] p2) (fun σ' H' Q => σ' = σ ∧ H' = H ∧ Sat r (fun d => ∀ v H2, GrT T H H2 → LamX.Tabs T H2 → Rp X.K ca (Frz H2 B0) v d → Q v H2) (fun c ns ws => ∀ cls d H2, GrT T H H2 → LamX.Tabs T H2 → Xp X.K ca (Frz H2 B0) cls d c ns ws → W cls d σ H2)) := by
  refine ⟨fun pins s σ' H' Q I h => ?_⟩
  obtain ⟨rfl, rfl, h⟩ := h
  have named := (pe_var (X := X.tr pn xe) (pos := p1) (i := 0) hN hv hd hcd).run pins s σ' H' (fun v H1 => v = .ref f ∧ H1 = H') I ⟨.ref f, h0, rfl, rfl⟩
  refine wpAny_Call_Name_kw (thn named fun u s1 hu => ?_)
  obtain ⟨v, H1, I1, r1, rfl, rfl⟩ := hu
  obtain rfl : u = Value.ref f := r1
  have un : Un (frs X.outer) [] X.H_0 H1 X.s_0.heap s1.heap := hex ▸ I1.base
  have e0 : Env0 X.prog X.w X.K X.mg X.base X.A (X.env :: X.outer) s1 H1 := hs ▸ I1.env0
  refine PySem.W.callWith_F0 (A.fn s1 H1 un) (wpAny_call (codeAny_mono (A.go X.env X.A s1 H1 Q (fun cls d H2 => W cls d σ' H2) hr.r hr.g e0 un g tt h) fun res s2 hq => ?_))
  rw [← hs] at hq
  match res, hq with
  | .ok (.ret u), hq => exact I1.after hq
  | .ok .next, hq => exact hq.elim
  | .ok .brk, hq => exact hq.elim
  | .ok .cont, hq => exact hq.elim
  | .error er, hq => exact tk _ _ (XE.of_call I1 (fun _ _ _ z => z) hq)
theorem psdb_tryAct {jj : Nat} {r : R D} {te : Expr} {n x a : Str} {suite : List Stmt} {b0 : Stmt} {p1 p2 p3 p4 pos pos' : Pos} {fv : Value → Option Bool} {ct : Str → Option Bool} {fs : FS} (i j : Nat) (A : ActK X.prog X.w X.K ca X.mg X.base T jj f X.s_0 X.H_0 X.outer B0 r) (hr : Rm jj X.A) (hs : X.stack = X.env :: X.outer) (hex : X.ex = []) (hf : X.env.frame = some X.env.locals)
    (hN : X.N.Nodup) (hi : X.N[i]? = some n) (hln : X.env.kindOf n = some .local) (hj : X.N[j]? = some x) (hlx : X.env.scope.names.lookup x = some .local) (h0 : X.N[0]? = some a) (hva : Vis X.env.scope a) (hd : (a == ("__debug__" : Str)) = false) (hcd : (a == ("__classdict__" : Str)) = false)
    (hs0 : s0[0]? = some (some (.ref f))) (hct : CTest X te fv) (hfc : ∀ c C, ca c = some C → ct c = some true → fv (.ref C) = some true) (hi0 : i ∉ [0]) (hj0 : j ∉ [0]) (hOL : OL = [])
    (hsu : ∀ (a : Addr) (pn : List (Addr × Obj)), PSS (X.suite a pn) ⟨X.K, ca, X.H_0, none, .lst, T, [], s0, [0]⟩ [] [] OL EX0 (b0 :: suite) fs)
    (hsw : swapsWith (.Call (.Name a p1) [] [] p2) (some (.Name x p3)) p4.line X.env = pure false := by rfl) :
    PSdB X ⟨X.K, ca, X.H_0, none, .lst, T, [], s0, [0]⟩ (fun B => ∀ H', Frz H' ((⟨X.K, ca, X.H_0, none, .lst, T, [], s0, [0]⟩ : Z).L B []) = Frz H' B0) [] [] OL EX
      (.Try [.Assign [.Name x p3] (.Call (.Name a p1) [] [] p2) p4] [.ExceptHandler (some te) (some n) (b0 :: suite) pos'] [] [] pos) (tryT i j ct r fs) := by
  subst hOL
  generalize hz : (⟨X.K, ca, X.H_0, none, .lst, T, [], s0, [0]⟩ : Z) = z at *
  have zi : NotPl z i := by rw [← hz]; exact ⟨fun _ _ e => (nomatch e), hi0⟩
  have zj : NotPl z j := by rw [← hz]; exact ⟨fun _ _ e => (nomatch e), hj0⟩
  have zT : z.tb = T := by rw [← hz]
  have zK : z.K = X.K := by rw [← hz]
  have zc : z.ca = ca := by rw [← hz]
  refine ⟨fun D' σ H => ∃ B ρ S, (∀ H', Frz H' (z.L B []) = Frz H' B0) ∧ Rel z B [] σ H ρ S ∧ Sat (tryT i j ct r fs ρ S) (PostS z B (Frz H (z.L B [])) [] [] D') EX, ⟨fun pins s σ H D' I hyp => ?_⟩, fun B P σ H ρ S D' hB hP rr hq => ?_⟩
  · obtain ⟨B, ρ, S, hB, rr, hq⟩ := hyp
    have ok := I.ok
    have hfr : X.A.frames = some (X.env :: X.outer) := by rw [ok.frames, hs]
    have g : GrT T X.H_0 H := fun a o n e => by
      have ex := rr.ex
      rw [← hz] at ex
      exact ex a o e (by simpa [Z.pls] using n)
    have tt : LamX.Tabs T H := zT ▸ rr.tabs
    have σ0 : σ[0]? = some (some (.ref f)) := by
      have q := rr.xt.2
      rw [← hz] at q
      exact (q 0 List.mem_cons_self).trans hs0
    have grow : ∀ {H2 : Hp}, GrT T H H2 → LamX.Tabs T H2 → Rel z B [] σ H2 ρ S ∧ Ex (Frz H (z.L B [])) (Frz H2 (z.L B [])) := fun {H2} g2 t2 => by
      have g3 : GrT z.tb H H2 := by rw [zT]; exact g2
      have t3 : LamX.Tabs z.tb H2 := by rw [zT]; exact t2
      exact ⟨rr.growT g3 t3, g3.grow.frz⟩
    refine wpAny_Try_except ?_
    have tkb : L2.Takes (X.tr (X.pn ++ pins) (Looking X pins D' [.ExceptHandler (some te) (some n) (b0 :: suite) pos'])) (WAct z B σ H ρ S r) := by
      intro u s' xx
      obtain ⟨ad, Bh, sI, pins', σ', H', cls, d, rfl, J', nb, up, sky, na, os, ag, w⟩ := xx
      obtain ⟨rfl, ec, rc, c, ns, ws, hrr, hx⟩ := w
      have J : Inv X pins σ' H' sI := J'.ofTry ok
      have sky' : Sky Bh (X.env :: X.outer) ad (Zc cls d) X.env.locals s'.heap := by
        rw [← hs]
        exact sky
      refine Sky.land Zc.steady hfr hf sky' fun h3 fl3 up3 => ?_
      have J3 : Inv X pins σ' H' { s' with heap := h3 } := J.landed nb fl3.1 (up.trans up3) os ag
      obtain ⟨oe3, vs3, he3, hz3, hd3⟩ := fl3.there
      unfold tryT at hq
      rw [hrr] at hq
      dsimp only at hq
      split at hq
      · rename_i hcc
        have nfr : ad ∉ frs (X.env :: X.outer) := fun hm => by
          obtain ⟨_, o', e', hnf⟩ := fl3.2.2.1.mem hm
          rw [he3] at e'
          cases e'
          exact hnf _ hd3
        have nI : sI.heap.get? ad = none := by
          cases q : sI.heap.get? ad with
          | none => rfl
          | some o =>
            have w1 := nb ad o q (by rw [hs]; exact nfr)
            rw [fl3.2.1] at w1
            cases w1
        have hC : ∃ C, cls = .ref C ∧ ca c = some C := by
          rw [zc] at hx
          cases hx with
          | d0 h => exact ⟨_, rfl, h⟩
          | dD h _ _ => exact ⟨_, rfl, h⟩
        obtain ⟨C, rfl, hca⟩ := hC
        have LT : PySem.W.Looks (model X.prog X.w) h3 (typeOf (.ref ad)) (.ref C) := fun A Q E s k q => wpAny_typeOf_ref (k _ _ he3) (by rw [hz3.1]; exact q)
        refine wpAny_handleBy_cons (codeAny_handlers_test ?_) (by intro q; cases q)
        refine hct ad (X.pn ++ pins) σ' H' { s' with heap := h3 } (.ref C) true _ _ (Inv.hot J3 ad) (hfc c C hca hcc) LT fun cv h5 k5 LM => ?_
        refine LM.here ?_
        refine codeAny_handlers_suite_as ?_
        refine HandSPX.lands_againZ (flying_on fl3 k5) fun h4 fl4 up4 => ?_
        obtain ⟨oe4, vs4, he4, hz4, hd4⟩ := fl4.there
        have J4 : Inv X pins σ' (upd H' ad (exT ad C d)) { s' with heap := h4 } := landX (s' := { s' with heap := h4 }) J nb fl4.1 (((up.trans up3).trans (Heap.UpToSlots.of_keeps k5)).trans up4) os ag na nI he4 hz4.1 hz4.2 hd4
        refine store_ok (X := X.suite ad (X.pn ++ pins)) (v := .ref ad) (Inv.hot J4 ad) hN hi (.inl hln) rfl (fun s5 S5 => ?_) (.inr hln)
        obtain ⟨wl, hsat⟩ := sat_set (sat_bind.mp hq)
        have nL : ad ∉ z.L B [] := rc.fresh na
        have eg : Ex H' (upd H' ad (exT ad C d)) := Ex.new na
        have eF : Ex (Frz H' (z.L B [])) (Frz (upd H' ad (exT ad C d)) (z.L B [])) := (Grow.of (z := z) eg).frz
        have ra := (rc.grow eg).set (i := i) (v := .ref ad) (d := .exn c ns ws) (by
          cases hx with
          | d0 h => exact .exn0 (frz_of upd_same nL) h
          | dD h g q => exact .exnD (frz_of upd_same nL) (eF _ _ g) h (q.mono eF)) (fun p hp => nomatch hp) zi wl
        obtain ⟨t, pt, qt⟩ := (hsu ad (X.pn ++ pins)).ex
        have end_ : ∀ {σ6 : L2.St} {H6 : Hp} {s6 : Shared} {Q : Shared → Prop}, Inv (X.suite ad (X.pn ++ pins)) [] σ6 H6 s6 → (∀ s7, Inv X pins (σ6.set i none) H6 s7 → Q s7) →
            wpAny (model X.prog X.w) X.A (do bindName X.env n .none; unbindBehindTheSuite X.env n pos') (fun _ s7 => Q s7) X.xe s6 := fun {σ6 H6 s6 Q} S6 hq => gone_ok (Inv.cool S6 ok) hN hi hln hq
        refine wpAny_mono (pt.run [] s5 _ _ { nx := fun σ6 H6 => D'.nx (σ6.set i none) H6, rt := D'.rt, bk := fun σ6 H6 => D'.bk (σ6.set i none) H6, ct := fun σ6 H6 => D'.ct (σ6.set i none) H6 } S5 (qt B [] _ _ _ S _ rfl ra ((sat_noX (sat_bind.mp hsat)).imp fun r6 hr6 => ?_))) (fun fl s6 hsp => ?_) (fun _ _ q => False.elim q)
        · obtain ⟨c6, ρ6, S6⟩ := r6
          have mono : ∀ {F : Hp}, Ex (Frz (upd H' ad (exT ad C d)) (z.L B [])) F → Ex (Frz H (z.L B [])) F := fun {F} h => (ec.trans eF).trans h
          cases c6 with
          | nx =>
            intro P' σ6 H6 h1 h2 h3
            exact hr6 P' _ H6 h1 (mono h2) (h3.unset (own_ne h1 rfl) zi)
          | bk =>
            intro P' σ6 H6 h1 h2 h3
            exact hr6 P' _ H6 h1 (mono h2) (h3.unset (own_ne h1 rfl) zi)
          | ct =>
            intro P' σ6 H6 h1 h2 h3
            exact hr6 P' _ H6 h1 (mono h2) (h3.unset (own_ne h1 rfl) zi)
          | rt d =>
            intro v H6 hfin
            exact hr6 v H6 hfin
        · cases fl with
          | next =>
            obtain ⟨σ6, H6, S6, q6⟩ := hsp
            exact end_ S6 fun s7 J7 => ⟨_, _, J7, q6⟩
          | brk =>
            obtain ⟨σ6, H6, S6, q6⟩ := hsp
            exact end_ S6 fun s7 J7 => ⟨_, _, J7, q6⟩
          | cont =>
            obtain ⟨σ6, H6, S6, q6⟩ := hsp
            exact end_ S6 fun s7 J7 => ⟨_, _, J7, q6⟩
          | ret u =>
            obtain ⟨v6, σ6, H6, S6, r6, q6⟩ := hsp
            exact end_ S6 fun s7 J7 => ⟨_, _, _, J7, r6, q6⟩
      · exact hq.elim
    have act := pe_actx (σ := σ) (H := H) (p1 := p1) (p2 := p2) A hs hex hr tkb σ0 g tt h0 hva hd hcd
    have body := pss_one (ps_set (X := X.tr (X.pn ++ pins) (Looking X pins D' [.ExceptHandler (some te) (some n) (b0 :: suite) pos'])) (pos := p4) (pos' := p3) hN hj (.inl hlx) act hsw (.inr hlx))
    refine wpAny_mono (body.run [] s σ H { nx := D'.nx, rt := fun _ _ => False, bk := fun _ _ => False, ct := fun _ _ => False } (I.toTry _) ⟨rfl, rfl, ?_⟩) (fun fl s1 hsp => ?_) (fun er s1 q => q)
    · unfold tryT at hq
      cases r with
      | bad => exact hq.elim
      | exc c ns ws =>
        intro cls d H2 g2 t2 hx
        obtain ⟨r2, e2⟩ := grow g2 t2
        exact ⟨rfl, e2, r2, c, ns, ws, rfl, by rw [hB, zK, zc]; exact hx⟩
      | ok d =>
        intro v H2 g2 t2 hv
        obtain ⟨r2, e2⟩ := grow g2 t2
        obtain ⟨wl, hsat⟩ := sat_set (sat_bind.mp hq)
        exact hsat [] _ H2 rfl e2 (r2.set (by rw [hB, zK, zc]; exact hv) (fun p hp => nomatch hp) zj wl)
    · cases fl with
      | next =>
        obtain ⟨σ1, H1, J1, q⟩ := hsp
        exact wpAny_execs_nil ⟨σ1, H1, J1.ofTry ok, q⟩
      | brk =>
        obtain ⟨σ1, H1, J1, q⟩ := hsp
        exact q.elim
      | cont =>
        obtain ⟨σ1, H1, J1, q⟩ := hsp
        exact q.elim
      | ret u =>
        obtain ⟨v, σ1, H1, J1, rv, q⟩ := hsp
        exact q.elim
  · have eP : P = [] := List.map_eq_nil_iff.mp hP
    subst eP
    exact ⟨B, ρ, S, hB, rr, hq⟩
end
end PL
set_option Elab.async false
set_option linter.all false
set_option maxRecDepth 100000
set_option maxHeartbeats 4000000
/-! Defs that get such a lambda: what they promise; calls of them. -/
namespace PL
open PySem PySem.Spec PyProof.Rows L2
structure FnT (Pg : Program) (w : World) (K : PySem.W.Frag) (mg : Str → Option Value) (base : Heap) (k : Nat) (fA : Addr) (fd : FuncData) (p : Str) (ca : Str → Option Addr) (T : Tb) (F : R D → R D) : Prop where
  go : ∀ (m : Nat) (A : Around) (up : List PySem.Env) (s : Shared) (H : Hp) (f : Addr) (B : List Addr) (r : R D) (Q : VK), k ≤ m → Room (m + 1) A → A.guards = some [] → Env0 Pg w K mg base A up s H → BindsTo s fd ⟨[.ref f], []⟩ [(p, .ref f)] →
    B.Nodup → (∀ b ∈ B, H b ≠ none) → TIn T B H → ActK Pg w K ca mg base T m f s H up B r → Sat (F r) (fun d => ∀ v H', GrT T H H' → LamX.Tabs T H' → Rp K ca (Frz H' B) v d → Q v H') EX0 →
    codeAny (model Pg w) A (.call (.ref fA) ⟨[.ref f], []⟩) (CR CX0 up Pg w H s Q E0) s
def runT (n : Nat) (fs : R D → FS) : R D → R D := fun r => fs r (List.replicate n none) [] >>= endD
section
variable {Pg : Program} {w : World} {K : PySem.W.Frag} {mg : Str → Option Value} {base : Heap} {j k : Nat} {fA : Addr} {fd : FuncData} {ca : Str → Option Addr} {T : Tb}
theorem rel_act {N : List Str} {f : Addr} {H : Hp} {B : List Addr} (hB : B.Nodup) (hb : ∀ b ∈ B, H b ≠ none) (ti : TIn T B H) (hl : (L2.start N [V.ref f]).length = N.length) :
    Rel ⟨K, ca, H, none, .lst, T, [], L2.start N [V.ref f], [0]⟩ (beside T B) [] (L2.start N [V.ref f]) H (List.replicate N.length none) [] where
  val := fun i d _ h => by
    rw [List.getElem?_replicate] at h
    split at h <;> cases h
  own := fun p hp => nomatch hp
  pool := fun i a h => nomatch h
  nd := beside_nd hB ti.nd
  there := fun b hb' => hb b (beside_mem.mp hb').1
  ex := fun a o h _ => h
  new := fun p hp => nomatch hp
  len := by rw [hl, List.length_replicate]
  tabs := ti.tabs
  xt := ⟨fun a ha => (nomatch ha), fun _ _ => rfl⟩
/-- from the body -/
theorem fn_t {x qual p : Str} {st : Stmt} {N : List Str} {fs : R D → FS} {OO : List Nat} (F : Fun K x qual st fA fd) (Sc : FnScope N [p] (defScope st)) (h0 : ∀ f : Addr, (L2.start N [V.ref f])[0]? = some (some (V.ref f))) (hl : ∀ f : Addr, (L2.start N [V.ref f]).length = N.length)
    (body : ∀ (m : Nat) (cdv : Value) (A : Around) (outer : List PySem.Env) (s : Shared) (H : Hp) (f : Addr) (B0 : List Addr) (r : R D) (s0 : L2.St), Rm m (A.deeper (envOfC qual (defScope st) s.heap.objs.size fA cdv)) → Rm k (A.deeper (envOfC qual (defScope st) s.heap.objs.size fA cdv)) →
      s0[0]? = some (some (V.ref f)) → ActK Pg w K ca mg base T m f s H outer B0 r →
      PSSB (cxOf CX0 Pg w K mg base N qual (defScope st) fA cdv A outer s H E0).nox ⟨K, ca, H, none, .lst, T, [], s0, [0]⟩ (fun B => ∀ H', Frz H' ((⟨K, ca, H, none, .lst, T, [], s0, [0]⟩ : Z).L B []) = Frz H' B0) [] OO [] EX0 (defBody st) (fs r)) :
    FnT Pg w K mg base k fA fd p ca T (runT N.length fs) := by
  obtain ⟨oc, od, kV, doc, pm, an, cdv, ct, osl, rfl, lk, hcd⟩ := F.ex
  refine ⟨fun m A up s H f B r Q hkm hr hgu e0 hb hB hbn ti act hsat => ?_⟩
  have kin : K.In s.heap := e0.mod.kin.keeps fun b o e => (e0.bs b o e).1
  have nolim : s.heap.NoLimit := e0.mod.nolimit.keeps fun b o e => (e0.bs b o e).1
  refine codeAny_call_function hr.depth (kin _ _ lk) rfl Sc.co Sc.gen rfl (PySem.W.codeRec_of kin hcd) (hb _ _ _ _ (wpAny_newFunctionEnv_cells Sc.kind (fun y hy => ?_) fun env he s1 xc => ?_))
  · rw [List.mem_singleton.mp hy]
    exact (Sc.par p List.mem_cons_self).imp id fun q => ⟨q, PySem.W.cellsFrom_some _ _ _ (.inl q)⟩
  · subst he
    have hd : Rm m (A.deeper (envOfC qual (defScope st) s.heap.objs.size fA cdv)) := ⟨hr.deeper _, hgu⟩
    obtain ⟨t, pt, q⟩ := (body m cdv A up s H f B r (L2.start N [V.ref f]) hd (hd.mono hkm) (h0 f) act).ex
    have J : Inv (cxOf CX0 Pg w K mg base N qual (defScope st) fA cdv A up s H E0) [] (L2.start N [V.ref f]) H s1 := inv_start (vs := [V.ref f]) (us := [Value.ref f]) Sc hr.hd e0 rfl (.cons rfl .nil) xc
    have ef : ∀ H', Frz H' ((⟨K, ca, H, none, .lst, T, [], L2.start N [V.ref f], [0]⟩ : Z).L (beside T B) []) = Frz H' B := fun H' => frz_congr fun a => beside_iff ti.sub a
    have hq : t { nx := fun _ H' => Q .non H', rt := Q } (L2.start N [V.ref f]) H := by
      refine q (beside T B) [] _ H (List.replicate N.length none) [] _ ef rfl (rel_act hB hbn ti (hl f)) ((sat_bind.mp hsat).imp fun rr hr' => ?_)
      obtain ⟨c, ρ1, S1⟩ := rr
      cases c with
      | nx =>
        intro P' σ' H' h1 h2 h3
        have hr' : ∀ v H', GrT T H H' → LamX.Tabs T H' → Rp K ca (Frz H' B) v .non → Q v H' := hr'
        exact hr' .non H' (fun a o n e => h3.ex a o e n) h3.tabs .non
      | rt d =>
        intro v H' hf
        have hr' : ∀ v H', GrT T H H' → LamX.Tabs T H' → Rp K ca (Frz H' B) v d → Q v H' := hr'
        exact hr' v H' (fun a o n e => hf.ex a o e n) hf.tabs (ef H' ▸ hf.val)
      | bk => exact hr'.elim
      | ct => exact hr'.elim
    refine ⟨nolim.keeps xc.toInCall.keep, codeAny_func (wpAny_mono (pt.nox.run [] s1 _ H _ J hq) (fun fl s' hs => ?_) fun e s' hs => hs)⟩
    cases fl with
    | ret u => obtain ⟨v, σ', H', J2, r2, q2⟩ := hs; exact ⟨v, H', J2.os, J2.bare, J2.base, J2.hok, r2, q2⟩
    | next => obtain ⟨σ', H', J2, q2⟩ := hs; exact ⟨V.non, H', J2.os, J2.bare, J2.base, J2.hok, rfl, q2⟩
    | brk => obtain ⟨_, _, _, q2⟩ := hs; exact q2.elim
    | cont => obtain ⟨_, _, _, q2⟩ := hs; exact q2.elim
end
/-- what such a def makes of the lambda's answer -/
def lamE (KO : List Nat) (F : R D → R D) (fE : FE) : FE := fun ρ S => noX (F (fE (wipeE ρ KO) [] >>= fun x => R.ok x.1)) >>= fun d => R.ok (d, S)
section
variable {X : Cx} {z : Z} {O : List Nat} {EX : EXT} {k m : Nat} {fA c P : Addr} {fd : FuncData} {x a : Str} {params : Arguments} {body : Expr} {scope : Scope} {F : R D → R D} {fE : FE} {p lpos pos : Pos}
theorem pd_lamcall (KO : List Nat) (hK : X.K = z.K) (G : FnT X.prog X.w X.K X.mg X.base k fA fd a z.ca z.tb F) (hkm : k ≤ m + 1) (hr : Rm (m + 2) X.A) (hm : X.mg x = some (.ref fA)) (hk : PySem.W.keepIn X.K (.ref fA) = true) (hb : Binds X.K fd [a] [])
    (TB : LamX.TabB X.base X.mg c P) (hcode : X.env.code = .ref c) (hmT : (P, X.env.qual ++ "<lambda>") ∈ z.tb) (hu : ∀ q ∈ z.tb, q.1 = P → q.2 = X.env.qual ++ "<lambda>") (L : LamX.LamS X.env.scope scope) (hdef : defaultsOf params X.env = ([], []))
    (hbind : ∀ (q : Str) (cl : List (Str × Addr)) (pm cv ctv : Value), bindArgs (PySem.W.kla_fn "<lambda>" q params body scope cl pm cv ctv) ⟨[], []⟩ = pure []) (hO : ∀ j ∈ O, j ∈ KO)
    (hbody : ∀ (A : Around) (up : List PySem.Env) (s : Shared) (H : Hp) (E : XK) (f c' : Addr) (bs : List Addr) (s0 : L2.St) (EXb : EXT), Rm m (A.deeper (LamX.lamEnv X scope s.heap.objs.size f c')) → L2.Takes (LamX.lamCx X A up s H E scope f c') (WD ⟨z.K, z.ca, H, none, .lst, z.tb, bs, s0, []⟩ EXb) →
      PD (LamX.lamCx X A up s H E scope f c') ⟨z.K, z.ca, H, none, .lst, z.tb, bs, s0, []⟩ [] EXb body fE)
    (hg : Gl X x := by rfl) (hdb : (x == ("__debug__" : Str)) = false := by decide) : PD X z O EX (.Call (.Name x p) [.Lambda params body scope lpos] [] pos) (lamE KO F fE) := by
  refine ⟨fun σ H Q => ∃ B Pp ρ S, Pp.map (·.1) = O ∧ Rel z B Pp σ H ρ S ∧ Sat (lamE KO F fE ρ S) (fun r => ∀ v H', Grow z H H' → Rel z B Pp σ H' ρ r.2 → Rp z.K z.ca (Frz H' (z.L B Pp)) v r.1 → Q v H') EX, ⟨fun pins s σ H Q I h => ?_⟩, fun B Pp σ H ρ S Q hP rr hs => ⟨B, Pp, ρ, S, hP, rr, hs⟩⟩
  obtain ⟨B, Pp, ρ, S, hP, rr, hs⟩ := h
  have hPK : ∀ q ∈ Pp, q.1 ∈ KO := fun q hq => hO _ (by rw [← hP]; exact List.mem_map_of_mem hq)
  refine wpAny_Call_Name_kw (ld_glob I hg hm (PySem.W.callWith_K (h₀ := X.base) I.ok.mod.kin hk ?_ (by rfl) (by rfl)) hdb)
  show wpAny _ _ (spliced ((false, eval (.Lambda params body scope lpos) X.env) :: backTo pos (starEach [] X.env))) _ _ s
  refine Calls.spliced_cons (lam_made I TB hcode hmT hu rr.tabs hdef (L.has I.ok) fun f c2 pm ctv H1 s1 I1 stay T1 hf hfn hfr hco => ?_)
  refine Calls.spliced_nil ⟨I1.kIn, ?_⟩
  have inT : P ∈ tbs z.tb := List.mem_map.mpr ⟨_, hmT, rfl⟩
  have g1 : GrT z.tb H H1 := fun b o n e => stay b o (fun q => n (q ▸ inT)) e
  have r1 := rr.growT g1 T1
  have nc : c2 ∉ tbs z.tb := fun q => by
    obtain ⟨tp, hp, e⟩ := List.mem_map.mp q
    obtain ⟨tab, w1, _⟩ := T1 tp hp
    rw [e, hco] at w1
    exact LamX.codeO_ne _ (Option.some.inj w1)
  have act : ActK X.prog X.w X.K z.ca X.mg X.base z.tb (m + 1) f s1 H1 X.stack (z.L B Pp) (fE (wipeE ρ KO) [] >>= fun x => R.ok x.1) := by
    have at2 : ∀ (s2 : Shared) (HZ : Hp), Un (frs X.stack) [] H1 HZ s1.heap s2.heap → s2.heap.get? f = some (PySem.W.kla_obj "<lambda>" (X.env.qual ++ "<lambda>") params body scope (cloFrom X.env.cells scope.names []) pm c2 ctv) := fun s2 HZ un => un.keep f _ hf hfn hfr (fun q => nomatch q)
    refine ⟨fun s2 HZ un => ⟨_, _, _, _, at2 s2 HZ un⟩, fun env2 A' s2 HZ Q' E' hr' hg' e0' un g tt hsat => ?_⟩
    have r2 := r1.growT g tt
    let EXb : EXT := fun cn ns ws => ∀ cls d H', GrT z.tb HZ H' → LamX.Tabs z.tb H' → Xp X.K z.ca (Frz H' (z.L B Pp)) cls d cn ns ws → E' cls d H'
    have ri := inner_start (kl := []) r2 hPK
    have efz := fun H' => inner_ef r2 (H0 := HZ) (bs := beside z.tb (z.L B Pp)) (s0 := σ) (kl := []) H'
    have ecf := fun H' : Hp => show Frz H' ((z.inner HZ (beside z.tb (z.L B Pp)) σ []).pls ++ (z.inner HZ (beside z.tb (z.L B Pp)) σ []).bs) = Frz H' (z.L B Pp) from frz_congr fun a => beside_iff r2.tin.sub a
    obtain ⟨t, pt, qt⟩ := (hbody A' (env2 :: X.stack) s2 HZ E' f c2 (beside z.tb (z.L B Pp)) σ EXb ⟨hr'.deeper _, hg'⟩ (takes_lam.imp fun cls d σ' H' h => by
      obtain ⟨cn, ns, ws, he, hx, ex, tt', _⟩ := h
      rw [ecf H'] at hx
      exact he cls d H' (grT_of (z := z) (kl := []) (bs := beside z.tb (z.L B Pp)) (s0 := σ) ex) tt' (hK ▸ hx))).ex
    refine lam_go (k := m) (E := E') I1 L (at2 s2 HZ un) (hbind _ _ _ _ _) e0' un (g c2 _ nc hco) hr' (fun _ => pt) (qt _ [] σ HZ _ [] Q' rfl ri ((sat_bind.mp hsat).imp fun x hx v H' g' r' hv' => ?_))
    rw [efz H'] at hv'
    exact hx v H' (grT_of r'.ex) r'.tabs (hK ▸ hv')
  have rc : codeAny (model X.prog X.w) X.A (.call (.ref fA) ⟨[.ref f], []⟩) (CR CX0 X.stack X.prog X.w H1 s1 Q E0) s1 := by
    refine G.go (m + 1) X.A X.stack s1 H1 f (z.L B Pp) _ Q hkm hr.r hr.g I1.env0 (hb s1 [.ref f] I1.kIn rfl) r1.nd (fun b hb => r1.lt hb) r1.tin act ((sat_noX (sat_bind.mp hs)).imp fun d hd v H' g' t' hv' => ?_)
    exact hd v H' (g1.trans g').grow (rr.growT (g1.trans g') t') (hK ▸ hv')
  refine wpAny_call (codeAny_mono rc fun res s2 hq => ?_)
  match res, hq with
  | .ok (.ret u), hq => exact I1.after hq
  | .ok .next, hq => exact hq.elim
  | .ok .brk, hq => exact hq.elim
  | .ok .cont, hq => exact hq.elim
  | .error er, hq => exact hq.elim
end
end PL
set_option Elab.async false
set_option linter.all false
set_option maxRecDepth 100000
set_option maxHeartbeats 4000000
/-! Methods that may raise; a class's methods by keyword, through an instance; t * 1; the text of whatever. -/
namespace PL
open PySem PySem.Spec PyProof.Rows L2 ClX
section
variable {X : Cx} {z : Z} {O : List Nat} {EX : EXT} {a b e o : Expr} {es : List Expr} {f g fx : FE} {fa fk : FA} {C fA : Addr} {fd : FuncData} {k : Nat} {ps ks : List Str} {x m : Str} {p pos apos : Pos} {sp : Sp} {E : XK} {tx ta : TE} {t tk : TA} {kws : List Keyword}
variable {B : List Addr} {P : List (Nat × Addr)} {σ : L2.St} {H : Hp} {ρ : Env} {S : List D} {pins : List (Addr × Obj)} {s : Shared}
/-! ### e[i], an instance, its __getitem__ may raise -/
def itmX (cn : Str) (F : List D → R D) (f g : FE) : FE := fun ρ S => f ρ S >>= fun x => g ρ x.2 >>= fun y => match x.1 with
  | .ins c _ _ => if c = cn then F [x.1, y.1] >>= fun d => R.ok (d, y.2) else R.bad
  | _ => R.bad
@[simp ↓] theorem wp_itmX {cn : Str} {F : List D → R D} {f g : FE} {ρ : Env} {S : List D} {Q : D × List D → Prop} {EX : EXT} : Sat (itmX cn F f g ρ S) Q EX ↔ Sat (f ρ S >>= fun x => g ρ x.2 >>= fun y => match x.1 with
  | .ins c _ _ => if c = cn then F [x.1, y.1] >>= fun d => R.ok (d, y.2) else R.bad
  | _ => R.bad) Q EX := Iff.rfl
end
end PL
set_option Elab.async false
set_option linter.all false
set_option maxRecDepth 100000
set_option maxHeartbeats 4000000
namespace PL
open PySem PySem.Spec PyProof.Rows L2 ClX
section
variable {X : Cx} {z : Z} {O : List Nat} {EX : EXT} {a b e o : Expr} {es : List Expr} {f g fx : FE} {fa fk : FA} {C fA : Addr} {fd : FuncData} {k : Nat} {ps ks : List Str} {x m : Str} {p pos apos : Pos} {sp : Sp} {E : XK} {tx ta : TE} {t tk : TA} {kws : List Keyword}
variable {B : List Addr} {P : List (Nat × Addr)} {σ : L2.St} {H : Hp} {ρ : Env} {S : List D} {pins : List (Addr × Obj)} {s : Shared}
/-! ### C.m(..), m a classmethod that may raise -/
def cmX (cn : Str) (F : List D → R D) (fa : FA) : FE := fun ρ S => fa ρ S >>= fun x => F (.cls cn :: x.1) >>= fun d => R.ok (d, x.2)
/-! ### .. by keyword -/
def cmKX (cn : Str) (F : List D → R D) (n : Nat) (ix : List Nat) (fk : FA) : FE := fun ρ S => fk ρ S >>= fun x => if x.1.length = n then F (pick ix (.cls cn :: x.1)) >>= fun d => R.ok (d, x.2) else R.bad
/-! ### o.m(..), o an instance -/
def imD (cn m : Str) (F : List D → R D) (f : FE) (fa : FA) : FE := fun ρ S => f ρ S >>= fun x => match x.1 with
  | .ins c ns _ => if c = cn ∧ ns.contains m = false then fa ρ x.2 >>= fun y => noX (F (.cls cn :: y.1)) >>= fun d => R.ok (d, y.2) else R.bad
  | _ => R.bad
end
end PL
set_option Elab.async false
set_option linter.all false
set_option maxRecDepth 100000
set_option maxHeartbeats 4000000
/-! t * 1; the text of an instance or of data; what is wanted of the new forms. -/
namespace PL
open PySem PySem.Spec PyProof.Rows L2 ClX
section
variable {X : Cx} {z : Z} {O : List Nat} {EX : EXT} {a b e : Expr} {f g : FE} {fa : FA} {C fA : Addr} {fd : FuncData} {k : Nat} {ps : List Str} {p pos : Pos}
/-! ### repr(e), an instance or data -/
def reprAC (cn : Str) (F : List D → R D) (f : FE) : FE := fun ρ S => f ρ S >>= fun x => match x.1 with
  | .ins c _ _ => if c = cn then noX (F [x.1]) >>= fun d => match d with
    | .str y => R.ok (.str y, x.2)
    | _ => R.bad else R.bad
  | d => R.of (reprX d) >>= fun y => R.ok (y, x.2)
/-! ### what is wanted -/
@[simp ↓] theorem wp_reprAC_ins {cn : Str} {F : List D → R D} {f : FE} {ρ : Env} {S : List D} {Q : D × List D → Prop} {EX : EXT} : Sat (reprAC cn F f ρ S) Q EX ↔ Sat (f ρ S >>= fun x => match x.1 with
  | .ins c _ _ => if c = cn then noX (F [x.1]) >>= fun d => match d with
    | .str y => R.ok (.str y, x.2)
    | _ => R.bad else R.bad
  | d => R.of (reprX d) >>= fun y => R.ok (y, x.2)) Q EX := Iff.rfl
@[simp ↓] theorem wp_cmX {cn : Str} {F : List D → R D} {fa : FA} {ρ : Env} {S : List D} {Q : D × List D → Prop} {EX : EXT} : Sat (cmX cn F fa ρ S) Q EX ↔ Sat (fa ρ S >>= fun x => F (.cls cn :: x.1) >>= fun d => R.ok (d, x.2)) Q EX := Iff.rfl
@[simp ↓] theorem wp_cmKX {cn : Str} {F : List D → R D} {n : Nat} {ix : List Nat} {fk : FA} {ρ : Env} {S : List D} {Q : D × List D → Prop} {EX : EXT} : Sat (cmKX cn F n ix fk ρ S) Q EX ↔ Sat (fk ρ S >>= fun x => if x.1.length = n then F (pick ix (.cls cn :: x.1)) >>= fun d => R.ok (d, x.2) else R.bad) Q EX := Iff.rfl
@[simp ↓] theorem wp_imD {cn m : Str} {F : List D → R D} {f : FE} {fa : FA} {ρ : Env} {S : List D} {Q : D × List D → Prop} {EX : EXT} : Sat (imD cn m F f fa ρ S) Q EX ↔ Sat (f ρ S >>= fun x => match x.1 with
  | .ins c ns _ => if c = cn ∧ ns.contains m = false then fa ρ x.2 >>= fun y => noX (F (.cls cn :: y.1)) >>= fun d => R.ok (d, y.2) else R.bad
  | _ => R.bad) Q EX := Iff.rfl
@[simp ↓] theorem wp_lamE {KO : List Nat} {F : R D → R D} {fE : FE} {ρ : Env} {S : List D} {Q : D × List D → Prop} {EX : EXT} : Sat (lamE KO F fE ρ S) Q EX ↔ Sat (noX (F (fE (wipeE ρ KO) [] >>= fun x => R.ok x.1)) >>= fun d => R.ok (d, S)) Q EX := Iff.rfl
end
end PL
set_option Elab.async false
set_option linter.all false
set_option maxRecDepth 100000
set_option maxHeartbeats 4000000
namespace PL
open PySem PySem.Spec PyProof.Rows L2
/-! the goal that k_head leaves, where two defs make lambdas -/
end PL
set_option Elab.async false
set_option linter.all false
set_option maxRecDepth 100000
set_option maxHeartbeats 4000000
/-! Raising, trying; the texts of any data. -/
namespace PL
open PySem PySem.Spec PyProof.Rows L2 ClX
@[simp ↓] theorem wp_exc {α : Type} {c : Str} {ns : List Str} {vs : List D} {Q : α → Prop} {EX : EXT} : Sat (R.exc c ns vs : R α) Q EX ↔ EX c ns vs := Iff.rfl
@[simp ↓] theorem wp_mkIX {c : Str} {nm : List Str} {F : List D → R (List D)} {n m : Nat} {ix : List Nat} {fa fk : FA} {ρ : Env} {S : List D} {Q : D × List D → Prop} {EX : EXT} : Sat (mkIX c nm F n m ix fa fk ρ S) Q EX ↔ Sat (fa ρ S >>= fun x => fk ρ x.2 >>= fun y => if x.1.length = n ∧ y.1.length = m then F (pick ix (x.1 ++ y.1)) >>= fun es => R.ok (.ins c nm es, y.2) else R.bad) Q EX := Iff.rfl
@[simp ↓] theorem wp_callX {F : List D → R D} {dds : List D} {fa : FA} {ρ : Env} {S : List D} {Q : D × List D → Prop} {EX : EXT} : Sat (callX F dds fa ρ S) Q EX ↔ Sat (fa ρ S >>= fun x => F (x.1 ++ dds) >>= fun d => R.ok (d, x.2)) Q EX := Iff.rfl
@[simp ↓] theorem wp_raiseS {c : Str} {nms : List Str} {fa : FA} {ρ : Env} {S : List D} {Q : Ctl × Env × List D → Prop} {EX : EXT} : Sat (raiseS c nms fa ρ S) Q EX ↔ Sat (fa ρ S >>= fun x => if x.1.length = nms.length ∧ x.1.length ≤ 1000 then R.exc c nms.reverse x.1.reverse else R.bad) Q EX := Iff.rfl
/-- what a call gives or raises -/
def RX {α : Type} (a : α) (e : Option (Str × List Str × List D)) : R α := match e with
  | none => R.ok a
  | some x => R.exc x.1 x.2.1 x.2.2
theorem eq_rx {α : Type} {r : R α} {a : α} {e : Option (Str × List Str × List D)} (h : Sat r (fun x => e = none ∧ x = a) fun c ns ws => e = some (c, ns, ws)) : r = RX a e := by
  cases r with
  | ok x =>
    obtain ⟨rfl, rfl⟩ := h
    rfl
  | exc c' ns' ws' =>
    have h : e = some (c', ns', ws') := h
    rw [h]
    rfl
  | bad => exact h.elim
/-! the text of any data -/
structure TxP (n k : Nat) (p : PyData) : Prop where
  nice : Nice n p.shown
  show_ : p.showable = true
  deep : p.depth ≤ k
structure TxPA (n k : Nat) (ps : List PyData) : Prop where
  nice : NiceL n (PyData.shownAll ps)
  show_ : PyData.showableAll ps = true
  deep : PyData.depthAll ps ≤ k
def TxR (n k : Nat) (d : D) : Prop := ∃ p, toPy d = some p ∧ TxP n k p
def TxA (n k : Nat) (ds : List D) : Prop := ∃ ps, toPyA ds = some ps ∧ TxPA n k ps
/-- .. an item, it may be {} -/
def TxQ (n k : Nat) (d : D) : Prop := ∃ p, toPyQ d = some p ∧ TxP n k p
def TxQA (n k : Nat) (ds : List D) : Prop := ∃ ps, toPyQA ds = some ps ∧ TxPA n k ps
theorem TxP.mono {n k n' k' : Nat} {p : PyData} (q : TxP n k p) (hn : n ≤ n') (hk : k ≤ k') : TxP n' k' p := ⟨q.nice.mono hn, q.show_, Nat.le_trans q.deep hk⟩
theorem TxR.mono {n k n' k' : Nat} {d : D} (h : TxR n k d) (hn : n ≤ n') (hk : k ≤ k') : TxR n' k' d := by
  obtain ⟨p, e, q⟩ := h
  exact ⟨p, e, q.mono hn hk⟩
theorem TxQ.mono {n k n' k' : Nat} {d : D} (h : TxQ n k d) (hn : n ≤ n') (hk : k ≤ k') : TxQ n' k' d := by
  obtain ⟨p, e, q⟩ := h
  exact ⟨p, e, q.mono hn hk⟩
theorem TxR.q {n k : Nat} {d : D} (h : TxR n k d) : TxQ n k d := by
  obtain ⟨p, e, q⟩ := h
  refine ⟨p, ?_, q⟩
  cases d with
  | dic ks vs => cases e
  | _ => exact e
theorem TxR.non {k : Nat} : TxR 4 k .non := ⟨_, rfl, (show Nice 4 ("None" : String) from nice_of (by decide)), rfl, Nat.zero_le _⟩
theorem TxR.bl {k : Nat} (b : Bool) : TxR 5 k (.bl b) := ⟨_, rfl, by cases b; exact (show Nice 5 ("False" : String) from nice_of (by decide)); exact (show Nice 5 ("True" : String) from nice_of (by decide)), rfl, Nat.zero_le _⟩
theorem TxR.int {n k : Nat} {i : Int} (h : Nice n (toString i : String)) (l : i.natAbs.log2 < 1920) : TxR n k (.int i) := ⟨_, rfl, h, by simp only [PyData.showable, decide_eq_true_eq]; exact l, Nat.zero_le _⟩
theorem TxR.i3 {k : Nat} {i : Int} (h0 : 0 ≤ i) (h1 : i < 1000) : TxR 4 k (.int i) := .int (nice_int h0 h1) (log_small h0 h1)
theorem TxR.str {n k : Nat} {x : Str} (h : Nice n x) : TxR (2 * n + 2) k (.str x) := ⟨_, rfl, by simp only [PyData.shown]; exact nice_repr h, rfl, Nat.zero_le _⟩
theorem TxR.tup {n k : Nat} {ds : List D} (h : TxA n k ds) : TxR (n + 3) (k + 1) (.tup ds) := by
  obtain ⟨ps, e, q⟩ := h
  exact ⟨.tuple ps, by simp only [toPy, e, Option.map_some], by simp only [PyData.shown]; exact nice_tuple q.nice, by simp only [PyData.showable]; exact q.show_, by simp only [PyData.depth]; have := q.deep; omega⟩
theorem TxR.lst {n k : Nat} {ds : List D} (h : TxA n k ds) : TxR (n + 2) (k + 1) (.lst ds) := by
  obtain ⟨ps, e, q⟩ := h
  exact ⟨.list ps, by simp only [toPy, e, Option.map_some], by simp only [PyData.shown]; exact nice_list q.nice, by simp only [PyData.showable]; exact q.show_, by simp only [PyData.depth]; have := q.deep; omega⟩
theorem TxQ.dic0 {k : Nat} : TxQ 2 (k + 1) (.dic [] []) := ⟨_, rfl, by simp only [PyData.shown]; exact (show Nice 2 ("{}" : String) from nice_of (by decide)), rfl, by simp [PyData.depth, PyData.depthKv]⟩
theorem TxA.nil {k : Nat} : TxA 0 k [] := ⟨[], rfl, .nil, rfl, Nat.zero_le _⟩
theorem TxA.cons {n m k : Nat} {d : D} {ds : List D} (h : TxR n k d) (r : TxA m k ds) : TxA (n + m + 2) k (d :: ds) := by
  obtain ⟨p, e, q⟩ := h
  obtain ⟨ps, e2, q2⟩ := r
  exact ⟨p :: ps, by simp only [toPyA, e, e2, Option.bind_some, Option.map_some], .cons q.nice q2.nice, by simp only [PyData.showableAll, q.show_, q2.show_, Bool.and_self], by simp only [PyData.depthAll]; exact Nat.max_le.mpr ⟨q.deep, q2.deep⟩⟩
theorem TxQA.nil {k : Nat} : TxQA 0 k [] := ⟨[], rfl, .nil, rfl, Nat.zero_le _⟩
theorem TxQA.cons {n m k : Nat} {d : D} {ds : List D} (h : TxQ n k d) (r : TxQA m k ds) : TxQA (n + m + 2) k (d :: ds) := by
  obtain ⟨p, e, q⟩ := h
  obtain ⟨ps, e2, q2⟩ := r
  exact ⟨p :: ps, by simp only [toPyQA, e, e2, Option.bind_some, Option.map_some], .cons q.nice q2.nice, by simp only [PyData.showableAll, q.show_, q2.show_, Bool.and_self], by simp only [PyData.depthAll]; exact Nat.max_le.mpr ⟨q.deep, q2.deep⟩⟩
theorem TxA.all {n k : Nat} : ∀ {ds : List D}, (∀ d ∈ ds, TxR n k d) → TxA ((n + 2) * ds.length) k ds
  | [], _ => .nil
  | d :: ds, h => by
    have q := TxA.cons (h d List.mem_cons_self) (TxA.all (ds := ds) fun x hx => h x (List.mem_cons_of_mem _ hx))
    have e : n + (n + 2) * ds.length + 2 = (n + 2) * (d :: ds).length := by rw [List.length_cons, Nat.mul_succ]; omega
    rw [e] at q
    exact q
theorem repr_tx {n k : Nat} {ds : List D} (h : TxQA n k ds) (hn : n + 2 ≤ LINE) (hk : k + 1 ≤ 60) : ∃ t : Str, reprXL [.lst ds] = some (.str t) ∧ Nice (n + 2) t := by
  obtain ⟨ps, e, q⟩ := h
  have q1 := nice_list q.nice
  have es : shownR (.list ps) = some (listText (PyData.shownAll ps)) := by
    unfold shownR
    rw [if_pos]
    · simp only [PyData.shown]
    · have h2 := q1.2
      have h3 := q.deep
      have e1 : (PyData.list ps).depth = PyData.depthAll ps + 1 := by simp only [PyData.depth]
      have e2 : (PyData.list ps).shown = listText (PyData.shownAll ps) := by simp only [PyData.shown]
      have e3 : (PyData.list ps).showable = true := by simp only [PyData.showable, q.show_]
      rw [e1, e2, e3]
      simp only [Bool.true_and, Bool.and_eq_true, decide_eq_true_eq]
      exact ⟨by omega, by omega⟩
  refine ⟨_, ?_, q1⟩
  show ((toPyQA ds).bind fun ps => (shownR (.list ps)).map D.str) = _
  rw [e]
  show (shownR (.list ps)).map D.str = _
  rw [es]
  rfl
@[simp] theorem reprXL_non : reprXL [.non] = some (.str "None") := rfl
@[simp] theorem reprXL_int (i : Int) : reprXL [.int i] = if i.natAbs.log2 < 1920 then some (.str (toString i)) else none := rfl
/-! texts of small numbers, below 0 too; of tuples -/
/-! a thunk tried -/
theorem wp_runT {n : Nat} {fs : R D → FS} {r : R D} {Q : D → Prop} {EX : EXT} : Sat (runT n fs r) Q EX ↔ Sat (fs r (List.replicate n none) []) (fun r => Sat (endD r) Q EX) EX := sat_bind
@[simp ↓] theorem wp_tryT_ok {i j : Nat} {ct : Str → Option Bool} {d : D} {fs : FS} {ρ : Env} {S : List D} {Q : Ctl × Env × List D → Prop} {EX : EXT} : Sat (tryT i j ct (.ok d) fs ρ S) Q EX ↔ Sat (setE ρ j d >>= fun ρ1 => R.ok (.nx, ρ1, S)) Q EX := Iff.rfl
theorem wp_tryT_exc {i j : Nat} {ct : Str → Option Bool} {c : Str} {ns : List Str} {ws : List D} {fs : FS} {ρ : Env} {S : List D} {Q : Ctl × Env × List D → Prop} {EX : EXT} (h : ct c = some true) :
    Sat (tryT i j ct (.exc c ns ws) fs ρ S) Q EX ↔ Sat (setE ρ i (.exn c ns ws) >>= fun ρ1 => noX (fs ρ1 S) >>= fun r => R.ok (r.1, r.2.1.set i none, r.2.2)) Q EX := by
  unfold tryT
  dsimp only
  rw [if_pos h]
/-! what a thunk gives, by equations -/
section
variable {Pg : Program} {w : World} {K : PySem.W.Frag} {mg : Str → Option Value} {base : Heap} {ca : Str → Option Addr} {T : Tb}
theorem fn_pC {x qual : Str} {st : Stmt} {fA : Addr} {fd : FuncData} {N ps : List Str} {k : Nat} {fs : FS} {OO : List Nat} (F : Fun K x qual st fA fd) (Sc : FnScope N ps (defScope st)) (hN : 0 < N.length)
    (body : ∀ (cdv : Value), fd.code = cdv → ∀ (A : Around) (outer : List PySem.Env) (s : Shared) (H : Hp) (E : XK) (p : Addr), Rm k (A.deeper (envOfC qual (defScope st) s.heap.objs.size fA cdv)) →
      PSS (cxOf CX0 Pg w K mg base N qual (defScope st) fA cdv A outer s H E).nox ⟨K, ca, H, some (0, p), .lst, T, [], [], []⟩ [] OO [] EX0 (defBody st) fs) :
    FnG Pg w K mg base (k + 1) fA fd ps (spP K ca T (runP N.length ps.length fs)) := by
  refine fn_bodyC F Sc (fun vs H Q E h => ?_) (fun cdv hcd A outer s H vs Q E hr hgu h => ?_)
  · obtain ⟨p, ws, xs, S, ds, B, rfl, _, _, _, _, _, hv, hs⟩ := h
    unfold runP at hs
    split at hs
    · rw [List.length_cons, hv.length]; assumption
    · exact hs.elim
  · obtain ⟨p, ws, xs, S, ds, B, rfl, hp, hB, hb, ti, hxs, hv, hs⟩ := h
    obtain ⟨t, pt, q⟩ := (body cdv hcd A outer s H E p ⟨hr, hgu⟩).ex
    refine ⟨t, pt, ?_⟩
    unfold runP at hs
    split at hs
    · have ef : ∀ H', Frz H' (([p] ++ tbs T) ++ beside T B) = Frz H' (p :: B) := fun H' => frz_congr fun a => besideP_iff (K := K) (ca := ca) (H := H') (sh := .lst) ti.sub a
      refine q (beside T B) [] (L2.start N (.ref p :: ws)) H (startP N.length ds) S _ rfl (rel_startP hN hp hB hb ti hxs hv) ((sat_bind.mp hs).imp fun r hr => ?_)
      obtain ⟨c, ρ1, S1⟩ := r
      cases c with
      | nx =>
        intro P' σ' H' h1 h2 h3
        have hr : ∀ v H' xs', (∀ a o, a ≠ p → a ∉ tbs T → H a = some o → H' a = some o) → LamX.Tabs T H' → H' p = some (.lst xs') → RpA K ca (Frz H' (p :: B)) xs' S1 → Rp K ca (Frz H' (p :: B)) v .non → Q v H' := hr
        have hf := h3.fin (v := .non) (d := .non) .non
        obtain ⟨xs', e1, q1⟩ := hf.pool 0 p rfl
        exact hr .non H' xs' (fun a o n n2 e => hf.ex a o e (by simpa [Z.pls] using ⟨n, n2⟩)) hf.tabs e1 (ef H' ▸ q1) .non
      | rt d =>
        intro v H' hf
        have hr : ∀ v H' xs', (∀ a o, a ≠ p → a ∉ tbs T → H a = some o → H' a = some o) → LamX.Tabs T H' → H' p = some (.lst xs') → RpA K ca (Frz H' (p :: B)) xs' S1 → Rp K ca (Frz H' (p :: B)) v d → Q v H' := hr
        obtain ⟨xs', e1, q1⟩ := hf.pool 0 p rfl
        exact hr v H' xs' (fun a o n n2 e => hf.ex a o e (by simpa [Z.pls] using ⟨n, n2⟩)) hf.tabs e1 (ef H' ▸ q1) (ef H' ▸ hf.val)
      | bk => exact hr.elim
      | ct => exact hr.elim
    · exact hs.elim
end
/-! the goal that k_head leaves, where the defs nms make lambdas -/
end PL
set_option Elab.async false
set_option linter.all false
set_option maxRecDepth 100000
set_option maxHeartbeats 4000000
/-! Own exceptions as values: made by position, by name, without anything. -/
namespace PL
open PySem PySem.Spec PyProof.Rows L2 Builtin Builtin.ObjectAttr
section
variable {X : Cx} {z : Z} {O : List Nat} {EX : EXT} {pins : List (Addr × Obj)} {σ : L2.St} {H : Hp} {s : Shared} {C fI : Addr} {k : Nat} {fd : FuncData} {ps nms ks : List Str} {e : Expr} {es : List Expr} {kws : List Keyword} {fa fk : FA} {x : Str} {p pos : Pos}
def mkxE (c : Str) (nms : List Str) (n m : Nat) (ix : List Nat) (fa fk : FA) : FE := fun ρ S => fa ρ S >>= fun x => fk ρ x.2 >>= fun y => if x.1.length = n ∧ y.1.length = m ∧ (pick ix (x.1 ++ y.1)).length = nms.length then R.ok (.exn c nms.reverse (pick ix (x.1 ++ y.1)).reverse, y.2) else R.bad
/-! X(), a class without an __init__ of its own -/
def mkx0E (c : Str) : FE := fun _ S => R.ok (.exn c [] [], S)
/-! o.NAME, a constant of the class -/
@[simp ↓] theorem wp_mkxE {c : Str} {nms : List Str} {n m : Nat} {ix : List Nat} {fa fk : FA} {ρ : Env} {S : List D} {Q : D × List D → Prop} {EX : EXT} : Sat (mkxE c nms n m ix fa fk ρ S) Q EX ↔ Sat (fa ρ S >>= fun x => fk ρ x.2 >>= fun y => if x.1.length = n ∧ y.1.length = m ∧ (pick ix (x.1 ++ y.1)).length = nms.length then R.ok (.exn c nms.reverse (pick ix (x.1 ++ y.1)).reverse, y.2) else R.bad) Q EX := Iff.rfl
@[simp ↓] theorem wp_mkx0E {c : Str} {ρ : Env} {S : List D} {Q : D × List D → Prop} {EX : EXT} : Sat (mkx0E c ρ S) Q EX ↔ Q (.exn c [] [], S) := Iff.rfl
end
inductive AllP {α β : Type} (P : α → β → Prop) : List (α × β) → Prop
  | nil : AllP P []
  | cons {a : α} {b : β} {l : List (α × β)} : P a b → AllP P l → AllP P ((a, b) :: l)
theorem lookup_all {α β : Type} [BEq α] [LawfulBEq α] {P : α → β → Prop} : ∀ {l : List (α × β)}, AllP P l → ∀ {c : α} {k : β}, l.lookup c = some k → P c k
  | _, .nil, _, _, e => by cases e
  | _, .cons (a := a) h r, c, k, e => by
    rw [List.lookup_cons] at e
    split at e
    · rename_i q
      cases e
      rw [eq_of_beq q]
      exact h
    · exact lookup_all r e
end PL
set_option Elab.async false
set_option linter.all false
set_option maxRecDepth 100000
set_option maxHeartbeats 4000000
/-! Own methods and defs by position and by name, keyword-only defaults left out. -/
namespace PL
open PySem PySem.Spec PyProof.Rows L2 ClX
/-- n positional values, keywords ks; dvs: the defaults that lack; by places of all of them -/
structure KBp (K : PySem.W.Frag) (fd : FuncData) (ps ks : List Str) (n : Nat) (ix : List Nat) (dvs : List V) : Prop where
  ex : ∃ mv : List Value, Vals dvs mv ∧ ∀ (s : Shared) (us ws : List Value), K.In s.heap → us.length = n → ws.length = ks.length → BindsTo s fd ⟨us, ks.zip ws⟩ (ps.zip (pick ix (us ++ (mv ++ ws))))
/-- nothing lacks -/
theorem KBp.plain {K : PySem.W.Frag} {fd : FuncData} {ps ks : List Str} {n : Nat} {ix : List Nat} (h : ∀ (s : Shared) (us ws : List Value), K.In s.heap → us.length = n → ws.length = ks.length → BindsTo s fd ⟨us, ks.zip ws⟩ (ps.zip (pick ix (us ++ ws)))) : KBp K fd ps ks n ix [] :=
  ⟨[], .nil, fun s us ws X l1 l2 => by rw [List.nil_append]; exact h s us ws X l1 l2⟩
/-- ms lack, their values stand in the dict at A -/
theorem KBp.lacks {K : PySem.W.Frag} {fd : FuncData} {ps ks : List Str} {n : Nat} {ix : List Nat} {A : Addr} (ms : List (Str × V)) (hq : ∀ q ∈ ms, ∃ u, PySem.W.nsIn K A q.1 = some (some u) ∧ RelV q.2 u)
    (h : ∀ (us mv ws : List Value), us.length = n → mv.length = ms.length → ws.length = ks.length → KwChain A ((ms.map (·.1)).zip mv) (bindArgs fd ⟨us, ks.zip ws⟩) (ps.zip (pick ix (us ++ (mv ++ ws))))) : KBp K fd ps ks n ix (ms.map (·.2)) := by
  obtain ⟨mv, hl, rk, hks⟩ := kwd_vals hq
  exact ⟨mv, rk, fun s us ws X l1 l2 => BindsTo.of_looks fun M => KwChain.looks X hks (h us mv ws l1 hl l2)⟩
/-- a callee that runs -/
structure Runs (X : Cx) (ps : List Str) (fd : FuncData) (fA : Addr) (cond : L2.St → List V → Hp → VK → Prop) : Prop where
  num : ∀ σ vs H Q, cond σ vs H Q → vs.length = ps.length
  go : ∀ (pins : List (Addr × Obj)) (σ : L2.St) (H : Hp) (s : Shared) (args : Args) (us : List Value) (vs : List V) (Q : VK), BindsTo s fd args (ps.zip us) → Inv X pins σ H s → Vals vs us → cond σ vs H Q → wpAny (model X.prog X.w) X.A (call (.ref fA) args.pos args.kw) (EP X pins σ Q) X.xe s
section
variable {X : Cx} {z : Z} {O : List Nat} {EX : EXT} {pins : List (Addr × Obj)} {σ : L2.St} {H : Hp} {s : Shared} {C fA : Addr} {k n : Nat} {fd : FuncData} {ps ks : List Str} {e o : Expr} {es : List Expr} {kws : List Keyword} {f : FE} {fa fk : FA} {x m : Str} {p pos apos : Pos} {sp : Sp} {W : WX} {E : XK}
variable {cond : L2.St → List V → Hp → VK → Prop} {dvs : List V} {dds : List D} {ix : List Nat} {to : TE} {t tk : TA} {F : List D → R D}
theorem runs_g (G : FnG X.prog X.w X.K X.mg X.base k fA fd ps sp) (hr : Rm k X.A) : Runs X ps fd fA (fun _ vs H Q => sp vs H Q E) :=
  ⟨fun _ vs H Q h => G.num vs H Q E h, fun _ _ _ _ _ _ _ _ hb I r h => run_g G hr hb I r h⟩
theorem runs_x (G : FnX X.prog X.w X.K X.mg X.base k fA fd ps sp) (hr : Rm k X.A) (tk : L2.Takes X W) : Runs X ps fd fA (fun σ vs H Q => sp vs H Q fun cls d H' => W cls d σ H') :=
  ⟨fun _ vs H Q h => G.num vs H Q _ h, fun _ _ _ _ _ _ _ _ hb I r h => run_x G hr tk hb I r h⟩
/-- the values are put in the parameters' order -/
theorem run_kbp {us ws : List Value} {vs zs : List V} {Q : VK} (R : Runs X ps fd fA cond) (hb : KBp X.K fd ps ks n ix dvs) (l1 : us.length = n) (l2 : ws.length = ks.length) (I : Inv X pins σ H s) (r1 : Vals vs us) (r2 : Vals zs ws) (h : cond σ (pick ix (vs ++ (dvs ++ zs))) H Q) :
    wpAny (model X.prog X.w) X.A (call (.ref fA) us (ks.zip ws)) (EP X pins σ Q) X.xe s := by
  obtain ⟨mv, rm, hb⟩ := hb.ex
  exact R.go pins σ H s ⟨us, ks.zip ws⟩ _ _ Q (hb s us ws I.kIn l1 l2) I (vals_pick (r1.append (rm.append r2)) ix) h
/-- as data; the method's name is no attribute -/
def mthN (cn m : Str) (F : List D → R D) (n j : Nat) (ix : List Nat) (dds : List D) (f : FE) (fa fk : FA) : FE := fun ρ S => f ρ S >>= fun x => match x.1 with
  | .ins c ns vs => if c = cn ∧ ns.contains m = false then fa ρ x.2 >>= fun y => fk ρ y.2 >>= fun w => if y.1.length + 1 = n ∧ w.1.length = j then F (pick ix ((.ins c ns vs :: y.1) ++ (dds ++ w.1))) >>= fun d => R.ok (d, w.2) else R.bad else R.bad
  | _ => R.bad
/-! what is wanted -/
@[simp ↓] theorem wp_mthN {cn m : Str} {F : List D → R D} {n j : Nat} {ix : List Nat} {dds : List D} {f : FE} {fa fk : FA} {ρ : Env} {S : List D} {Q : D × List D → Prop} {EX : EXT} : Sat (mthN cn m F n j ix dds f fa fk ρ S) Q EX ↔ Sat (f ρ S >>= fun x => match x.1 with
  | .ins c ns vs => if c = cn ∧ ns.contains m = false then fa ρ x.2 >>= fun y => fk ρ y.2 >>= fun w => if y.1.length + 1 = n ∧ w.1.length = j then F (pick ix ((.ins c ns vs :: y.1) ++ (dds ++ w.1))) >>= fun d => R.ok (d, w.2) else R.bad else R.bad
  | _ => R.bad) Q EX := Iff.rfl
end
end PL
set_option Elab.async false
set_option linter.all false
set_option maxRecDepth 100000
set_option maxHeartbeats 4000000
/-! True % n; the text of a tuple. -/
namespace PL
open PySem PySem.Spec PyProof.Rows L2 ClX
section
variable {X : Cx} {z : Z} {O : List Nat} {EX : EXT} {a b e : Expr} {f g : FE} {fa : FA} {p pos : Pos}
def modB : D → D → Option D | .bl c, .int j => if 0 < j then some (.int ((if c then 1 else 0 : Int) % j)) else none | _, _ => none
def modDx (a b : D) : Option D := (modD a b).or (modB a b)
@[simp] theorem modDx_int (a b : Int) : modDx (.int a) (.int b) = if 0 < b then some (.int (a % b)) else none := by
  show (if 0 < b then some (D.int (a % b)) else none).or none = _
  rw [Option.or_none]
@[simp] theorem modDx_bl (c : Bool) (b : Int) : modDx (.bl c) (.int b) = if 0 < b then some (.int ((if c then 1 else 0 : Int) % b)) else none := by
  show (none : Option D).or (if 0 < b then some (D.int ((if c then 1 else 0 : Int) % b)) else none) = _
  rw [Option.none_or]
/-! str(e), e an int or a tuple of data -/
end
end PL
set_option Elab.async false
set_option linter.all false
set_option maxRecDepth 100000
set_option maxHeartbeats 4000000
/-! Own defs by position and by name, keyword-only defaults left out; {x:>4}. -/
namespace PL
open PySem PySem.Spec PyProof.Rows L2 ClX
section
variable {X : Cx} {z : Z} {O : List Nat} {EX : EXT} {pins : List (Addr × Obj)} {σ : L2.St} {H : Hp} {s : Shared} {C fA : Addr} {k n : Nat} {fd : FuncData} {ps ks : List Str} {e o : Expr} {es : List Expr} {kws : List Keyword} {f : FE} {fa fk : FA} {x m : Str} {p pos apos : Pos} {sp : Sp} {W : WX} {E : XK}
variable {cond : L2.St → List V → Hp → VK → Prop} {dvs : List V} {dds : List D} {ix : List Nat} {to : TE} {t tk : TA} {F : List D → R D}
/-- f(e, .., k = v, ..) -/
def tFN (n j : Nat) (ix : List Nat) (dvs : List V) (cond : L2.St → List V → Hp → VK → Prop) (t tk : TA) : TE := fun σ H Q => t σ H fun vs H1 => tk σ H1 fun zs H2 => vs.length = n ∧ zs.length = j ∧ cond σ (pick ix (vs ++ (dvs ++ zs))) H2 Q
theorem pe_fN (R : Runs X ps fd fA cond) (hg : Gl X x) (hm : X.mg x = some (.ref fA)) (hk : PySem.W.keepIn X.K (.ref fA) = true) (hb : KBp X.K fd ps ks n ix dvs) (ha : PA X (e :: es) t) (hkw : PK X kws tk)
    (hall : (backToKw pos (keywordEach kws X.env)).all (·.1.isSome) = true := by rfl) (hks : (backToKw pos (keywordEach kws X.env)).filterMap (·.1) = ks := by rfl) (hdb : (x == ("__debug__" : Str)) = false := by decide) (he : starEach (e :: es) X.env = (false, eval e X.env) :: starEach es X.env := by rfl)
    (hpl : ((backTo pos (starEach (e :: es) X.env)).any (·.1) || (backToKw pos (keywordEach kws X.env)).any (·.1.isNone)) = false := by rfl) : PE X (.Call (.Name x p) (e :: es) kws pos) (tFN n ks.length ix dvs cond t tk) := by
  refine ⟨fun pins s σ H Q I h => ?_⟩
  refine wpAny_Call_Name_kw (ld_glob I hg hm ?_ hdb)
  refine PySem.W.callWith_KW (h₀ := X.base) I.ok.mod.kin hk hall (thn (ha.run pos pins s σ H _ I h) fun us s1 ⟨vs, H1, I1, r, q⟩ => ?_) hpl he
  refine thn (hkw.run pos pins s1 σ H1 _ I1 q) fun ws s2 ⟨zs, H2, I2, rz, l1, l2, q3⟩ => ⟨I2.kIn, ?_⟩
  rw [hks]
  rw [List.nil_append]
  exact run_kbp R hb (by rw [← r.length]; exact l1) (by rw [← rz.length]; exact l2) I2 r rz q3
theorem pe_fN0 (R : Runs X ps fd fA cond) (hg : Gl X x) (hm : X.mg x = some (.ref fA)) (hk : PySem.W.keepIn X.K (.ref fA) = true) (hb : KBp X.K fd ps ks 0 ix dvs) (hkw : PK X kws tk)
    (hall : (backToKw pos (keywordEach kws X.env)).all (·.1.isSome) = true := by rfl) (hks : (backToKw pos (keywordEach kws X.env)).filterMap (·.1) = ks := by rfl) (hdb : (x == ("__debug__" : Str)) = false := by decide)
    (hpl : ((backTo pos (starEach [] X.env)).any (·.1) || (backToKw pos (keywordEach kws X.env)).any (·.1.isNone)) = false := by rfl) : PE X (.Call (.Name x p) [] kws pos) (tFN 0 ks.length ix dvs cond tNil tk) := by
  refine ⟨fun pins s σ H Q I h => ?_⟩
  refine wpAny_Call_Name_kw (ld_glob I hg hm ?_ hdb)
  refine PySem.W.callWith_KW0 (h₀ := X.base) I.ok.mod.kin hk hall (thn (hkw.run pos pins s σ H _ I h) fun ws s2 ⟨zs, H2, I2, rz, l1, l2, q3⟩ => ⟨I2.kIn, ?_⟩) hpl
  rw [hks]
  exact run_kbp (us := []) (vs := []) R hb rfl (by rw [← rz.length]; exact l2) I2 .nil rz q3
def fnN (F : List D → R D) (n j : Nat) (ix : List Nat) (dds : List D) (fa fk : FA) : FE := fun ρ S => fa ρ S >>= fun y => fk ρ y.2 >>= fun w => if y.1.length = n ∧ w.1.length = j then F (pick ix (y.1 ++ (dds ++ w.1))) >>= fun d => R.ok (d, w.2) else R.bad
abbrev fnNC (F : List D → R D) (n j : Nat) (ix : List Nat) (dds : List D) (fa fk : FA) : FE := fnN (fun ds => noX (F ds)) n j ix dds fa fk
theorem ev_fN {ta' tb' : TA} {cond : L2.St → List V → Hp → VK → Prop} (hc : ∀ {B : List Addr} {P : List (Nat × Addr)} {σ : L2.St} {H : Hp} {ρ : Env} {S : List D} {vs : List V} {xs : List D} {Q : VK}, Rel z B P σ H ρ S → RpA z.K z.ca (Frz H (z.L B P)) vs xs →
      Sat (F xs >>= fun d => R.ok (d, S)) (fun r => ∀ v H', Grow z H H' → Rel z B P σ H' ρ r.2 → Rp z.K z.ca (Frz H' (z.L B P)) v r.1 → Q v H') EX → cond σ vs H Q) (hdd : ∀ F', RpA z.K z.ca F' dvs dds)
    (qa : ∀ B P σ H ρ S Q, P.map (·.1) = O → Rel z B P σ H ρ S → Sat (fa ρ S) (fun r => ∀ vs H', Grow z H H' → Rel z B P σ H' ρ r.2 → RpA z.K z.ca (Frz H' (z.L B P)) vs r.1 → Q vs H') EX → t σ H Q)
    (qk : ∀ B P σ H ρ S Q, P.map (·.1) = O → Rel z B P σ H ρ S → Sat (fk ρ S) (fun r => ∀ vs H', Grow z H H' → Rel z B P σ H' ρ r.2 → RpA z.K z.ca (Frz H' (z.L B P)) vs r.1 → Q vs H') EX → tk σ H Q) {j : Nat} :
    EvE z O EX (tFN n j ix dvs cond t tk) (fnN F n j ix dds fa fk) := fun B P σ H ρ S Q hP rr hs => by
  refine qa B P σ H ρ S _ hP rr ((sat_bind.mp hs).imp fun y hy vs H1 g1 r1 hv => ?_)
  refine qk B P σ H1 ρ y.2 _ hP r1 ((sat_bind.mp hy).imp fun u hu zs H2 g2 r2 hz => ?_)
  split at hu
  · rename_i ll
    refine ⟨by rw [hv.length]; exact ll.1, by rw [hz.length]; exact ll.2, ?_⟩
    exact hc r2 (rpa_pick ((hv.mono g2.frz).append ((hdd _).append hz)) ix) (hu.imp fun r hr v' H' g' r' hv' => hr v' H' ((g1.trans g2).trans g') r' hv')
  · exact hu.elim
/-- a def that may raise -/
theorem pd_fN (tk : L2.Takes X (WD z EX)) (G : FnX X.prog X.w X.K X.mg X.base k fA fd ps (spX z.K z.ca z.tb F)) (hr : Rm k X.A) (hm : X.mg x = some (.ref fA)) (hk : PySem.W.keepIn X.K (.ref fA) = true) (hb : KBp X.K fd ps ks n ix dvs) (hdd : ∀ F', RpA z.K z.ca F' dvs dds) (ha : PAd X z O EX (e :: es) fa) (hkw : PKd X z O EX kws fk)
    (hg : Gl X x := by rfl) (hall : (backToKw pos (keywordEach kws X.env)).all (·.1.isSome) = true := by rfl) (hks : (backToKw pos (keywordEach kws X.env)).filterMap (·.1) = ks := by rfl) (hdb : (x == ("__debug__" : Str)) = false := by decide) (he : starEach (e :: es) X.env = (false, eval e X.env) :: starEach es X.env := by rfl)
    (hpl : ((backTo pos (starEach (e :: es) X.env)).any (·.1) || (backToKw pos (keywordEach kws X.env)).any (·.1.isNone)) = false := by rfl) : PD X z O EX (.Call (.Name x p) (e :: es) kws pos) (fnN F n ks.length ix dds fa fk) := by
  obtain ⟨ta, pa, qa⟩ := ha.ex
  obtain ⟨tz, pz, qz⟩ := hkw.ex
  exact ⟨_, pe_fN (runs_x G hr tk) hg hm hk hb pa pz hall hks hdb he hpl, ev_fN (ta' := ta) (tb' := tz) (fun r1 hv h => spX_of r1 hv h) hdd qa qz⟩
theorem pd_fNC (G : FnG X.prog X.w X.K X.mg X.base k fA fd ps (spF z.K z.ca z.tb F)) (hr : Rm k X.A) (hm : X.mg x = some (.ref fA)) (hk : PySem.W.keepIn X.K (.ref fA) = true) (hb : KBp X.K fd ps ks n ix dvs) (hdd : ∀ F', RpA z.K z.ca F' dvs dds) (ha : PAd X z O EX (e :: es) fa) (hkw : PKd X z O EX kws fk)
    (hg : Gl X x := by rfl) (hall : (backToKw pos (keywordEach kws X.env)).all (·.1.isSome) = true := by rfl) (hks : (backToKw pos (keywordEach kws X.env)).filterMap (·.1) = ks := by rfl) (hdb : (x == ("__debug__" : Str)) = false := by decide) (he : starEach (e :: es) X.env = (false, eval e X.env) :: starEach es X.env := by rfl)
    (hpl : ((backTo pos (starEach (e :: es) X.env)).any (·.1) || (backToKw pos (keywordEach kws X.env)).any (·.1.isNone)) = false := by rfl) : PD X z O EX (.Call (.Name x p) (e :: es) kws pos) (fnNC F n ks.length ix dds fa fk) := by
  obtain ⟨ta, pa, qa⟩ := ha.ex
  obtain ⟨tz, pz, qz⟩ := hkw.ex
  exact ⟨_, pe_fN (runs_g (E := E0) G hr) hg hm hk hb pa pz hall hks hdb he hpl, ev_fN (F := fun ds => noX (F ds)) (cond := fun _ vs H Q => spF z.K z.ca z.tb F vs H Q E0) (ta' := ta) (tb' := tz) (fun r1 hv h => spF_of r1 hv h) hdd qa qz⟩
/-- by name only -/
theorem pd_fNC0 (G : FnG X.prog X.w X.K X.mg X.base k fA fd ps (spF z.K z.ca z.tb F)) (hr : Rm k X.A) (hm : X.mg x = some (.ref fA)) (hk : PySem.W.keepIn X.K (.ref fA) = true) (hb : KBp X.K fd ps ks 0 ix dvs) (hdd : ∀ F', RpA z.K z.ca F' dvs dds) (hkw : PKd X z O EX kws fk)
    (hg : Gl X x := by rfl) (hall : (backToKw pos (keywordEach kws X.env)).all (·.1.isSome) = true := by rfl) (hks : (backToKw pos (keywordEach kws X.env)).filterMap (·.1) = ks := by rfl) (hdb : (x == ("__debug__" : Str)) = false := by decide)
    (hpl : ((backTo pos (starEach [] X.env)).any (·.1) || (backToKw pos (keywordEach kws X.env)).any (·.1.isNone)) = false := by rfl) : PD X z O EX (.Call (.Name x p) [] kws pos) (fnNC F 0 ks.length ix dds nilA fk) := by
  obtain ⟨tz, pz, qz⟩ := hkw.ex
  exact ⟨_, pe_fN0 (runs_g (E := E0) G hr) hg hm hk hb pz hall hks hdb hpl, ev_fN (F := fun ds => noX (F ds)) (cond := fun _ vs H Q => spF z.K z.ca z.tb F vs H Q E0) (ta' := tNil) (tb' := tz) (fa := nilA) (t := tNil) (fun r1 hv h => spF_of r1 hv h) hdd (fun B P σ H ρ S Q hP rr hs => (show _ from hs) [] H Grow.refl rr .nil) qz⟩
@[simp ↓] theorem wp_fnN {F : List D → R D} {n j : Nat} {ix : List Nat} {dds : List D} {fa fk : FA} {ρ : Env} {S : List D} {Q : D × List D → Prop} {EX : EXT} : Sat (fnN F n j ix dds fa fk ρ S) Q EX ↔ Sat (fa ρ S >>= fun y => fk ρ y.2 >>= fun w => if y.1.length = n ∧ w.1.length = j then F (pick ix (y.1 ++ (dds ++ w.1))) >>= fun d => R.ok (d, w.2) else R.bad) Q EX := Iff.rfl
end
end PL
set_option Elab.async false
set_option linter.all false
set_option maxRecDepth 100000
set_option maxHeartbeats 4000000
namespace PL
open PySem PySem.Spec PyProof.Rows L2 ClX PySem.W PySem.Calls Builtin Builtin.Str Builtin.Int Builtin.Float
/-! {x:>4} -/
/-- a number put right in W columns -/
def padN (W : Nat) (n : Nat) : PySem.Str := ⟨(List.replicate (W - (Nat.toDigits 10 n).length) 32 ++ (Nat.toDigits 10 n).map Char.toNat).toArray⟩
def fS (W : Nat) : Builtin.Float.FormatSpec := { fill := 32, align := 62, noNeg0 := false, alt := false, width := some W, precision := none, type := none }
theorem meets_padF {n W : Nat} (hn : n < 1000) (hW : W ∈ [4, 6, 8]) {t u : Tok} {sp : PySem.Str} {f : Builtin.Float.FormatSpec} (hf : f = fS W) (hp : parseFormatSpec sp.cps.toList "int" 62 = .ok f) (g0 : (if (sp.cps.back? == some 0) = true then 0 else 100) = 100)
    (hne : (sp.length == 0) = false) (hasc : ((sp.cps.toList.drop 1).any (· ≥ 128) || (sp.cps.getD 0 0 ≥ 128 && !([60, 62, 61, 94] : List Nat).contains (sp.cps.getD 1 0))) = false)
    (hl : ((n : Int)).natAbs.log2 < 1920) (hL : (padN W n).length ≤ sizeLine) : Meets (Builtin.«int.__format__» ⟨[.int (n : Int) t, .str sp u], []⟩) (fun _ R s => ∀ t' k, R (.ok (.ret (.str (padN W n) t'))) { s with toks := k }) := by
  have g1 : f.type.getD (if (sp.cps.back? == some 0) = true then 0 else 100) = 100 := by rw [hf, g0]; rfl
  have g2 : f.precision = none := by rw [hf]; rfl
  have g3 : f.noNeg0 = false := by rw [hf]; rfl
  have g5 : f.width.getD 0 ≤ 100000 := by
    rw [hf]
    simp only [List.mem_cons, List.not_mem_nil, or_false] at hW
    rcases hW with rfl | rfl | rfl <;> decide
  apply KPc.meets_of
  intro pg w A s0 Q E hh
  unfold Builtin.«int.__format__»
  refine wpAny_bind (wpAny_of_eq (a := (_, _)) rfl ?_)
  refine wpAny_bind (wpAny_of_eq (a := _) rfl ?_)
  kxf_if
  refine wpAny_bind (wpAny_typeNameOf (T := "str") (typeIs_str _ _ _) (by decide) fun _ => ?_)
  refine wpAny_bind (wpAny_of_eq (a := some _) rfl ?_)
  refine wpAny_ite (KPc.ite_no (by rw [hne]; decide) ?_)
  refine wpAny_ite (KPc.ite_no (by rw [hasc]; decide) ?_)
  refine wpAny_bind (wpAny_typeNameOfCut_int ?_)
  rw [hp]
  dsimp only
  rw [g1]
  refine wpAny_ite (KPc.ite_yes (by decide +kernel) ?_)
  refine wpAny_ite (KPc.ite_no (by rw [g2]; decide) ?_)
  refine wpAny_ite (KPc.ite_no (by rw [g3]; decide) ?_)
  kxf_if
  kxf_if
  refine wpAny_bind (wpAny_of_eq (PyProof.Rows.overDigitLimit_small hl) ?_)
  refine wpAny_ite (KPc.ite_no (by simpa using g5) ?_)
  have key : ∀ X : PySem.Str, X = padN W n → wpAny (model pg w) A (retStr X) Q E s0 := fun X e => KXf.ret_text e (by rw [e]; exact hL) fun t' k => hh t' k
  refine key _ ?_
  clear key hh hl hL hp hne hasc g1 g2 g3 g5 g0
  subst hf
  simp only [List.mem_cons, List.not_mem_nil, or_false] at hW
  rcases hW with rfl | rfl | rfl <;> revert n <;> decide +kernel
end PL
set_option Elab.async false
set_option linter.all false
set_option maxRecDepth 100000
set_option maxHeartbeats 4000000
/-! {x:>4} in a text: ints below 1000, five words. -/
namespace PL
open PySem PySem.Spec PyProof.Rows L2 ClX PySem.W PySem.Calls Builtin Builtin.Str Builtin.Int Builtin.Float
def spS (W : Nat) : PySem.Str := if W = 4 then ">4" else if W = 6 then ">6" else ">8"
def padW (W : Nat) (y : PySem.Str) : PySem.Str := ⟨(List.replicate (W - y.length) 32 ++ y.cps.toList).toArray⟩
def words : List (Nat × PySem.Str) := [(4, "tick"), (6, "in"), (6, "out"), (8, "present"), (4, "all")]
theorem hp_int {W : Nat} (hW : W ∈ [4, 6, 8]) : parseFormatSpec (spS W).cps.toList "int" 62 = .ok (fS W) := by
  simp only [List.mem_cons, List.not_mem_nil, or_false] at hW
  rcases hW with rfl | rfl | rfl <;> kernel_rfl
theorem sp_facts {W : Nat} (hW : W ∈ [4, 6, 8]) : (if ((spS W).cps.back? == some 0) = true then 0 else 100) = 100 ∧ ((spS W).length == 0) = false ∧
    (((spS W).cps.toList.drop 1).any (· ≥ 128) || ((spS W).cps.getD 0 0 ≥ 128 && !([60, 62, 61, 94] : List Nat).contains ((spS W).cps.getD 1 0))) = false ∧ (spS W).length = 2 := by
  simp only [List.mem_cons, List.not_mem_nil, or_false] at hW
  rcases hW with rfl | rfl | rfl <;> decide +kernel
theorem m_tick {t : Tok} : ∀ u, Meets (Builtin.«str.__format__» ⟨[.str "tick" t, .str ">4" u], []⟩) (fun _ R s => ∀ t' k, R (.ok (.ret (.str (padW 4 "tick") t'))) { s with toks := k }) := by kxf_run_s
theorem m_in {t : Tok} : ∀ u, Meets (Builtin.«str.__format__» ⟨[.str "in" t, .str ">6" u], []⟩) (fun _ R s => ∀ t' k, R (.ok (.ret (.str (padW 6 "in") t'))) { s with toks := k }) := by kxf_run_s
theorem m_out {t : Tok} : ∀ u, Meets (Builtin.«str.__format__» ⟨[.str "out" t, .str ">6" u], []⟩) (fun _ R s => ∀ t' k, R (.ok (.ret (.str (padW 6 "out") t'))) { s with toks := k }) := by kxf_run_s
theorem m_present {t : Tok} : ∀ u, Meets (Builtin.«str.__format__» ⟨[.str "present" t, .str ">8" u], []⟩) (fun _ R s => ∀ t' k, R (.ok (.ret (.str (padW 8 "present") t'))) { s with toks := k }) := by kxf_run_s
theorem m_all {t : Tok} : ∀ u, Meets (Builtin.«str.__format__» ⟨[.str "all" t, .str ">4" u], []⟩) (fun _ R s => ∀ t' k, R (.ok (.ret (.str (padW 4 "all") t'))) { s with toks := k }) := by kxf_run_s
theorem sp_eq : spS 4 = ">4" ∧ spS 6 = ">6" ∧ spS 8 = ">8" := ⟨rfl, rfl, rfl⟩
theorem m_word {W : Nat} {y : PySem.Str} (h : (W, y) ∈ words) {t : Tok} : ∀ u, Meets (Builtin.«str.__format__» ⟨[.str y t, .str (spS W) u], []⟩) (fun _ R s => ∀ t' k, R (.ok (.ret (.str (padW W y) t'))) { s with toks := k }) := by
  simp only [words, List.mem_cons, List.not_mem_nil, or_false, Prod.mk.injEq] at h
  rcases h with ⟨rfl, rfl⟩ | ⟨rfl, rfl⟩ | ⟨rfl, rfl⟩ | ⟨rfl, rfl⟩ | ⟨rfl, rfl⟩
  · rw [sp_eq.1]; exact m_tick
  · rw [sp_eq.2.1]; exact m_in
  · rw [sp_eq.2.1]; exact m_out
  · rw [sp_eq.2.2]; exact m_present
  · rw [sp_eq.1]; exact m_all
theorem padN_len {W n : Nat} (hW : W ∈ [4, 6, 8]) (hn : n < 1000) : (padN W n).length ≤ 8 := by
  simp only [List.mem_cons, List.not_mem_nil, or_false] at hW
  have d := dig_ok ⟨n, by omega⟩
  simp only [Bool.and_eq_true, List.all_eq_true, decide_eq_true_eq] at d
  have d2 := d.2
  show (Array.size _) ≤ 8
  unfold padN
  simp
  omega
section
variable {X : Cx} {z : Z} {O : List Nat} {EX : EXT} {e : Expr} {te : TE} {f : FE} {W : Nat} {pos p1 p2 : Pos} {S : PySem.Str}
/-- {x:>W} -/
def tFmtS (W : Nat) (te : TE) : TE := fun σ H Q => te σ H fun x H1 => (∃ n : Nat, x = .int (n : Int) ∧ n < 1000 ∧ Q (.str (padN W n)) H1) ∨ ∃ y, x = .str y ∧ (W, y) ∈ words ∧ Q (.str (padW W y)) H1
theorem pe_fmtS (hS : S = spS W) (hW : W ∈ [4, 6, 8]) (he : PE X e te) : PE X (.FormattedValue e (-1) (some (.JoinedStr [.Constant (.str S) 0 p1] p2)) pos) (tFmtS W te) := by
  subst hS
  refine ⟨fun pins s σ H Q I h => ?_⟩
  refine wpAny_FormattedValue_spec (thn (he.run pins s σ H _ I h) fun v s1 hv => ?_)
  obtain ⟨x, H1, I1, r1, q⟩ := hv
  refine wpAny_JoinedStr_one ?_
  have sf := sp_facts hW
  have hsz : (spS W).length ≤ sizeLine := by rw [sf.2.2.2, sizeLine_eq]; omega
  refine wpAny_Constant_str ⟨spS W, _, rfl, ?_⟩
  have fin : ∀ (y : PySem.Str), Q (.str y) H1 → ∀ t' k, EP X pins σ Q (.str y t') { s1 with toks := k } := fun y hq t' k => ⟨.str y, H1, I1.tok _, ⟨_, rfl⟩, hq⟩
  rcases q with ⟨n, rfl, hn, q⟩ | ⟨y, rfl, hw, q⟩
  · obtain ⟨t, rfl⟩ := r1
    have pl := padN_len hW hn
    exact KXf.field_int rfl sf.2.1 hsz (fun u => meets_padF hn hW rfl (hp_int hW) sf.1 sf.2.1 sf.2.2.1 (log_small (by omega) (by omega)) (by rw [sizeLine_eq]; omega)) (fin _ q)
  · obtain ⟨t, rfl⟩ := r1
    exact KXf.field_str rfl rfl sf.2.1 hsz (m_word hw) (fin _ q)
def fmtS (W : Nat) : D → Option D
  | .int i => if 0 ≤ i ∧ i < 1000 then some (.str (padN W i.toNat)) else none
  | .str y => if (W, y) ∈ words then some (.str (padW W y)) else none
  | _ => none
theorem pd_fmtS (W : Nat) (hW : W ∈ [4, 6, 8]) (hS : S = spS W) (ha : PD X z O EX e f) : PD X z O EX (.FormattedValue e (-1) (some (.JoinedStr [.Constant (.str S) 0 p1] p2)) pos) (un1 (fmtS W) f) := by
  obtain ⟨t, pt, q⟩ := ha.ex
  refine ⟨_, pe_fmtS hS hW pt, fun B P σ H ρ S Q hP rr hs => ?_⟩
  refine q B P σ H ρ S _ hP rr ((sat_bind.mp hs).imp fun w hw v H1 g1 r1 hv => ?_)
  obtain ⟨d, hd, hq⟩ := sat_of (sat_bind.mp hw)
  obtain ⟨w1, w2⟩ := w
  cases w1 <;> simp only [fmtS, reduceCtorEq] at hd
  · rename_i i
    split at hd
    · rename_i l
      cases hd
      cases hv
      exact .inl ⟨i.toNat, by rw [Int.toNat_of_nonneg l.1], by omega, hq _ H1 g1 r1 (.str _)⟩
    · cases hd
  · split at hd
    · rename_i l
      cases hd
      cases hv
      exact .inr ⟨_, rfl, l, hq _ H1 g1 r1 (.str _)⟩
    · cases hd
end
end PL
set_option Elab.async false
set_option linter.all false
set_option maxRecDepth 100000
set_option maxHeartbeats 4000000
/-! s.split(sep) -/
namespace PL
open PySem PySem.Spec PyProof.Rows L2 ClX
def splitD : D → List D → Option D
  | .str a, [.str b] => if (b.length == 0) = false ∧ a.length + 2 ≤ LINE then some (.lst ((Txt.split a b).map D.str)) else none
  | _, _ => none
theorem rpa_strs {K : PySem.W.Frag} {ca : Str → Option Addr} {F : Hp} : ∀ l : List Str, RpA K ca F (l.map V.str) (l.map D.str)
  | [] => .nil
  | x :: l => .cons (.str x) (rpa_strs l)
theorem mthD_split {K : PySem.W.Frag} {ca : Str → Option Addr} : MthD K ca "str" (fun x xs H Q => ∃ a b, x = .str a ∧ xs = [.str b] ∧ (b.length == 0) = false ∧ a.length + 2 ≤ sizeLine ∧ rNewStrs (Txt.split a b) H Q) splitD := by
  intro H L N v d vs ds e Q hL hv hvs he hq
  unfold splitD at he
  split at he
  · split at he
    · rename_i a b c
      cases he
      cases hv.rp
      cases hvs with
      | cons h1 h2 =>
        cases h2
        cases h1.rp
        refine ⟨a, b, rfl, rfl, c.1, line_le c.2, fun p hp => ?_⟩
        refine hq _ _ (Ex.new hp) (.lst (frz_of upd_same (hL p hp)) (rpa_strs _))
    · cases he
  · cases he
section
variable {X : Cx} {z : Z} {O : List Nat} {EX : EXT} {e o : Expr} {f : FE} {fa : FA} {pos apos : Pos}
theorem pd_split (hK : X.K = z.K) (ho : PB X z O EX o f) (ha : PBA X z O EX [e] fa) (hbase : attributeBase o "split" X.env (eval o X.env) = eval o X.env := by rfl)
    (hfew : ((backTo pos (starEach (e :: []) X.env)).all (fun x => !x.1) && (backToKw pos (keywordEach [] X.env)).all (fun x => x.1.isSome)
      && decide ((e :: []).length + ([] : List Keyword).length + (if ([] : List Keyword).isEmpty then 0 else 1) < 30)) = true := by rfl)
    (hline : (apos.endLine == pos.line) = true := by rfl) (hs : starEach (e :: []) X.env = (false, eval e X.env) :: starEach [] X.env := by rfl) (hplain : (backTo pos (starEach [] X.env)).any (·.1) = false := by rfl) :
    PD X z O EX (.Call (.Attribute o "split" apos) [e] [] pos) (mthE "str" splitD f fa) :=
  pd_mth hK PySem.F.plainAttrs_str PySem.F.slot_str_split PySem.F.type_str_split mt_split mthD_split ho ha hbase hfew hline hs hplain
end
end PL
set_option Elab.async false
set_option linter.all false
set_option maxRecDepth 100000
set_option maxHeartbeats 4000000
/-! " " * n -/
namespace PL
open PySem PySem.Spec PyProof.Rows L2 ClX
section
variable {X : Cx} {z : Z} {O : List Nat} {EX : EXT} {a b e : Expr} {f g : FE} {p pos : Pos}
def blk (n : Int) : Str := if n < 1 then Str.empty else if n = 1 then ⟨#[32]⟩ else ⟨(List.replicate n.toNat #[32]).foldl (· ++ ·) #[]⟩
def rBlk : R2 := fun x y H Q => ∃ n : Int, x = .str (⟨#[32]⟩ : Str) ∧ y = .int n ∧ -1000 ≤ n ∧ n ≤ 8 ∧ Q (.str (blk n)) H
theorem op_blk : OpR X (binaryOp .Mult) rBlk := by
  intro pins s σ H x y v u Q I rx ry h
  obtain ⟨n, rfl, rfl, n0, n1, q⟩ := h
  obtain ⟨t, rfl⟩ := rx
  obtain ⟨w, rfl⟩ := ry
  have l1 : (⟨#[32]⟩ : Str).length = 1 := rfl
  refine PySem.P.mul_str (by
    have h1 : ¬ n < -(2 ^ 63 : Int) := by omega
    have h2 : ¬ n ≥ 2 ^ 63 := by omega
    rw [decide_eq_false h1, decide_eq_false h2]; rfl) ?_ ?_ ?_
  · intro h1 h2
    rw [l1]
    have : n = 2 ∨ n = 3 ∨ n = 4 ∨ n = 5 ∨ n = 6 ∨ n = 7 ∨ n = 8 ∨ n = 1 := by omega
    rcases this with rfl | rfl | rfl | rfl | rfl | rfl | rfl | rfl <;> decide
  · intro h1 h2
    have : n = 2 ∨ n = 3 ∨ n = 4 ∨ n = 5 ∨ n = 6 ∨ n = 7 ∨ n = 8 ∨ n = 1 := by omega
    rcases this with rfl | rfl | rfl | rfl | rfl | rfl | rfl | rfl <;> rfl
  · unfold blk at q
    by_cases h1 : n < 1
    · rw [if_pos h1] at q ⊢
      exact ⟨by decide, ⟨.str _, H, I.tok _, ⟨_, rfl⟩, q⟩⟩
    · rw [if_neg h1] at q ⊢
      by_cases h2 : n = 1
      · subst h2
        rw [if_pos rfl] at q
        rw [if_pos (show ((1 : Int) == 1 || (⟨#[32]⟩ : Str).length == 0) = true from rfl)]
        exact ⟨.str _, H, I, ⟨_, rfl⟩, q⟩
      · rw [if_neg h2] at q
        rw [if_neg (by rw [l1]; simp [h2])]
        refine ⟨?_, ⟨.str _, H, I.tok _, ⟨_, rfl⟩, q⟩⟩
        have : n = 2 ∨ n = 3 ∨ n = 4 ∨ n = 5 ∨ n = 6 ∨ n = 7 ∨ n = 8 := by omega
        rcases this with rfl | rfl | rfl | rfl | rfl | rfl | rfl <;> decide
def mulS : D → D → Option D | .str x, .int n => if x = (⟨#[32]⟩ : Str) ∧ -1000 ≤ n ∧ n ≤ 8 then some (.str (blk n)) else none | _, _ => none
theorem op2_mulS {K : PySem.W.Frag} {ca : Str → Option Addr} : Op2 K ca rBlk mulS := by
  intro H L N x y dx dy d Q fr hx hy e hq
  cases dx <;> cases dy <;> simp only [mulS, reduceCtorEq] at e
  split at e
  · rename_i c
    cases e
    obtain ⟨rfl, c1, c2⟩ := c
    exact ⟨_, hx.str, hy.int, c1, c2, hq _ H (Ex.refl H) (.str _)⟩
  · cases e
theorem pd_muls (ha : PB X z O EX a f) (hb : PB X z O EX b g) : PD X z O EX (.BinOp a .Mult b pos) (bin2 mulS f g) := pd_op op_blk op2_mulS ha hb
@[simp] theorem mulS_blk (n : Int) : mulS (.str (" " : String)) (.int n) = if -1000 ≤ n ∧ n ≤ 8 then some (.str (blk n)) else none := by
  have e : ((" " : String) : Str) = ⟨#[32]⟩ := by decide +kernel
  unfold mulS
  rw [e]
  simp
end
end PL
set_option Elab.async false
set_option linter.all false
set_option maxRecDepth 100000
set_option maxHeartbeats 4000000
/-! str(x) of a text or an int -/
namespace PL
open PySem PySem.Spec PyProof.Rows L2 ClX
def strS : List D → Option D
  | [.int i] => if i.natAbs.log2 < 1920 then some (.str (toString i)) else none
  | [.str y] => some (.str y)
  | _ => none
def rStrS : List V → Hp → VK → Prop := fun xs H Q => (∃ i : Int, xs = [.int i] ∧ i.natAbs.log2 < 1920 ∧ Q (.str (toString i)) H) ∨ ∃ a, xs = [.str a] ∧ Q (.str a) H
section
variable {X : Cx} {z : Z} {O : List Nat} {EX : EXT} {e : Expr} {fa : FA} {p pos : Pos}
theorem call_str_s : CallR X (.type "str") rStrS := by
  intro pins s σ H xs us Q I r h
  rcases h with h | h
  · exact call_str_int pins s σ H xs us Q I r h
  · exact SkE.call_str_str pins s σ H xs us Q I r h
theorem callD_strS {K : PySem.W.Frag} {ca : Str → Option Addr} : CallD K ca rStrS strS := by
  intro H L N vs ds d Q fr hv e hq
  unfold strS at e
  split at e
  · split at e
    · rename_i l
      cases e
      cases hv with
      | cons h r =>
        cases r
        cases h.int
        exact .inl ⟨_, rfl, l, hq _ H (Ex.refl H) (.str _)⟩
    · cases e
  · cases e
    cases hv with
    | cons h r =>
      cases r
      cases h.str
      exact .inr ⟨_, rfl, hq _ H (Ex.refl H) (.str _)⟩
  · cases e
theorem pd_strS (hm : X.mg "str" = none) (ha : PBA X z O EX [e] fa) (hg : Gl X "str" := by rfl) (he : starEach [e] X.env = (false, eval e X.env) :: starEach [] X.env := by rfl) (hpl : (backTo pos (starEach [] X.env)).any (·.1) = false := by rfl) :
    PD X z O EX (.Call (.Name "str" p) [e] [] pos) (callE strS fa) :=
  pd_callTy call_str_s callD_strS hm ha hg (by decide +kernel) (by decide) (by decide) he hpl
end
end PL
set_option Elab.async false
set_option linter.all false
set_option maxRecDepth 100000
set_option maxHeartbeats 4000000
namespace K79
open PySem PySem.Spec PyProof.Rows L2 ClX PL
def top (i : Nat) : Stmt := PySem.Challenge.pw_staycounts_k79_table_in_columns.main.body.getD i (.Pass ⟨0, 0, 0, 0⟩)
abbrev nm (i : Nat) : FE := fun ρ S => lk ρ i >>= fun d => R.ok (d, S)
theorem notpl0 {tb : Tb} {K : PySem.W.Frag} {ca : Str → Option Addr} {H : Hp} {p : Addr} {sh : List V → HO} {bs : List Addr} {s0 : L2.St} {i : Nat} (h : 0 ≠ i) : NotPl ⟨K, ca, H, some (0, p), sh, tb, bs, s0, []⟩ i := ⟨fun j a e => by
  cases e
  exact h, fun q => nomatch q⟩
theorem notplN {tb : Tb} {K : PySem.W.Frag} {ca : Str → Option Addr} {H : Hp} {sh : List V → HO} {bs : List Addr} {s0 : L2.St} {i : Nat} : NotPl ⟨K, ca, H, none, sh, tb, bs, s0, []⟩ i := ⟨fun j a e => (nomatch e), fun q => nomatch q⟩
theorem notplK {tb : Tb} {K : PySem.W.Frag} {ca : Str → Option Addr} {H : Hp} {sh : List V → HO} {bs : List Addr} {s0 : L2.St} {kl : List Nat} {i : Nat} (h : i ∉ kl) : NotPl ⟨K, ca, H, none, sh, tb, bs, s0, kl⟩ i := ⟨fun j a e => (nomatch e), h⟩
def cs : List Str := ["Counts"]
abbrev s_eNC : Stmt := inClass (top 4) 0
abbrev s_eIC : Stmt := inClass (top 3) 0
abbrev s_ii : Stmt := top 23
abbrev s_pra : Stmt := top 30
abbrev s_ckc : Stmt := top 36
abbrev s_cl : Stmt := top 37
abbrev s_inu : Stmt := top 39
abbrev s_cn : Stmt := top 38
abbrev s_ini : Stmt := inClass (top 35) 2
abbrev s_pre : Stmt := inClass (top 35) 5
abbrev s_peo : Stmt := inClass (top 35) 6
abbrev s_len : Stmt := inClass (top 35) 7
abbrev s_row : Stmt := top 43
abbrev s_tab : Stmt := top 42
abbrev s_cell : Stmt := top 45
abbrev s_pool : Stmt := top 46
abbrev s_draw : Stmt := top 47
abbrev s_flows : Stmt := top 48
abbrev s_small : Stmt := top 49
abbrev s_great : Stmt := top 50
abbrev s_rest : Stmt := top 51
abbrev s_error : Stmt := top 52
abbrev s_any : Stmt := top 53
abbrev s_field : Stmt := top 55
abbrev s_caught : Stmt := top 54
abbrev s_lrow : Stmt := top 56
abbrev s_due : Stmt := top 57
abbrev s_right : Stmt := top 58
abbrev s_law : Stmt := top 59
structure XA where
  InvalidCounts : Addr
  NotCounts : Addr
  InvalidTick : Addr
  InvalidNumber : Addr
  InvalidText : Addr
  InvalidStay : Addr
  InvalidHistory : Addr
  InvalidName : Addr
  InvalidLength : Addr
  InvalidDoors : Addr
  InvalidDeed : Addr
  InvalidCommand : Addr
  Impossible : Addr
  NotKnown : Addr
  LimitBroken : Addr
  NothingToUndo : Addr
  TooMany : Addr
  CountError : Addr
  SearchError : Addr
  LimitError : Addr
def sub_InvalidCounts : Str → Option Bool := fun c => List.lookup c ([("InvalidCounts", true), ("NotCounts", false)] : List (Str × Bool))
def sub_NotCounts : Str → Option Bool := fun c => List.lookup c ([("InvalidCounts", false), ("NotCounts", true)] : List (Str × Bool))
def sub_InvalidTick : Str → Option Bool := fun c => List.lookup c ([("InvalidCounts", false), ("NotCounts", false)] : List (Str × Bool))
def sub_InvalidNumber : Str → Option Bool := fun c => List.lookup c ([("InvalidCounts", false), ("NotCounts", false)] : List (Str × Bool))
def sub_InvalidText : Str → Option Bool := fun c => List.lookup c ([("InvalidCounts", false), ("NotCounts", false)] : List (Str × Bool))
def sub_InvalidStay : Str → Option Bool := fun c => List.lookup c ([("InvalidCounts", false), ("NotCounts", false)] : List (Str × Bool))
def sub_InvalidHistory : Str → Option Bool := fun c => List.lookup c ([("InvalidCounts", false), ("NotCounts", false)] : List (Str × Bool))
def sub_InvalidName : Str → Option Bool := fun c => List.lookup c ([("InvalidCounts", false), ("NotCounts", false)] : List (Str × Bool))
def sub_InvalidLength : Str → Option Bool := fun c => List.lookup c ([("InvalidCounts", false), ("NotCounts", false)] : List (Str × Bool))
def sub_InvalidDoors : Str → Option Bool := fun c => List.lookup c ([("InvalidCounts", false), ("NotCounts", false)] : List (Str × Bool))
def sub_InvalidDeed : Str → Option Bool := fun c => List.lookup c ([("InvalidCounts", false), ("NotCounts", false)] : List (Str × Bool))
def sub_InvalidCommand : Str → Option Bool := fun c => List.lookup c ([("InvalidCounts", false), ("NotCounts", false)] : List (Str × Bool))
def sub_Impossible : Str → Option Bool := fun c => List.lookup c ([("InvalidCounts", false), ("NotCounts", false)] : List (Str × Bool))
def sub_NotKnown : Str → Option Bool := fun c => List.lookup c ([("InvalidCounts", false), ("NotCounts", false)] : List (Str × Bool))
def sub_LimitBroken : Str → Option Bool := fun c => List.lookup c ([("InvalidCounts", false), ("NotCounts", false)] : List (Str × Bool))
def sub_NothingToUndo : Str → Option Bool := fun c => List.lookup c ([("InvalidCounts", false), ("NotCounts", false)] : List (Str × Bool))
def sub_TooMany : Str → Option Bool := fun c => List.lookup c ([("InvalidCounts", false), ("NotCounts", false)] : List (Str × Bool))
def sub_CountError : Str → Option Bool := fun c => List.lookup c ([("InvalidCounts", true), ("NotCounts", true)] : List (Str × Bool))
def sub_SearchError : Str → Option Bool := fun c => List.lookup c ([("InvalidCounts", false), ("NotCounts", false)] : List (Str × Bool))
def sub_LimitError : Str → Option Bool := fun c => List.lookup c ([("InvalidCounts", false), ("NotCounts", false)] : List (Str × Bool))
def sub_ValueError : Str → Option Bool := fun c => List.lookup c ([("InvalidCounts", true), ("NotCounts", true)] : List (Str × Bool))
def sub_LookupError : Str → Option Bool := fun c => List.lookup c ([("InvalidCounts", false), ("NotCounts", false)] : List (Str × Bool))
def sub_ArithmeticError : Str → Option Bool := fun c => List.lookup c ([("InvalidCounts", false), ("NotCounts", false)] : List (Str × Bool))
def ct_CountError_SearchError_LimitError : Str → Option Bool := fun c => List.lookup c ([("InvalidCounts", true), ("NotCounts", true)] : List (Str × Bool))
def xc_index : List Str := []
def xc_length : List Str := []
def xc_limit : List Str := []
def xc_name : List Str := []
def xc_number : List Str := []
def xc_text : List Str := []
def xc_tick : List Str := ["InvalidCounts"]
def xc_value : List Str := ["NotCounts"]
def xc_word : List Str := []
structure Cal_eNC (K : PySem.W.Frag) (mg : Str → Option Value) (base : Heap) (tb : Tb) (C : Addr) (xa : XA) (fA : Addr) (fd : FuncData) : Prop where
  F : Fun K "__init__" "NotCounts.__init__" s_eNC fA fd
  iC : PySem.W.findIn K (.ref xa.NotCounts) "__init__" = some (some (.ref fA))
  fn : PySem.W.isFn K (.ref fA) = true
  b : Binds K fd ["self", "value"] []
structure Cal_eIC (K : PySem.W.Frag) (mg : Str → Option Value) (base : Heap) (tb : Tb) (C : Addr) (xa : XA) (fA : Addr) (fd : FuncData) : Prop where
  F : Fun K "__init__" "InvalidCounts.__init__" s_eIC fA fd
  iC : PySem.W.findIn K (.ref xa.InvalidCounts) "__init__" = some (some (.ref fA))
  fn : PySem.W.isFn K (.ref fA) = true
  b : Binds K fd ["self", "tick"] []
structure Cal_ii (K : PySem.W.Frag) (mg : Str → Option Value) (base : Heap) (tb : Tb) (C : Addr) (xa : XA) (fA : Addr) (fd : FuncData) : Prop where
  F : Fun K "is_integer_from" "is_integer_from" s_ii fA fd
  m : mg "is_integer_from" = some (.ref fA)
  k : PySem.W.keepIn K (.ref fA) = true
  b : Binds K fd ["value", "low", "high"] []
structure Cal_pra (K : PySem.W.Frag) (mg : Str → Option Value) (base : Heap) (tb : Tb) (C : Addr) (xa : XA) (fA : Addr) (fd : FuncData) : Prop where
  F : Fun K "present_after" "present_after" s_pra fA fd
  m : mg "present_after" = some (.ref fA)
  k : PySem.W.keepIn K (.ref fA) = true
  b : Binds K fd ["arrivals", "departures"] []
structure Cal_ckc (K : PySem.W.Frag) (mg : Str → Option Value) (base : Heap) (tb : Tb) (C : Addr) (xa : XA) (fA : Addr) (fd : FuncData) : Prop where
  F : Fun K "check_counts" "check_counts" s_ckc fA fd
  m : mg "check_counts" = some (.ref fA)
  k : PySem.W.keepIn K (.ref fA) = true
  b : Binds K fd ["value"] []
structure Cal_cl (K : PySem.W.Frag) (mg : Str → Option Value) (base : Heap) (tb : Tb) (C : Addr) (xa : XA) (fA : Addr) (fd : FuncData) : Prop where
  F : Fun K "_check_lengths" "_check_lengths" s_cl fA fd
  m : mg "_check_lengths" = some (.ref fA)
  k : PySem.W.keepIn K (.ref fA) = true
  b : Binds K fd ["arrivals", "departures"] []
structure Cal_inu (K : PySem.W.Frag) (mg : Str → Option Value) (base : Heap) (tb : Tb) (C : Addr) (xa : XA) (fA : Addr) (fd : FuncData) : Prop where
  F : Fun K "_is_number" "_is_number" s_inu fA fd
  m : mg "_is_number" = some (.ref fA)
  k : PySem.W.keepIn K (.ref fA) = true
  b : Binds K fd ["value"] []
structure Cal_cn (K : PySem.W.Frag) (mg : Str → Option Value) (base : Heap) (tb : Tb) (C : Addr) (xa : XA) (fA : Addr) (fd : FuncData) : Prop where
  F : Fun K "_check_numbers" "_check_numbers" s_cn fA fd
  m : mg "_check_numbers" = some (.ref fA)
  k : PySem.W.keepIn K (.ref fA) = true
  b : Binds K fd ["arrivals", "departures"] []
structure Cal_ini (K : PySem.W.Frag) (mg : Str → Option Value) (base : Heap) (tb : Tb) (C : Addr) (xa : XA) (fA : Addr) (fd : FuncData) : Prop where
  F : Fun K "__init__" "Counts.__init__" s_ini fA fd
  makes : Mk K C fA
  kb : KBd K fd ["self", "arrivals", "departures"] [] 3 [0, 1, 2]
structure Cal_pre (K : PySem.W.Frag) (mg : Str → Option Value) (base : Heap) (tb : Tb) (C : Addr) (xa : XA) (fA : Addr) (fd : FuncData) : Prop where
  F : Fun K "present" "Counts.present" s_pre fA fd
  p : ∃ pA, PropOf K C "present" pA fA
  b : Binds K fd ["self"] []
structure Cal_peo (K : PySem.W.Frag) (mg : Str → Option Value) (base : Heap) (tb : Tb) (C : Addr) (xa : XA) (fA : Addr) (fd : FuncData) : Prop where
  F : Fun K "people" "Counts.people" s_peo fA fd
  p : ∃ pA, PropOf K C "people" pA fA
  b : Binds K fd ["self"] []
structure Cal_len (K : PySem.W.Frag) (mg : Str → Option Value) (base : Heap) (tb : Tb) (C : Addr) (xa : XA) (fA : Addr) (fd : FuncData) : Prop where
  F : Fun K "__len__" "Counts.__len__" s_len fA fd
  at_ : PySem.W.findIn K (.ref C) "__len__" = some (some (.ref fA))
  fn : PySem.W.isFn K (.ref fA) = true
  b : Binds K fd ["self"] []
structure Cal_row (K : PySem.W.Frag) (mg : Str → Option Value) (base : Heap) (tb : Tb) (C : Addr) (xa : XA) (fA : Addr) (fd : FuncData) : Prop where
  F : Fun K "_row" "_row" s_row fA fd
  m : mg "_row" = some (.ref fA)
  k : PySem.W.keepIn K (.ref fA) = true
  b : Binds K fd ["tick", "arriving", "leaving", "staying"] []
structure Cal_tab (K : PySem.W.Frag) (mg : Str → Option Value) (base : Heap) (tb : Tb) (C : Addr) (xa : XA) (fA : Addr) (fd : FuncData) : Prop where
  F : Fun K "table" "table" s_tab fA fd
  m : mg "table" = some (.ref fA)
  k : PySem.W.keepIn K (.ref fA) = true
  kp_1 : KBp K fd ["counts", "totals"] [] 1 [0, 1] [V.bl false]
  kp_0_counts : KBp K fd ["counts", "totals"] ["counts"] 0 [1, 0] [V.bl false]
  kp_1_totals : KBp K fd ["counts", "totals"] ["totals"] 1 [0, 1] []
structure Cal_cell (K : PySem.W.Frag) (mg : Str → Option Value) (base : Heap) (tb : Tb) (C : Addr) (xa : XA) (fA : Addr) (fd : FuncData) : Prop where
  F : Fun K "_law_cell" "_law_cell" s_cell fA fd
  m : mg "_law_cell" = some (.ref fA)
  k : PySem.W.keepIn K (.ref fA) = true
  b : Binds K fd ["_law_cells", "_law_k"] []
structure Cal_pool (K : PySem.W.Frag) (mg : Str → Option Value) (base : Heap) (tb : Tb) (C : Addr) (xa : XA) (fA : Addr) (fd : FuncData) : Prop where
  F : Fun K "_law_pool" "_law_pool" s_pool fA fd
  m : mg "_law_pool" = some (.ref fA)
  k : PySem.W.keepIn K (.ref fA) = true
  b : Binds K fd ["_law_cell_here"] []
structure Cal_draw (K : PySem.W.Frag) (mg : Str → Option Value) (base : Heap) (tb : Tb) (C : Addr) (xa : XA) (fA : Addr) (fd : FuncData) : Prop where
  F : Fun K "_law_draw" "_law_draw" s_draw fA fd
  m : mg "_law_draw" = some (.ref fA)
  k : PySem.W.keepIn K (.ref fA) = true
  b : Binds K fd ["_law_pool_here", "_law_many"] []
structure Cal_flows (K : PySem.W.Frag) (mg : Str → Option Value) (base : Heap) (tb : Tb) (C : Addr) (xa : XA) (fA : Addr) (fd : FuncData) : Prop where
  F : Fun K "_law_flows" "_law_flows" s_flows fA fd
  m : mg "_law_flows" = some (.ref fA)
  k : PySem.W.keepIn K (.ref fA) = true
  b : Binds K fd ["_law_pool_here", "_law_size", "_law_most_in", "_law_people"] []
structure Cal_small (K : PySem.W.Frag) (mg : Str → Option Value) (base : Heap) (tb : Tb) (C : Addr) (xa : XA) (fA : Addr) (fd : FuncData) : Prop where
  F : Fun K "_law_small_flows" "_law_small_flows" s_small fA fd
  m : mg "_law_small_flows" = some (.ref fA)
  k : PySem.W.keepIn K (.ref fA) = true
  b : Binds K fd ["_law_pool_here"] []
structure Cal_great (K : PySem.W.Frag) (mg : Str → Option Value) (base : Heap) (tb : Tb) (C : Addr) (xa : XA) (fA : Addr) (fd : FuncData) : Prop where
  F : Fun K "_law_great_flows" "_law_great_flows" s_great fA fd
  m : mg "_law_great_flows" = some (.ref fA)
  k : PySem.W.keepIn K (.ref fA) = true
  b : Binds K fd ["_law_pool_here"] []
structure Cal_rest (K : PySem.W.Frag) (mg : Str → Option Value) (base : Heap) (tb : Tb) (C : Addr) (xa : XA) (fA : Addr) (fd : FuncData) : Prop where
  F : Fun K "_law_rest" "_law_rest" s_rest fA fd
  m : mg "_law_rest" = some (.ref fA)
  k : PySem.W.keepIn K (.ref fA) = true
  b : Binds K fd ["_law_comes", "_law_goes"] []
structure Cal_error (K : PySem.W.Frag) (mg : Str → Option Value) (base : Heap) (tb : Tb) (C : Addr) (xa : XA) (fA : Addr) (fd : FuncData) : Prop where
  F : Fun K "_law_error" "_law_error" s_error fA fd
  m : mg "_law_error" = some (.ref fA)
  k : PySem.W.keepIn K (.ref fA) = true
  b : Binds K fd ["_law_e"] []
structure Cal_any (K : PySem.W.Frag) (mg : Str → Option Value) (base : Heap) (tb : Tb) (C : Addr) (xa : XA) (fA : Addr) (fd : FuncData) : Prop where
  F : Fun K "_law_any_flows" "_law_any_flows" s_any fA fd
  m : mg "_law_any_flows" = some (.ref fA)
  k : PySem.W.keepIn K (.ref fA) = true
  b : Binds K fd ["_law_pool_here"] []
structure Cal_field (K : PySem.W.Frag) (mg : Str → Option Value) (base : Heap) (tb : Tb) (C : Addr) (xa : XA) (fA : Addr) (fd : FuncData) : Prop where
  F : Fun K "_law_field" "_law_field" s_field fA fd
  m : mg "_law_field" = some (.ref fA)
  k : PySem.W.keepIn K (.ref fA) = true
  b : Binds K fd ["_law_e", "_law_at"] []
structure Cal_caught (K : PySem.W.Frag) (mg : Str → Option Value) (base : Heap) (tb : Tb) (C : Addr) (xa : XA) (fA : Addr) (fd : FuncData) : Prop where
  F : Fun K "_law_caught" "_law_caught" s_caught fA fd
  m : mg "_law_caught" = some (.ref fA)
  k : PySem.W.keepIn K (.ref fA) = true
  b : Binds K fd ["_law_act"] []
structure Cal_lrow (K : PySem.W.Frag) (mg : Str → Option Value) (base : Heap) (tb : Tb) (C : Addr) (xa : XA) (fA : Addr) (fd : FuncData) : Prop where
  F : Fun K "_law_row" "_law_row" s_lrow fA fd
  m : mg "_law_row" = some (.ref fA)
  k : PySem.W.keepIn K (.ref fA) = true
  b : Binds K fd ["_law_words"] []
structure Cal_due (K : PySem.W.Frag) (mg : Str → Option Value) (base : Heap) (tb : Tb) (C : Addr) (xa : XA) (fA : Addr) (fd : FuncData) : Prop where
  F : Fun K "_law_rows_due" "_law_rows_due" s_due fA fd
  m : mg "_law_rows_due" = some (.ref fA)
  k : PySem.W.keepIn K (.ref fA) = true
  b : Binds K fd ["_law_comes", "_law_goes", "_law_whole"] []
structure Cal_right (K : PySem.W.Frag) (mg : Str → Option Value) (base : Heap) (tb : Tb) (C : Addr) (xa : XA) (fA : Addr) (fd : FuncData) : Prop where
  F : Fun K "_law_right" "_law_right" s_right fA fd
  m : mg "_law_right" = some (.ref fA)
  k : PySem.W.keepIn K (.ref fA) = true
  b : Binds K fd ["_law_pool_here"] []
  M : MkAt base mg tb fd (("_law_right" : Str) ++ ".<locals>." ++ "<lambda>")
structure Cal_law (K : PySem.W.Frag) (mg : Str → Option Value) (base : Heap) (tb : Tb) (C : Addr) (xa : XA) (fA : Addr) (fd : FuncData) : Prop where
  F : Fun K "law" "law" s_law fA fd
  m : mg "law" = some (.ref fA)
  k : PySem.W.keepIn K (.ref fA) = true
  b : Binds K fd ["_law_cells"] []
structure Txt (K : PySem.W.Frag) (mg : Str → Option Value) (base : Heap) (tb : Tb) (ca : Str → Option Addr) (C : Addr) (xa : XA) : Prop where
  free : ∀ x ∈ (["isinstance", "len", "int", "bool", "tuple", "list", "str", "enumerate", "zip", "range", "min", "max", "repr", "all", "divmod", "abs", "sum", "ValueError", "LookupError", "ArithmeticError"] : List Str), mg x = none
  caC : ca "Counts" = some C
  mgC : mg "Counts" = some (.ref C)
  oCC : OwnC K C
  clC : Cls K C
  rdC : CRead K C (.type "type")
  na_arrivals : NoAttr K C "arrivals"
  na_departures : NoAttr K C "departures"
  cv_MAX_TICKS : ∃ u, CVal K C (.type "type") "MAX_TICKS" (.int 60) u
  cv_MAX_PEOPLE : ∃ u, CVal K C (.type "type") "MAX_PEOPLE" (.int 999) u
  mx_InvalidCounts : mg "InvalidCounts" = some (.ref xa.InvalidCounts)
  is_InvalidCounts : ∀ c k, sub_InvalidCounts c = some k → ∃ D, ca c = some D ∧ ExnC K D ∧ PySem.W.kitOne K (.ref D) (.ref xa.InvalidCounts) = some k
  mx_NotCounts : mg "NotCounts" = some (.ref xa.NotCounts)
  is_NotCounts : ∀ c k, sub_NotCounts c = some k → ∃ D, ca c = some D ∧ ExnC K D ∧ PySem.W.kitOne K (.ref D) (.ref xa.NotCounts) = some k
  mx_InvalidTick : mg "InvalidTick" = some (.ref xa.InvalidTick)
  is_InvalidTick : ∀ c k, sub_InvalidTick c = some k → ∃ D, ca c = some D ∧ ExnC K D ∧ PySem.W.kitOne K (.ref D) (.ref xa.InvalidTick) = some k
  mx_InvalidNumber : mg "InvalidNumber" = some (.ref xa.InvalidNumber)
  is_InvalidNumber : ∀ c k, sub_InvalidNumber c = some k → ∃ D, ca c = some D ∧ ExnC K D ∧ PySem.W.kitOne K (.ref D) (.ref xa.InvalidNumber) = some k
  mx_InvalidText : mg "InvalidText" = some (.ref xa.InvalidText)
  is_InvalidText : ∀ c k, sub_InvalidText c = some k → ∃ D, ca c = some D ∧ ExnC K D ∧ PySem.W.kitOne K (.ref D) (.ref xa.InvalidText) = some k
  mx_InvalidStay : mg "InvalidStay" = some (.ref xa.InvalidStay)
  is_InvalidStay : ∀ c k, sub_InvalidStay c = some k → ∃ D, ca c = some D ∧ ExnC K D ∧ PySem.W.kitOne K (.ref D) (.ref xa.InvalidStay) = some k
  mx_InvalidHistory : mg "InvalidHistory" = some (.ref xa.InvalidHistory)
  is_InvalidHistory : ∀ c k, sub_InvalidHistory c = some k → ∃ D, ca c = some D ∧ ExnC K D ∧ PySem.W.kitOne K (.ref D) (.ref xa.InvalidHistory) = some k
  mx_InvalidName : mg "InvalidName" = some (.ref xa.InvalidName)
  is_InvalidName : ∀ c k, sub_InvalidName c = some k → ∃ D, ca c = some D ∧ ExnC K D ∧ PySem.W.kitOne K (.ref D) (.ref xa.InvalidName) = some k
  mx_InvalidLength : mg "InvalidLength" = some (.ref xa.InvalidLength)
  is_InvalidLength : ∀ c k, sub_InvalidLength c = some k → ∃ D, ca c = some D ∧ ExnC K D ∧ PySem.W.kitOne K (.ref D) (.ref xa.InvalidLength) = some k
  mx_InvalidDoors : mg "InvalidDoors" = some (.ref xa.InvalidDoors)
  is_InvalidDoors : ∀ c k, sub_InvalidDoors c = some k → ∃ D, ca c = some D ∧ ExnC K D ∧ PySem.W.kitOne K (.ref D) (.ref xa.InvalidDoors) = some k
  mx_InvalidDeed : mg "InvalidDeed" = some (.ref xa.InvalidDeed)
  is_InvalidDeed : ∀ c k, sub_InvalidDeed c = some k → ∃ D, ca c = some D ∧ ExnC K D ∧ PySem.W.kitOne K (.ref D) (.ref xa.InvalidDeed) = some k
  mx_InvalidCommand : mg "InvalidCommand" = some (.ref xa.InvalidCommand)
  is_InvalidCommand : ∀ c k, sub_InvalidCommand c = some k → ∃ D, ca c = some D ∧ ExnC K D ∧ PySem.W.kitOne K (.ref D) (.ref xa.InvalidCommand) = some k
  mx_Impossible : mg "Impossible" = some (.ref xa.Impossible)
  is_Impossible : ∀ c k, sub_Impossible c = some k → ∃ D, ca c = some D ∧ ExnC K D ∧ PySem.W.kitOne K (.ref D) (.ref xa.Impossible) = some k
  mx_NotKnown : mg "NotKnown" = some (.ref xa.NotKnown)
  is_NotKnown : ∀ c k, sub_NotKnown c = some k → ∃ D, ca c = some D ∧ ExnC K D ∧ PySem.W.kitOne K (.ref D) (.ref xa.NotKnown) = some k
  mx_LimitBroken : mg "LimitBroken" = some (.ref xa.LimitBroken)
  is_LimitBroken : ∀ c k, sub_LimitBroken c = some k → ∃ D, ca c = some D ∧ ExnC K D ∧ PySem.W.kitOne K (.ref D) (.ref xa.LimitBroken) = some k
  mx_NothingToUndo : mg "NothingToUndo" = some (.ref xa.NothingToUndo)
  is_NothingToUndo : ∀ c k, sub_NothingToUndo c = some k → ∃ D, ca c = some D ∧ ExnC K D ∧ PySem.W.kitOne K (.ref D) (.ref xa.NothingToUndo) = some k
  mx_TooMany : mg "TooMany" = some (.ref xa.TooMany)
  is_TooMany : ∀ c k, sub_TooMany c = some k → ∃ D, ca c = some D ∧ ExnC K D ∧ PySem.W.kitOne K (.ref D) (.ref xa.TooMany) = some k
  mx_CountError : mg "CountError" = some (.ref xa.CountError)
  is_CountError : ∀ c k, sub_CountError c = some k → ∃ D, ca c = some D ∧ ExnC K D ∧ PySem.W.kitOne K (.ref D) (.ref xa.CountError) = some k
  mx_SearchError : mg "SearchError" = some (.ref xa.SearchError)
  is_SearchError : ∀ c k, sub_SearchError c = some k → ∃ D, ca c = some D ∧ ExnC K D ∧ PySem.W.kitOne K (.ref D) (.ref xa.SearchError) = some k
  mx_LimitError : mg "LimitError" = some (.ref xa.LimitError)
  is_LimitError : ∀ c k, sub_LimitError c = some k → ∃ D, ca c = some D ∧ ExnC K D ∧ PySem.W.kitOne K (.ref D) (.ref xa.LimitError) = some k
  is_ValueError : ∀ c k, sub_ValueError c = some k → ∃ D, ca c = some D ∧ ExnC K D ∧ PySem.W.kitOne K (.ref D) (.type "ValueError") = some k
  is_LookupError : ∀ c k, sub_LookupError c = some k → ∃ D, ca c = some D ∧ ExnC K D ∧ PySem.W.kitOne K (.ref D) (.type "LookupError") = some k
  is_ArithmeticError : ∀ c k, sub_ArithmeticError c = some k → ∃ D, ca c = some D ∧ ExnC K D ∧ PySem.W.kitOne K (.ref D) (.type "ArithmeticError") = some k
  cx_InvalidCounts : ca "InvalidCounts" = some xa.InvalidCounts
  xb_InvalidCounts : OxB K xa.InvalidCounts
  xn_InvalidCounts_tick : PySem.W.findIn K (.ref xa.InvalidCounts) "tick" = some none
  cx_NotCounts : ca "NotCounts" = some xa.NotCounts
  xb_NotCounts : OxB K xa.NotCounts
  xn_NotCounts_value : PySem.W.findIn K (.ref xa.NotCounts) "value" = some none
  ct_CountError_SearchError_LimitError : ∀ c D, ca c = some D → ct_CountError_SearchError_LimitError c = some true → PySem.W.exmAny K (.ref D) [.ref xa.CountError, .ref xa.SearchError, .ref xa.LimitError] = some true
  xf_index : ∀ c ∈ xc_index, ∃ D, ca c = some D ∧ ExnC K D ∧ PySem.W.findIn K (.ref D) "index" = some none
  xf_length : ∀ c ∈ xc_length, ∃ D, ca c = some D ∧ ExnC K D ∧ PySem.W.findIn K (.ref D) "length" = some none
  xf_limit : ∀ c ∈ xc_limit, ∃ D, ca c = some D ∧ ExnC K D ∧ PySem.W.findIn K (.ref D) "limit" = some none
  xf_name : ∀ c ∈ xc_name, ∃ D, ca c = some D ∧ ExnC K D ∧ PySem.W.findIn K (.ref D) "name" = some none
  xf_number : ∀ c ∈ xc_number, ∃ D, ca c = some D ∧ ExnC K D ∧ PySem.W.findIn K (.ref D) "number" = some none
  xf_text : ∀ c ∈ xc_text, ∃ D, ca c = some D ∧ ExnC K D ∧ PySem.W.findIn K (.ref D) "text" = some none
  xf_tick : ∀ c ∈ xc_tick, ∃ D, ca c = some D ∧ ExnC K D ∧ PySem.W.findIn K (.ref D) "tick" = some none
  xf_value : ∀ c ∈ xc_value, ∃ D, ca c = some D ∧ ExnC K D ∧ PySem.W.findIn K (.ref D) "value" = some none
  xf_word : ∀ c ∈ xc_word, ∃ D, ca c = some D ∧ ExnC K D ∧ PySem.W.findIn K (.ref D) "word" = some none
  c_eNC : ∃ fA fd, Cal_eNC K mg base tb C xa fA fd
  c_eIC : ∃ fA fd, Cal_eIC K mg base tb C xa fA fd
  c_ii : ∃ fA fd, Cal_ii K mg base tb C xa fA fd
  c_pra : ∃ fA fd, Cal_pra K mg base tb C xa fA fd
  c_ckc : ∃ fA fd, Cal_ckc K mg base tb C xa fA fd
  c_cl : ∃ fA fd, Cal_cl K mg base tb C xa fA fd
  c_inu : ∃ fA fd, Cal_inu K mg base tb C xa fA fd
  c_cn : ∃ fA fd, Cal_cn K mg base tb C xa fA fd
  c_ini : ∃ fA fd, Cal_ini K mg base tb C xa fA fd
  c_pre : ∃ fA fd, Cal_pre K mg base tb C xa fA fd
  c_peo : ∃ fA fd, Cal_peo K mg base tb C xa fA fd
  c_len : ∃ fA fd, Cal_len K mg base tb C xa fA fd
  c_row : ∃ fA fd, Cal_row K mg base tb C xa fA fd
  c_tab : ∃ fA fd, Cal_tab K mg base tb C xa fA fd
  c_cell : ∃ fA fd, Cal_cell K mg base tb C xa fA fd
  c_pool : ∃ fA fd, Cal_pool K mg base tb C xa fA fd
  c_draw : ∃ fA fd, Cal_draw K mg base tb C xa fA fd
  c_flows : ∃ fA fd, Cal_flows K mg base tb C xa fA fd
  c_small : ∃ fA fd, Cal_small K mg base tb C xa fA fd
  c_great : ∃ fA fd, Cal_great K mg base tb C xa fA fd
  c_rest : ∃ fA fd, Cal_rest K mg base tb C xa fA fd
  c_error : ∃ fA fd, Cal_error K mg base tb C xa fA fd
  c_any : ∃ fA fd, Cal_any K mg base tb C xa fA fd
  c_field : ∃ fA fd, Cal_field K mg base tb C xa fA fd
  c_caught : ∃ fA fd, Cal_caught K mg base tb C xa fA fd
  c_lrow : ∃ fA fd, Cal_lrow K mg base tb C xa fA fd
  c_due : ∃ fA fd, Cal_due K mg base tb C xa fA fd
  c_right : ∃ fA fd, Cal_right K mg base tb C xa fA fd
  c_law : ∃ fA fd, Cal_law K mg base tb C xa fA fd
section
variable {Pg : Program} {w : World} {K : PySem.W.Frag} {mg : Str → Option Value} {base : Heap} {tb : Tb} {ca : Str → Option Addr} {C : Addr} {xa : XA}
theorem Txt.cs (T : Txt K mg base tb ca C xa) : ∀ c ∈ cs, ∃ C, ca c = some C ∧ OwnC K C := fun c hc => by
  rw [List.mem_singleton.mp hc]
  exact ⟨C, T.caC, T.oCC⟩
/-! NotCounts.__init__ -/
theorem sc_eNC : FnScope ["self", "value"] ["self", "value"] (defScope s_eNC) := ⟨rfl, rfl, rfl, by decide +kernel, rfl, by decide +kernel, by decide +kernel⟩
theorem ok_eNC {fA : Addr} {fd : FuncData} (T : Txt K mg base tb ca C xa) (F : Fun K "__init__" "NotCounts.__init__" s_eNC fA fd) : FnG Pg w K mg base 1 fA fd ["self", "value"] (spXI xa.NotCounts ["value"]) := fn_x1 T.xb_NotCounts F sc_eNC rfl T.xn_NotCounts_value (Or.inl rfl) (Or.inl rfl) (by decide) (by decide) (by decide) (by decide)
/-! InvalidCounts.__init__ -/
theorem sc_eIC : FnScope ["self", "tick"] ["self", "tick"] (defScope s_eIC) := ⟨rfl, rfl, rfl, by decide +kernel, rfl, by decide +kernel, by decide +kernel⟩
theorem ok_eIC {fA : Addr} {fd : FuncData} (T : Txt K mg base tb ca C xa) (F : Fun K "__init__" "InvalidCounts.__init__" s_eIC fA fd) : FnG Pg w K mg base 1 fA fd ["self", "tick"] (spXI xa.InvalidCounts ["tick"]) := fn_x1 T.xb_InvalidCounts F sc_eIC rfl T.xn_InvalidCounts_tick (Or.inl rfl) (Or.inl rfl) (by decide) (by decide) (by decide) (by decide)
/-! is_integer_from -/
theorem sc_ii : FnScope ["value", "low", "high"] ["value", "low", "high"] (defScope s_ii) := ⟨rfl, rfl, rfl, by decide +kernel, rfl, by decide +kernel, by decide +kernel⟩
def f_ii : FS := (retS (andV (un1 (isiD (tyK "int") (inst0 cs)) (nm 0)) (andV (notV (un1 (isiD (tyK "bool") (inst0 cs)) (nm 0))) (chn leD leD (nm 1) (nm 0) (nm 2)))))
abbrev F_ii := runF 3 3 f_ii
theorem ok_ii {fA : Addr} {fd : FuncData} (T : Txt K mg base tb ca C xa) (F : Fun K "is_integer_from" "is_integer_from" s_ii fA fd) : FnG Pg w K mg base 1 fA fd ["value", "low", "high"] (spF K ca tb F_ii) := by
  refine fn_d (N := ["value", "low", "high"]) (OO := []) F sc_ii fun cdv A outer s H E hr => ?_
  have hu := hr.r.units
  have hgu := hr.g
  exact (pss_oneD (psd_ret ((pd_and rfl (pd_isB "int" (by decide) cs T.cs rfl (T.free _ (by decide +kernel)) (T.free _ (by decide +kernel)) boot_int (pd_name 0).pb) (pd_and rfl (pd_not rfl (pd_isB "bool" (by decide) cs T.cs rfl (T.free _ (by decide +kernel)) (T.free _ (by decide +kernel)) boot_bool (pd_name 0).pb).pb) (pd_one (pd_chain op_le op_le op2_le op2_le (pd_name 1).pb (pd_name 0).pb (pd_name 2).pb)))))))
/-! present_after -/
theorem sc_pra : FnScope ["arrivals", "departures", "present", "numbers", "arriving", "leaving"] ["arrivals", "departures"] (defScope s_pra) := ⟨rfl, rfl, rfl, by decide +kernel, rfl, by decide +kernel, by decide +kernel⟩
def f_pra : FS := (seqS (asgS (fun _ S => R.ok (.int 0, S)) (nmG 2))
  (seqS (ownS 3 (lstF nilA))
  (seqS (forS (rngI zip2D (consA (nm 0) (consA (nm 1) nilA))) (tupG 2 (consG (nmG 4) (consG (nmG 5) nilG))) (seqS (asgS (bin2 subD (bin2 addD (nm 2) (nm 4)) (nm 5)) (nmG 2))
  (appS 3 (nm 2))))
  (retS (callE tupD (consA (nm 3) nilA))))))
abbrev F_pra := runF 6 2 f_pra
theorem ok_pra {fA : Addr} {fd : FuncData} (T : Txt K mg base tb ca C xa) (F : Fun K "present_after" "present_after" s_pra fA fd) : FnG Pg w K mg base 1 fA fd ["arrivals", "departures"] (spF K ca tb F_pra) := by
  refine fn_d (N := ["arrivals", "departures", "present", "numbers", "arriving", "leaving"]) (OO := []) F sc_pra fun cdv A outer s H E hr => ?_
  have hu := hr.r.units
  have hgu := hr.g
  exact (pss_consD (psd_set 2 sc_pra.nd notplN (pd_int))
    (pss_consD (psd_own 3 sc_pra.nd notplN (pf_lst pad_nil))
    (pss_consD (psd_for PassesOwn.never rfl (pid_zip rfl (pzd_zip2 rfl (T.free _ (by decide +kernel)) (pad_cons (pd_name 0) (pad_cons (pd_name 1) pad_nil)))) (pgd_tup rfl rfl (pgsd_cons (pgd_name 4 sc_pra.nd notplN) (pgsd_cons (pgd_name 5 sc_pra.nd notplN) pgsd_nil))) (pss_consD (psd_set 2 sc_pra.nd notplN (pd_sub (pd_add rfl (pd_name 2).pb (pd_name 4).pb).pb (pd_name 5).pb))
    (pss_oneD (psd_append 3 rfl (pd_name 2)))))
    (pss_oneD (psd_ret (pd_tuple rfl (T.free _ (by decide +kernel)) (pba_cons (pb_own 3) pba_nil)))))))
/-! check_counts -/
theorem sc_ckc : FnScope ["value"] ["value"] (defScope s_ckc) := ⟨rfl, rfl, rfl, by decide +kernel, rfl, by decide +kernel, by decide +kernel⟩
def f_ckc : FS := (ifS (notT (tst (un1 (isiD (fun t => if t ∈ known then some false else none) (inst1 [] "Counts")) (nm 0)))) (raiseS "NotCounts" ["value"] (consA (nm 0) nilA)) nxS)
abbrev F_ckc := runF 1 1 f_ckc
theorem ok_ckc {fA : Addr} {fd : FuncData} (T : Txt K mg base tb ca C xa) (F : Fun K "check_counts" "check_counts" s_ckc fA fd) : FnX Pg w K mg base 3 fA fd ["value"] (spX K ca tb F_ckc) := by
  obtain ⟨_, _, c_eNC⟩ := T.c_eNC
  refine fn_x (N := ["value"]) (OO := []) F sc_ckc fun cdv A outer s H E bs EX hr tk => ?_
  have hu := hr.r.units
  have hgu := hr.g
  exact (pss_oneD (psd_if (ptd_not (pt_tru rfl (pd_isC "Counts" T.caC T.oCC [] (by intro _ h; cases h) rfl (T.free _ (by decide +kernel)) T.mgC (pd_name 0).pb).pb)) (pss_oneD (psd_raise rfl tk T.cx_NotCounts T.xb_NotCounts c_eNC.iC c_eNC.fn (ok_eNC T c_eNC.F) (hr.mono (by decide)) c_eNC.b T.mx_NotCounts (pad_cons (pd_name 0) pad_nil))) pss_nilD))
/-! _check_lengths -/
theorem sc_cl : FnScope ["arrivals", "departures"] ["arrivals", "departures"] (defScope s_cl) := ⟨rfl, rfl, rfl, by decide +kernel, rfl, by decide +kernel, by decide +kernel⟩
def f_cl : FS := (seqS (ifS (orT (notT (tst (un1 (isiD (tyK "tuple") (inst0 cs)) (nm 0)))) (notT (tst (un1 (isiD (tyK "tuple") (inst0 cs)) (nm 1))))) (raiseS "InvalidCounts" ["tick"] (consA (fun _ S => R.ok (.non, S)) nilA)) nxS)
  (ifS (orT (tstB (bin2 neD (callE lenD (consA (nm 0) nilA)) (callE lenD (consA (nm 1) nilA)))) (notT (tstB (chn leD leD (fun _ S => R.ok (.int 1, S)) (callE lenD (consA (nm 0) nilA)) (fun _ S => R.ok (.int 60, S)))))) (raiseS "InvalidCounts" ["tick"] (consA (fun _ S => R.ok (.non, S)) nilA)) nxS))
abbrev F_cl := runF 2 2 f_cl
theorem ok_cl {fA : Addr} {fd : FuncData} (T : Txt K mg base tb ca C xa) (F : Fun K "_check_lengths" "_check_lengths" s_cl fA fd) : FnX Pg w K mg base 3 fA fd ["arrivals", "departures"] (spX K ca tb F_cl) := by
  obtain ⟨_, _, c_eIC⟩ := T.c_eIC
  refine fn_x (N := ["arrivals", "departures"]) (OO := []) F sc_cl fun cdv A outer s H E bs EX hr tk => ?_
  have hu := hr.r.units
  have hgu := hr.g
  exact (pss_consD (psd_if (PWd.pt (ptw_or (ptd_not (pt_tru rfl (pd_isB "tuple" (by decide) cs T.cs rfl (T.free _ (by decide +kernel)) (T.free _ (by decide +kernel)) (by decide +kernel) (pd_name 0).pb).pb)) (ptw_or1 (ptd_not (pt_tru rfl (pd_isB "tuple" (by decide) cs T.cs rfl (T.free _ (by decide +kernel)) (T.free _ (by decide +kernel)) (by decide +kernel) (pd_name 1).pb).pb))))) (pss_oneD (psd_raise rfl tk T.cx_InvalidCounts T.xb_InvalidCounts c_eIC.iC c_eIC.fn (ok_eIC T c_eIC.F) (hr.mono (by decide)) c_eIC.b T.mx_InvalidCounts (pad_cons (pd_non) pad_nil))) pss_nilD)
    (pss_oneD (psd_if (PWd.pt (ptw_or (pt_ne rfl hu (pd_len rfl (T.free _ (by decide +kernel)) (pba_cons (pd_name 0).pb pba_nil)).pb (pd_len rfl (T.free _ (by decide +kernel)) (pba_cons (pd_name 1).pb pba_nil)).pb) (ptw_or1 (ptd_not (pt_chain1 op_le op_le op2_le op2_le (pd_int).pb (pd_len rfl (T.free _ (by decide +kernel)) (pba_cons (pd_name 0).pb pba_nil)).pb (pd_cval T.mgC T.rdC T.cv_MAX_TICKS.choose_spec (fun _ => .int _)).pb))))) (pss_oneD (psd_raise rfl tk T.cx_InvalidCounts T.xb_InvalidCounts c_eIC.iC c_eIC.fn (ok_eIC T c_eIC.F) (hr.mono (by decide)) c_eIC.b T.mx_InvalidCounts (pad_cons (pd_non) pad_nil))) pss_nilD)))
/-! _is_number -/
theorem sc_inu : FnScope ["value"] ["value"] (defScope s_inu) := ⟨rfl, rfl, rfl, by decide +kernel, rfl, by decide +kernel, by decide +kernel⟩
def f_inu : FS := (retS (callD F_ii [] (consA (nm 0) (consA (fun _ S => R.ok (.int 0, S)) (consA (fun _ S => R.ok (.int 999, S)) nilA)))))
abbrev F_inu := runF 1 1 f_inu
theorem ok_inu {fA : Addr} {fd : FuncData} (T : Txt K mg base tb ca C xa) (F : Fun K "_is_number" "_is_number" s_inu fA fd) : FnG Pg w K mg base 2 fA fd ["value"] (spF K ca tb F_inu) := by
  obtain ⟨_, _, c_ii⟩ := T.c_ii
  refine fn_d (N := ["value"]) (OO := []) F sc_inu fun cdv A outer s H E hr => ?_
  have hu := hr.r.units
  have hgu := hr.g
  exact (pss_oneD (psd_ret (pd_call (ok_ii T c_ii.F) (hr.mono (by decide)) c_ii.m c_ii.k c_ii.b .nil (fun _ => .nil) (pad_cons (pd_name 0) (pad_cons (pd_int) (pad_cons (pd_cval T.mgC T.rdC T.cv_MAX_PEOPLE.choose_spec (fun _ => .int _)) pad_nil))))))
/-! _check_numbers -/
theorem sc_cn : FnScope ["arrivals", "departures", "people", "present", "tick", "arriving", "leaving"] ["arrivals", "departures"] (defScope s_cn) := ⟨rfl, rfl, rfl, by decide +kernel, rfl, by decide +kernel, by decide +kernel⟩
def f_cn : FS := (seqS (asgS (fun _ S => R.ok (.int 0, S)) (nmG 2))
  (seqS (asgS (fun _ S => R.ok (.int 0, S)) (nmG 3))
  (forS (enI (rngI zip2D (consA (nm 0) (consA (nm 1) nilA)))) (tupG 2 (consG (nmG 4) (consG (tupG 2 (consG (nmG 5) (consG (nmG 6) nilG))) nilG))) (seqS (ifS (orT (notT (tst (callD F_inu [] (consA (nm 5) nilA)))) (notT (tst (callD F_inu [] (consA (nm 6) nilA))))) (raiseS "InvalidCounts" ["tick"] (consA (nm 4) nilA)) nxS)
  (seqS (asgS (bin2 addD (nm 2) (nm 5)) (nmG 2))
  (seqS (asgS (bin2 subD (bin2 addD (nm 3) (nm 5)) (nm 6)) (nmG 3))
  (ifS (orT (tstB (bin2 gtD (nm 2) (fun _ S => R.ok (.int 999, S)))) (tstB (bin2 ltD (nm 3) (fun _ S => R.ok (.int 0, S))))) (raiseS "InvalidCounts" ["tick"] (consA (nm 4) nilA)) nxS)))))))
abbrev F_cn := runF 7 2 f_cn
theorem ok_cn {fA : Addr} {fd : FuncData} (T : Txt K mg base tb ca C xa) (F : Fun K "_check_numbers" "_check_numbers" s_cn fA fd) : FnX Pg w K mg base 3 fA fd ["arrivals", "departures"] (spX K ca tb F_cn) := by
  obtain ⟨_, _, c_inu⟩ := T.c_inu
  obtain ⟨_, _, c_eIC⟩ := T.c_eIC
  refine fn_x (N := ["arrivals", "departures", "people", "present", "tick", "arriving", "leaving"]) (OO := []) F sc_cn fun cdv A outer s H E bs EX hr tk => ?_
  have hu := hr.r.units
  have hgu := hr.g
  exact (pss_consD (psd_set 2 sc_cn.nd notplN (pd_int))
    (pss_consD (psd_set 3 sc_cn.nd notplN (pd_int))
    (pss_oneD (psd_for passes_cx rfl (pid_enumz rfl (T.free _ (by decide +kernel)) (pzd_zip2 rfl (T.free _ (by decide +kernel)) (pad_cons (pd_name 0) (pad_cons (pd_name 1) pad_nil)))) (pgd_tup rfl rfl (pgsd_cons (pgd_name 4 sc_cn.nd notplN) (pgsd_cons (pgd_tup rfl rfl (pgsd_cons (pgd_name 5 sc_cn.nd notplN) (pgsd_cons (pgd_name 6 sc_cn.nd notplN) pgsd_nil))) pgsd_nil))) (pss_consD (psd_if (PWd.pt (ptw_or (ptd_not (pt_tru rfl (pd_call (ok_inu T c_inu.F) (hr.mono (by decide)) c_inu.m c_inu.k c_inu.b .nil (fun _ => .nil) (pad_cons (pd_name 5) pad_nil)).pb)) (ptw_or1 (ptd_not (pt_tru rfl (pd_call (ok_inu T c_inu.F) (hr.mono (by decide)) c_inu.m c_inu.k c_inu.b .nil (fun _ => .nil) (pad_cons (pd_name 6) pad_nil)).pb))))) (pss_oneD (psd_raise rfl tk T.cx_InvalidCounts T.xb_InvalidCounts c_eIC.iC c_eIC.fn (ok_eIC T c_eIC.F) (hr.mono (by decide)) c_eIC.b T.mx_InvalidCounts (pad_cons (pd_name 4) pad_nil))) pss_nilD)
    (pss_consD (psd_set 2 sc_cn.nd notplN (pd_add rfl (pd_name 2).pb (pd_name 5).pb))
    (pss_consD (psd_set 3 sc_cn.nd notplN (pd_sub (pd_add rfl (pd_name 3).pb (pd_name 5).pb).pb (pd_name 6).pb))
    (pss_oneD (psd_if (PWd.pt (ptw_or (pt_gt (pd_name 2).pb (pd_cval T.mgC T.rdC T.cv_MAX_PEOPLE.choose_spec (fun _ => .int _)).pb) (ptw_or1 (pt_lt (pd_name 3).pb (pd_int).pb)))) (pss_oneD (psd_raise rfl tk T.cx_InvalidCounts T.xb_InvalidCounts c_eIC.iC c_eIC.fn (ok_eIC T c_eIC.F) (hr.mono (by decide)) c_eIC.b T.mx_InvalidCounts (pad_cons (pd_name 4) pad_nil))) pss_nilD)))))))))
/-! Counts.__init__ -/
theorem sc_ini : FnScope ["self", "arrivals", "departures"] ["self", "arrivals", "departures"] (defScope s_ini) := ⟨rfl, rfl, rfl, by decide +kernel, rfl, by decide +kernel, by decide +kernel⟩
def nm_ini : List Str := ["arrivals", "departures"]
def f_ini : FS := (seqS (exprS (callX F_cl [] (consA (nm 1) (consA (nm 2) nilA))))
  (seqS (exprS (callX F_cn [] (consA (nm 1) (consA (nm 2) nilA))))
  (seqS (slfS nm_ini "arrivals" (nm 1))
  (slfS nm_ini "departures" (nm 2)))))
abbrev F_ini := runI nm_ini 3 3 f_ini
theorem ok_ini {fA : Addr} {fd : FuncData} (T : Txt K mg base tb ca C xa) (F : Fun K "__init__" "Counts.__init__" s_ini fA fd) : FnX Pg w K mg base 4 fA fd ["self", "arrivals", "departures"] (spIX K ca tb C nm_ini F_ini) := by
  obtain ⟨_, _, c_cl⟩ := T.c_cl
  obtain ⟨_, _, c_cn⟩ := T.c_cn
  refine fn_ix (N := ["self", "arrivals", "departures"]) (OO := []) F sc_ini (by decide) fun cdv A outer s H E p dx bs EX hr tk => ?_
  have hu := hr.r.units
  have hgu := hr.g
  exact (pss_consD (psd_expr (pd_callX tk (ok_cl T c_cl.F) (hr.mono (by decide)) c_cl.m c_cl.k c_cl.b .nil (fun _ => .nil) (pad_cons (pd_name 1) (pad_cons (pd_name 2) pad_nil))))
    (pss_consD (psd_expr (pd_callX tk (ok_cn T c_cn.F) (hr.mono (by decide)) c_cn.m c_cn.k c_cn.b .nil (fun _ => .nil) (pad_cons (pd_name 1) (pad_cons (pd_name 2) pad_nil))))
    (pss_consD (psd_slf 0 rfl ⟨_, rfl⟩ rfl T.clC T.na_arrivals (pd_name 1))
    (pss_oneD (psd_slf 0 rfl ⟨_, rfl⟩ rfl T.clC T.na_departures (pd_name 2))))))
/-! Counts.present -/
theorem sc_pre : FnScope ["self"] ["self"] (defScope s_pre) := ⟨rfl, rfl, rfl, by decide +kernel, rfl, by decide +kernel, by decide +kernel⟩
def f_pre : FS := (retS (callD F_pra [] (consA (un1 (fldD "Counts" "arrivals") (nm 0)) (consA (un1 (fldD "Counts" "departures") (nm 0)) nilA))))
abbrev F_pre := runF 1 1 f_pre
theorem ok_pre {fA : Addr} {fd : FuncData} (T : Txt K mg base tb ca C xa) (F : Fun K "present" "Counts.present" s_pre fA fd) : FnG Pg w K mg base 2 fA fd ["self"] (spF K ca tb F_pre) := by
  obtain ⟨_, _, c_pra⟩ := T.c_pra
  refine fn_d (N := ["self"]) (OO := []) F sc_pre fun cdv A outer s H E hr => ?_
  have hu := hr.r.units
  have hgu := hr.g
  exact (pss_oneD (psd_ret (pd_call (ok_pra T c_pra.F) (hr.mono (by decide)) c_pra.m c_pra.k c_pra.b .nil (fun _ => .nil) (pad_cons (pd_fld rfl T.caC T.clC T.na_arrivals (pd_name 0)) (pad_cons (pd_fld rfl T.caC T.clC T.na_departures (pd_name 0)) pad_nil)))))
/-! Counts.people -/
theorem sc_peo : FnScope ["self"] ["self"] (defScope s_peo) := ⟨rfl, rfl, rfl, by decide +kernel, rfl, by decide +kernel, by decide +kernel⟩
def f_peo : FS := (retS (callE sumA (consA (un1 (fldD "Counts" "arrivals") (nm 0)) nilA)))
abbrev F_peo := runF 1 1 f_peo
theorem ok_peo {fA : Addr} {fd : FuncData} (T : Txt K mg base tb ca C xa) (F : Fun K "people" "Counts.people" s_peo fA fd) : FnG Pg w K mg base 1 fA fd ["self"] (spF K ca tb F_peo) := by
  refine fn_d (N := ["self"]) (OO := []) F sc_peo fun cdv A outer s H E hr => ?_
  have hu := hr.r.units
  have hgu := hr.g
  exact (pss_oneD (psd_ret (pd_sumA rfl rfl (T.free _ (by decide +kernel)) (pba_cons (pd_fld rfl T.caC T.clC T.na_arrivals (pd_name 0)).pb pba_nil))))
/-! Counts.__len__ -/
theorem sc_len : FnScope ["self"] ["self"] (defScope s_len) := ⟨rfl, rfl, rfl, by decide +kernel, rfl, by decide +kernel, by decide +kernel⟩
def f_len : FS := (retS (callE lenD (consA (un1 (fldD "Counts" "arrivals") (nm 0)) nilA)))
abbrev F_len := runF 1 1 f_len
theorem ok_len {fA : Addr} {fd : FuncData} (T : Txt K mg base tb ca C xa) (F : Fun K "__len__" "Counts.__len__" s_len fA fd) : FnG Pg w K mg base 1 fA fd ["self"] (spF K ca tb F_len) := by
  refine fn_d (N := ["self"]) (OO := []) F sc_len fun cdv A outer s H E hr => ?_
  have hu := hr.r.units
  have hgu := hr.g
  exact (pss_oneD (psd_ret (pd_len rfl (T.free _ (by decide +kernel)) (pba_cons (pd_fld rfl T.caC T.clC T.na_arrivals (pd_name 0)).pb pba_nil))))
/-! _row -/
theorem sc_row : FnScope ["tick", "arriving", "leaving", "staying"] ["tick", "arriving", "leaving", "staying"] (defScope s_row) := ⟨rfl, rfl, rfl, by decide +kernel, rfl, by decide +kernel, by decide +kernel⟩
def f_row : FS := (retS (jnE (consJ (un1 (fmtS 4) (nm 0)) (consJ (un1 (fmtS 6) (nm 1)) (consJ (un1 (fmtS 6) (nm 2)) (consJ (un1 (fmtS 8) (nm 3)) nilJ))))))
abbrev F_row := runF 4 4 f_row
theorem ok_row {fA : Addr} {fd : FuncData} (T : Txt K mg base tb ca C xa) (F : Fun K "_row" "_row" s_row fA fd) : FnG Pg w K mg base 1 fA fd ["tick", "arriving", "leaving", "staying"] (spF K ca tb F_row) := by
  refine fn_d (N := ["tick", "arriving", "leaving", "staying"]) (OO := []) F sc_row fun cdv A outer s H E hr => ?_
  have hu := hr.r.units
  have hgu := hr.g
  exact (pss_oneD (psd_ret (pd_joined (pjd_cons (pd_fmtS 4 (by decide) rfl (pd_name 0)) (pjd_cons (pd_fmtS 6 (by decide) rfl (pd_name 1)) (pjd_cons (pd_fmtS 6 (by decide) rfl (pd_name 2)) (pjd_cons (pd_fmtS 8 (by decide) rfl (pd_name 3)) pjd_nil)))))))
/-! table -/
theorem sc_tab : FnScope ["counts", "totals", "present", "rows", "tick"] ["counts", "totals"] (defScope s_tab) := ⟨rfl, rfl, rfl, by decide +kernel, rfl, by decide +kernel, by decide +kernel⟩
def f_tab : FS := (seqS (exprS (callX F_ckc [] (consA (nm 0) nilA)))
  (seqS (asgS (propD "Counts" F_pre (nm 0)) (nmG 2))
  (seqS (ownS 3 (lstF (consA (callD F_row [] (consA (fun _ S => R.ok (.str "tick", S)) (consA (fun _ S => R.ok (.str "in", S)) (consA (fun _ S => R.ok (.str "out", S)) (consA (fun _ S => R.ok (.str "present", S)) nilA))))) nilA)))
  (seqS (forS (rngI rng1D (consA (lenC "Counts" (F_len) (nm 0)) nilA)) (nmG 4) (appS 3 (callD F_row [] (consA (nm 4) (consA (bin2 idxD (un1 (fldD "Counts" "arrivals") (nm 0)) (nm 4)) (consA (bin2 idxD (un1 (fldD "Counts" "departures") (nm 0)) (nm 4)) (consA (bin2 idxD (nm 2) (nm 4)) nilA)))))))
  (seqS (ifS (tst (nm 1)) (appS 3 (callD F_row [] (consA (fun _ S => R.ok (.str "all", S)) (consA (propD "Counts" F_peo (nm 0)) (consA (callE sumA (consA (un1 (fldD "Counts" "departures") (nm 0)) nilA)) (consA (bin2 idxD (nm 2) (un1 negD (fun _ S => R.ok (.int 1, S)))) nilA)))))) nxS)
  (retS (mthE "str" joinD (fun _ S => R.ok (.str "
", S)) (consA (nm 3) nilA))))))))
abbrev F_tab := runF 5 2 f_tab
theorem ok_tab {fA : Addr} {fd : FuncData} (T : Txt K mg base tb ca C xa) (F : Fun K "table" "table" s_tab fA fd) : FnX Pg w K mg base 4 fA fd ["counts", "totals"] (spX K ca tb F_tab) := by
  obtain ⟨_, _, c_ckc⟩ := T.c_ckc
  obtain ⟨_, _, c_pre⟩ := T.c_pre
  obtain ⟨_, _, c_row⟩ := T.c_row
  obtain ⟨_, _, c_len⟩ := T.c_len
  obtain ⟨_, _, c_peo⟩ := T.c_peo
  refine fn_x (N := ["counts", "totals", "present", "rows", "tick"]) (OO := []) F sc_tab fun cdv A outer s H E bs EX hr tk => ?_
  have hu := hr.r.units
  have hgu := hr.g
  exact (pss_consD (psd_expr (pd_callX tk (ok_ckc T c_ckc.F) (hr.mono (by decide)) c_ckc.m c_ckc.k c_ckc.b .nil (fun _ => .nil) (pad_cons (pd_name 0) pad_nil)))
    (pss_consD (psd_set 2 sc_tab.nd notplN (pd_prop T.caC T.clC c_pre.p.choose_spec (ok_pre T c_pre.F) (hr.mono (by decide)) c_pre.b (pd_name 0)))
    (pss_consD (psd_own 3 sc_tab.nd notplN (pf_lst (pad_cons (pd_call (ok_row T c_row.F) (hr.mono (by decide)) c_row.m c_row.k c_row.b .nil (fun _ => .nil) (pad_cons (pd_str) (pad_cons (pd_str) (pad_cons (pd_str) (pad_cons (pd_str) pad_nil))))) pad_nil)))
    (pss_consD (psd_for passes_cx rfl (pid_range1 (T.free _ (by decide +kernel)) (pad_cons (pd_lenC rfl (T.free _ (by decide +kernel)) T.caC c_len.at_ c_len.fn (ok_len T c_len.F) (hr.mono (by decide)) c_len.b (pd_name 0)) pad_nil)) (pgd_name 4 sc_tab.nd notplN) (pss_oneD (psd_append 3 rfl (pd_call (ok_row T c_row.F) (hr.mono (by decide)) c_row.m c_row.k c_row.b .nil (fun _ => .nil) (pad_cons (pd_name 4) (pad_cons (pd_idx rfl (pd_fld rfl T.caC T.clC T.na_arrivals (pd_name 0)).pb (pd_name 4)) (pad_cons (pd_idx rfl (pd_fld rfl T.caC T.clC T.na_departures (pd_name 0)).pb (pd_name 4)) (pad_cons (pd_idx rfl (pd_name 2).pb (pd_name 4)) pad_nil))))))))
    (pss_consD (psd_if (pt_tru rfl (pd_name 1).pb) (pss_oneD (psd_append 3 rfl (pd_call (ok_row T c_row.F) (hr.mono (by decide)) c_row.m c_row.k c_row.b .nil (fun _ => .nil) (pad_cons (pd_str) (pad_cons (pd_prop T.caC T.clC c_peo.p.choose_spec (ok_peo T c_peo.F) (hr.mono (by decide)) c_peo.b (pd_name 0)) (pad_cons (pd_sumA rfl rfl (T.free _ (by decide +kernel)) (pba_cons (pd_fld rfl T.caC T.clC T.na_departures (pd_name 0)).pb pba_nil)) (pad_cons (pd_idx rfl (pd_name 2).pb (pd_neg (pd_int).pb)) pad_nil))))))) pss_nilD)
    (pss_oneD (psd_ret (pd_join rfl (pd_str).pb (pba_cons (pb_own 3) pba_nil)))))))))
/-! _law_cell -/
theorem sc_cell : FnScope ["_law_cells", "_law_k", "_law_seed", "_law_part"] ["_law_cells", "_law_k"] (defScope s_cell) := ⟨rfl, rfl, rfl, by decide +kernel, rfl, by decide +kernel, by decide +kernel⟩
def f_cell : FS := (seqS (ifS (tstB (bin2 ltD (nm 1) (callE lenD (consA (nm 0) nilA)))) (retS (bin2 idxD (nm 0) (nm 1))) nxS)
  (seqS (asgS (bin2 modD (bin2 mulD (fun _ S => R.ok (.int 70009, S)) (bin2 addD (bin2 addD (bin2 mulD (nm 1) (nm 1)) (bin2 mulD (fun _ S => R.ok (.int 7, S)) (nm 1))) (fun _ S => R.ok (.int 19, S)))) (fun _ S => R.ok (.int 2147483179, S))) (nmG 2))
  (seqS (forS (seqI itemsL (slcE (nm 0) noneO (someO (fun _ S => R.ok (.int 3, S))))) (nmG 3) (asgS (bin2 modD (bin2 addD (bin2 mulD (nm 2) (fun _ S => R.ok (.int 42019, S))) (nm 3)) (fun _ S => R.ok (.int 2147483179, S))) (nmG 2)))
  (retS (nm 2)))))
abbrev F_cell := runF 4 2 f_cell
theorem ok_cell {fA : Addr} {fd : FuncData} (T : Txt K mg base tb ca C xa) (F : Fun K "_law_cell" "_law_cell" s_cell fA fd) : FnG Pg w K mg base 1 fA fd ["_law_cells", "_law_k"] (spF K ca tb F_cell) := by
  refine fn_d (N := ["_law_cells", "_law_k", "_law_seed", "_law_part"]) (OO := []) F sc_cell fun cdv A outer s H E hr => ?_
  have hu := hr.r.units
  have hgu := hr.g
  exact (pss_consD (psd_if (pt_lt (pd_name 1).pb (pd_len rfl (T.free _ (by decide +kernel)) (pba_cons (pd_name 0).pb pba_nil)).pb) (pss_oneD (psd_ret (pd_idx rfl (pd_name 0).pb (pd_name 1)))) pss_nilD)
    (pss_consD (psd_set 2 sc_cell.nd notplN (pd_mod (pd_mul rfl (pd_int).pb (pd_add rfl (pd_add rfl (pd_mul rfl (pd_name 1).pb (pd_name 1).pb).pb (pd_mul rfl (pd_int).pb (pd_name 1).pb).pb).pb (pd_int).pb).pb).pb (pd_int).pb))
    (pss_consD (psd_for PassesOwn.never rfl (pid_list rfl (pd_slc rfl (pd_name 0).pb pod_none (pod_some (pd_int)))) (pgd_name 3 sc_cell.nd notplN) (pss_oneD (psd_set 2 sc_cell.nd notplN (pd_mod (pd_add rfl (pd_mul rfl (pd_name 2).pb (pd_int).pb).pb (pd_name 3).pb).pb (pd_int).pb))))
    (pss_oneD (psd_ret (pd_name 2))))))
/-! _law_pool -/
theorem sc_pool : FnScope ["_law_cell_here", "_law_digits"] ["_law_cell_here"] (defScope s_pool) := ⟨rfl, rfl, rfl, by decide +kernel, rfl, by decide +kernel, by decide +kernel⟩
def f_pool : FA := (seqN (asgS (ifE (orT (tstB (bin2 ltD (nm 0) (fun _ S => R.ok (.int 0, S)))) (tstB (bin2 geD (nm 0) (bin2 powD (fun _ S => R.ok (.int 10, S)) (fun _ S => R.ok (.int 18, S)))))) (callE absD (consA (nm 0) nilA)) (fun _ S => R.ok (.int 0, S))) (nmG 1))
  (lstF (consA (bin2 modD (nm 0) (fun _ S => R.ok (.int 2147483179, S))) (consA (nm 1) (consA (fun _ S => R.ok (.int 0, S)) nilA)))))
abbrev F_pool := runN 2 1 f_pool
theorem ok_pool {fA : Addr} {fd : FuncData} (T : Txt K mg base tb ca C xa) (F : Fun K "_law_pool" "_law_pool" s_pool fA fd) : FnG Pg w K mg base 1 fA fd ["_law_cell_here"] (spN K ca tb F_pool) := by
  refine fn_n (N := ["_law_cell_here", "_law_digits"]) F sc_pool fun cdv A outer s H E hr => ?_
  have hu := hr.r.units
  have hgu := hr.g
  exact (psn_cons (psd_set 1 sc_pool.nd notplN (pd_ifE (PWd.pt (ptw_or (pt_lt (pd_name 0).pb (pd_int).pb) (ptw_or1 (pt_ge (pd_name 0).pb (pd_pow (pd_int).pb (pd_int).pb).pb)))) (pd_abs (T.free _ (by decide +kernel)) (pba_cons (pd_name 0).pb pba_nil)) (pd_int)))
    (psn_ret (pf_lst (pad_cons (pd_mod (pd_name 0).pb (pd_int).pb) (pad_cons (pd_name 1) (pad_cons (pd_int) pad_nil))))))
/-! _law_draw -/
theorem sc_draw : FnScope ["_law_pool_here", "_law_many", "_law_seed", "_law_digit"] ["_law_pool_here", "_law_many"] (defScope s_draw) := ⟨rfl, rfl, rfl, by decide +kernel, rfl, by decide +kernel, by decide +kernel⟩
def f_draw : FS := (seqS (asgS (bin2 addD (poolE 2) (fun _ S => R.ok (.int 1, S))) (poolG 2))
  (seqS (asgS (poolE 0) (nmG 2))
  (seqS (asgS (bin2 modD (bin2 addD (bin2 addD (bin2 mulD (nm 2) (bin2 addD (bin2 modD (nm 2) (fun _ S => R.ok (.int 40993, S))) (fun _ S => R.ok (.int 30013, S)))) (bin2 mulD (fun _ S => R.ok (.int 70001, S)) (poolE 2))) (fun _ S => R.ok (.int 9, S))) (fun _ S => R.ok (.int 2147483179, S))) (poolG 0))
  (seqS (ifS (tstB (bin2 gtD (poolE 1) (fun _ S => R.ok (.int 0, S)))) (seqS (asgS (callE divmodD (consA (poolE 1) (consA (nm 1) nilA))) (tupG 2 (consG (poolG 1) (consG (nmG 3) nilG))))
  (retS (nm 3))) nxS)
  (retS (bin2 modD (bin2 fdivD (poolE 0) (fun _ S => R.ok (.int 64, S))) (nm 1)))))))
abbrev F_draw := runP 4 2 f_draw
theorem ok_draw {fA : Addr} {fd : FuncData} (T : Txt K mg base tb ca C xa) (F : Fun K "_law_draw" "_law_draw" s_draw fA fd) : FnG Pg w K mg base 1 fA fd ["_law_pool_here", "_law_many"] (spP K ca tb F_draw) := by
  refine fn_p (N := ["_law_pool_here", "_law_many", "_law_seed", "_law_digit"]) (OO := []) F sc_draw (by decide) fun cdv A outer s H E p hr => ?_
  have hu := hr.r.units
  have hgu := hr.g
  exact (pss_consD (psd_asg (pd_add rfl (pd_pool 0 rfl rfl ⟨_, rfl⟩).pb (pd_int).pb) (pgd_pool 0 rfl ⟨_, rfl⟩))
    (pss_consD (psd_set 2 sc_draw.nd (notpl0 (by decide)) (pd_pool 0 rfl rfl ⟨_, rfl⟩))
    (pss_consD (psd_asg (pd_mod (pd_add rfl (pd_add rfl (pd_mul rfl (pd_name 2).pb (pd_add rfl (pd_mod (pd_name 2).pb (pd_int).pb).pb (pd_int).pb).pb).pb (pd_mul rfl (pd_int).pb (pd_pool 0 rfl rfl ⟨_, rfl⟩).pb).pb).pb (pd_int).pb).pb (pd_int).pb) (pgd_pool 0 rfl ⟨_, rfl⟩))
    (pss_consD (psd_if (pt_gt (pd_pool 0 rfl rfl ⟨_, rfl⟩).pb (pd_int).pb) (pss_consD (psd_asg (pd_divmod (T.free _ (by decide +kernel)) (pba_cons (pd_pool 0 rfl rfl ⟨_, rfl⟩).pb (pba_cons (pd_name 1).pb pba_nil))) (pgd_tup rfl rfl (pgsd_cons (pgd_pool 0 rfl ⟨_, rfl⟩) (pgsd_cons (pgd_name 3 sc_draw.nd (notpl0 (by decide))) pgsd_nil))))
    (pss_oneD (psd_ret (pd_name 3)))) pss_nilD)
    (pss_oneD (psd_ret (pd_mod (pd_fdiv (pd_pool 0 rfl rfl ⟨_, rfl⟩).pb (pd_int).pb).pb (pd_name 1).pb)))))))
/-! _law_flows -/
theorem sc_flows : FnScope ["_law_pool_here", "_law_size", "_law_most_in", "_law_people", "_law_comes", "_law_goes", "_law_here", "_law_spare", "_law_k", "_law_way", "_law_new", "_law_gone"] ["_law_pool_here", "_law_size", "_law_most_in", "_law_people"] (defScope s_flows) := ⟨rfl, rfl, rfl, by decide +kernel, rfl, by decide +kernel, by decide +kernel⟩
def f_flows : FS := (seqS (own4S 4 5 6 7 (fun _ S => R.ok (.int 0, S)) (nm 3))
  (seqS (forS (rngI rng1D (consA (nm 1) nilA)) (nmG 8) (seqS (asgS (callP F_draw (consA (fun _ S => R.ok (.int 6, S)) nilA)) (nmG 9))
  (seqS (asgS (callE min2D (consA (nm 7) (consA (bin2 idxD (ofF (lstF (consA (fun _ S => R.ok (.int 0, S)) (consA (fun _ S => R.ok (.int 0, S)) (consA (fun _ S => R.ok (.int 1, S)) (consA (nm 2) (consA (callP F_draw (consA (bin2 addD (nm 2) (fun _ S => R.ok (.int 1, S))) nilA)) (consA (callP F_draw (consA (bin2 addD (nm 2) (fun _ S => R.ok (.int 1, S))) nilA)) nilA)))))))) (nm 9)) nilA))) (nmG 10))
  (seqS (parS 6 7 (consA (bin2 addD (nm 6) (nm 10)) (consA (bin2 subD (nm 7) (nm 10)) nilA)))
  (seqS (asgS (callP F_draw (consA (fun _ S => R.ok (.int 6, S)) nilA)) (nmG 9))
  (seqS (asgS (bin2 idxD (ofF (lstF (consA (fun _ S => R.ok (.int 0, S)) (consA (nm 6) (consA (callE min2D (consA (fun _ S => R.ok (.int 1, S)) (consA (nm 6) nilA))) (consA (callP F_draw (consA (bin2 addD (nm 6) (fun _ S => R.ok (.int 1, S))) nilA)) (consA (callP F_draw (consA (bin2 addD (nm 6) (fun _ S => R.ok (.int 1, S))) nilA)) (consA (callE min2D (consA (nm 6) (consA (nm 10) nilA))) nilA)))))))) (nm 9)) (nmG 11))
  (seqS (appS 4 (nm 10))
  (seqS (appS 5 (nm 11))
  (asgS (bin2 subD (nm 6) (nm 11)) (nmG 6))))))))))
  (retS (ofF (lstF (consA (callE tupD (consA (nm 4) nilA)) (consA (callE tupD (consA (nm 5) nilA)) nilA)))))))
abbrev F_flows := runP 12 4 f_flows
theorem ok_flows {fA : Addr} {fd : FuncData} (T : Txt K mg base tb ca C xa) (F : Fun K "_law_flows" "_law_flows" s_flows fA fd) : FnG Pg w K mg base 2 fA fd ["_law_pool_here", "_law_size", "_law_most_in", "_law_people"] (spP K ca tb F_flows) := by
  obtain ⟨_, _, c_draw⟩ := T.c_draw
  refine fn_p (N := ["_law_pool_here", "_law_size", "_law_most_in", "_law_people", "_law_comes", "_law_goes", "_law_here", "_law_spare", "_law_k", "_law_way", "_law_new", "_law_gone"]) (OO := []) F sc_flows (by decide) fun cdv A outer s H E p hr => ?_
  have hu := hr.r.units
  have hgu := hr.g
  exact (pss_consD (psd_own4 4 5 6 7 rfl rfl sc_flows.nd (notpl0 (by decide)) (notpl0 (by decide)) (notpl0 (by decide)) (notpl0 (by decide)) (pd_int) (pd_name 3))
    (pss_consD (psd_for PassesOwn.never rfl (pid_range1 (T.free _ (by decide +kernel)) (pad_cons (pd_name 1) pad_nil)) (pgd_name 8 sc_flows.nd (notpl0 (by decide))) (pss_consD (psd_set 9 sc_flows.nd (notpl0 (by decide)) (pd_callP 0 rfl ⟨_, rfl⟩ (ok_draw T c_draw.F) (hr.mono (by decide)) c_draw.m c_draw.k c_draw.b (pad_cons (pd_int) pad_nil)))
    (pss_consD (psd_set 10 sc_flows.nd (notpl0 (by decide)) (pd_min2 rfl (T.free _ (by decide +kernel)) (pba_cons (pd_name 7).pb (pba_cons (pd_idx rfl (pf_lst (pad_cons (pd_int) (pad_cons (pd_int) (pad_cons (pd_int) (pad_cons (pd_name 2) (pad_cons (pd_callP 0 rfl ⟨_, rfl⟩ (ok_draw T c_draw.F) (hr.mono (by decide)) c_draw.m c_draw.k c_draw.b (pad_cons (pd_add rfl (pd_name 2).pb (pd_int).pb) pad_nil)) (pad_cons (pd_callP 0 rfl ⟨_, rfl⟩ (ok_draw T c_draw.F) (hr.mono (by decide)) c_draw.m c_draw.k c_draw.b (pad_cons (pd_add rfl (pd_name 2).pb (pd_int).pb) pad_nil)) pad_nil))))))).pd.pb (pd_name 9)).pb pba_nil))))
    (pss_consD (psd_par 6 7 rfl sc_flows.nd (notpl0 (by decide)) (notpl0 (by decide)) (pad_cons (pd_add rfl (pd_name 6).pb (pd_name 10).pb) (pad_cons (pd_sub (pd_name 7).pb (pd_name 10).pb) pad_nil)))
    (pss_consD (psd_set 9 sc_flows.nd (notpl0 (by decide)) (pd_callP 0 rfl ⟨_, rfl⟩ (ok_draw T c_draw.F) (hr.mono (by decide)) c_draw.m c_draw.k c_draw.b (pad_cons (pd_int) pad_nil)))
    (pss_consD (psd_set 11 sc_flows.nd (notpl0 (by decide)) (pd_idx rfl (pf_lst (pad_cons (pd_int) (pad_cons (pd_name 6) (pad_cons (pd_min2 rfl (T.free _ (by decide +kernel)) (pba_cons (pd_int).pb (pba_cons (pd_name 6).pb pba_nil))) (pad_cons (pd_callP 0 rfl ⟨_, rfl⟩ (ok_draw T c_draw.F) (hr.mono (by decide)) c_draw.m c_draw.k c_draw.b (pad_cons (pd_add rfl (pd_name 6).pb (pd_int).pb) pad_nil)) (pad_cons (pd_callP 0 rfl ⟨_, rfl⟩ (ok_draw T c_draw.F) (hr.mono (by decide)) c_draw.m c_draw.k c_draw.b (pad_cons (pd_add rfl (pd_name 6).pb (pd_int).pb) pad_nil)) (pad_cons (pd_min2 rfl (T.free _ (by decide +kernel)) (pba_cons (pd_name 6).pb (pba_cons (pd_name 10).pb pba_nil))) pad_nil))))))).pd.pb (pd_name 9)))
    (pss_consD (psd_append 4 rfl (pd_name 10))
    (pss_consD (psd_append 5 rfl (pd_name 11))
    (pss_oneD (psd_set 6 sc_flows.nd (notpl0 (by decide)) (pd_sub (pd_name 6).pb (pd_name 11).pb)))))))))))
    (pss_oneD (psd_ret (pf_lst (pad_cons (pd_tuple rfl (T.free _ (by decide +kernel)) (pba_cons (pb_own 4) pba_nil)) (pad_cons (pd_tuple rfl (T.free _ (by decide +kernel)) (pba_cons (pb_own 5) pba_nil)) pad_nil))).pd))))
/-! _law_small_flows -/
theorem sc_small : FnScope ["_law_pool_here"] ["_law_pool_here"] (defScope s_small) := ⟨rfl, rfl, rfl, by decide +kernel, rfl, by decide +kernel, by decide +kernel⟩
def f_small : FS := (retS (callP F_flows (consA (bin2 addD (fun _ S => R.ok (.int 1, S)) (callP F_draw (consA (fun _ S => R.ok (.int 5, S)) nilA))) (consA (fun _ S => R.ok (.int 3, S)) (consA (fun _ S => R.ok (.int 6, S)) nilA)))))
abbrev F_small := runP 1 1 f_small
theorem ok_small {fA : Addr} {fd : FuncData} (T : Txt K mg base tb ca C xa) (F : Fun K "_law_small_flows" "_law_small_flows" s_small fA fd) : FnG Pg w K mg base 3 fA fd ["_law_pool_here"] (spP K ca tb F_small) := by
  obtain ⟨_, _, c_flows⟩ := T.c_flows
  obtain ⟨_, _, c_draw⟩ := T.c_draw
  refine fn_p (N := ["_law_pool_here"]) (OO := []) F sc_small (by decide) fun cdv A outer s H E p hr => ?_
  have hu := hr.r.units
  have hgu := hr.g
  exact (pss_oneD (psd_ret (pd_callP 0 rfl ⟨_, rfl⟩ (ok_flows T c_flows.F) (hr.mono (by decide)) c_flows.m c_flows.k c_flows.b (pad_cons (pd_add rfl (pd_int).pb (pd_callP 0 rfl ⟨_, rfl⟩ (ok_draw T c_draw.F) (hr.mono (by decide)) c_draw.m c_draw.k c_draw.b (pad_cons (pd_int) pad_nil)).pb) (pad_cons (pd_int) (pad_cons (pd_int) pad_nil))))))
/-! _law_great_flows -/
theorem sc_great : FnScope ["_law_pool_here"] ["_law_pool_here"] (defScope s_great) := ⟨rfl, rfl, rfl, by decide +kernel, rfl, by decide +kernel, by decide +kernel⟩
def f_great : FS := (seqS (ifS (tstB (bin2 eqD (callP F_draw (consA (fun _ S => R.ok (.int 3, S)) nilA)) (fun _ S => R.ok (.int 1, S)))) (retS (callP F_flows (consA (bin2 addD (fun _ S => R.ok (.int 1, S)) (callP F_draw (consA (fun _ S => R.ok (.int 60, S)) nilA))) (consA (bin2 idxD (ofF (lstF (consA (fun _ S => R.ok (.int 1, S)) (consA (fun _ S => R.ok (.int 40, S)) (consA (fun _ S => R.ok (.int 999, S)) nilA))))) (callP F_draw (consA (fun _ S => R.ok (.int 3, S)) nilA))) (consA (fun _ S => R.ok (.int 999, S)) nilA))))) nxS)
  (retS (callP F_flows (consA (bin2 addD (fun _ S => R.ok (.int 1, S)) (callP F_draw (consA (fun _ S => R.ok (.int 12, S)) nilA))) (consA (fun _ S => R.ok (.int 5, S)) (consA (fun _ S => R.ok (.int 60, S)) nilA))))))
abbrev F_great := runP 1 1 f_great
theorem ok_great {fA : Addr} {fd : FuncData} (T : Txt K mg base tb ca C xa) (F : Fun K "_law_great_flows" "_law_great_flows" s_great fA fd) : FnG Pg w K mg base 3 fA fd ["_law_pool_here"] (spP K ca tb F_great) := by
  obtain ⟨_, _, c_draw⟩ := T.c_draw
  obtain ⟨_, _, c_flows⟩ := T.c_flows
  refine fn_p (N := ["_law_pool_here"]) (OO := []) F sc_great (by decide) fun cdv A outer s H E p hr => ?_
  have hu := hr.r.units
  have hgu := hr.g
  exact (pss_consD (psd_if (pt_eq rfl hu (pd_callP 0 rfl ⟨_, rfl⟩ (ok_draw T c_draw.F) (hr.mono (by decide)) c_draw.m c_draw.k c_draw.b (pad_cons (pd_int) pad_nil)).pb (pd_int).pb) (pss_oneD (psd_ret (pd_callP 0 rfl ⟨_, rfl⟩ (ok_flows T c_flows.F) (hr.mono (by decide)) c_flows.m c_flows.k c_flows.b (pad_cons (pd_add rfl (pd_int).pb (pd_callP 0 rfl ⟨_, rfl⟩ (ok_draw T c_draw.F) (hr.mono (by decide)) c_draw.m c_draw.k c_draw.b (pad_cons (pd_int) pad_nil)).pb) (pad_cons (pd_idx rfl (pf_lst (pad_cons (pd_int) (pad_cons (pd_int) (pad_cons (pd_int) pad_nil)))).pd.pb (pd_callP 0 rfl ⟨_, rfl⟩ (ok_draw T c_draw.F) (hr.mono (by decide)) c_draw.m c_draw.k c_draw.b (pad_cons (pd_int) pad_nil))) (pad_cons (pd_int) pad_nil)))))) pss_nilD)
    (pss_oneD (psd_ret (pd_callP 0 rfl ⟨_, rfl⟩ (ok_flows T c_flows.F) (hr.mono (by decide)) c_flows.m c_flows.k c_flows.b (pad_cons (pd_add rfl (pd_int).pb (pd_callP 0 rfl ⟨_, rfl⟩ (ok_draw T c_draw.F) (hr.mono (by decide)) c_draw.m c_draw.k c_draw.b (pad_cons (pd_int) pad_nil)).pb) (pad_cons (pd_int) (pad_cons (pd_int) pad_nil)))))))
/-! _law_rest -/
theorem sc_rest : FnScope ["_law_comes", "_law_goes", "_law_found", "_law_here", "_law_k"] ["_law_comes", "_law_goes"] (defScope s_rest) := ⟨rfl, rfl, rfl, by decide +kernel, rfl, by decide +kernel, by decide +kernel⟩
def f_rest : FA := (seqN (mixS [2, 3] [true, false] (ownM (lstF nilA) (valM (fun _ S => R.ok (.int 0, S)) nilM)))
  (seqN (forS (rngI rng1D (consA (callE lenD (consA (nm 0) nilA)) nilA)) (nmG 4) (seqS (asgS (bin2 subD (bin2 addD (nm 3) (bin2 idxD (nm 0) (nm 4))) (bin2 idxD (nm 1) (nm 4))) (nmG 3))
  (appS 2 (nm 3))))
  (ownN 2)))
abbrev F_rest := runN 5 2 f_rest
theorem ok_rest {fA : Addr} {fd : FuncData} (T : Txt K mg base tb ca C xa) (F : Fun K "_law_rest" "_law_rest" s_rest fA fd) : FnG Pg w K mg base 1 fA fd ["_law_comes", "_law_goes"] (spN K ca tb F_rest) := by
  refine fn_n (N := ["_law_comes", "_law_goes", "_law_found", "_law_here", "_law_k"]) F sc_rest fun cdv A outer s H E hr => ?_
  have hu := hr.r.units
  have hgu := hr.g
  exact (psn_cons (psd_mix2 2 3 true false rfl sc_rest.nd notplN notplN (pmd_own (pf_lst pad_nil) (pmd_val (pd_int) pmd_nil)))
    (psn_cons (psd_for PassesOwn.never rfl (pid_range1 (T.free _ (by decide +kernel)) (pad_cons (pd_len rfl (T.free _ (by decide +kernel)) (pba_cons (pd_name 0).pb pba_nil)) pad_nil)) (pgd_name 4 sc_rest.nd notplN) (pss_consD (psd_set 3 sc_rest.nd notplN (pd_sub (pd_add rfl (pd_name 3).pb (pd_idx rfl (pd_name 0).pb (pd_name 4)).pb).pb (pd_idx rfl (pd_name 1).pb (pd_name 4)).pb))
    (pss_oneD (psd_append 2 rfl (pd_name 3)))))
    (psn_own 2 rfl)))
/-! _law_error -/
theorem sc_error : FnScope ["_law_e", "_law_sorts", "_law_bases", "_law_own", "_law_at"] ["_law_e"] (defScope s_error) := ⟨rfl, rfl, rfl, by decide +kernel, rfl, by decide +kernel, by decide +kernel⟩
def f_error : FS := (seqS (asgS (ofF (lstF (consA (un1 (isXD sub_InvalidCounts) (nm 0)) (consA (un1 (isXD sub_NotCounts) (nm 0)) (consA (un1 (isXD sub_InvalidTick) (nm 0)) nilA))))) (nmG 1))
  (seqS (asgS (bin2 addD (nm 1) (ofF (lstF (consA (un1 (isXD sub_InvalidNumber) (nm 0)) (consA (un1 (isXD sub_InvalidText) (nm 0)) (consA (un1 (isXD sub_InvalidStay) (nm 0)) nilA)))))) (nmG 1))
  (seqS (asgS (bin2 addD (nm 1) (ofF (lstF (consA (un1 (isXD sub_InvalidHistory) (nm 0)) (consA (un1 (isXD sub_InvalidName) (nm 0)) (consA (un1 (isXD sub_InvalidLength) (nm 0)) nilA)))))) (nmG 1))
  (seqS (asgS (bin2 addD (nm 1) (ofF (lstF (consA (un1 (isXD sub_InvalidDoors) (nm 0)) (consA (un1 (isXD sub_InvalidDeed) (nm 0)) (consA (un1 (isXD sub_InvalidCommand) (nm 0)) nilA)))))) (nmG 1))
  (seqS (asgS (bin2 addD (nm 1) (ofF (lstF (consA (un1 (isXD sub_Impossible) (nm 0)) (consA (un1 (isXD sub_NotKnown) (nm 0)) (consA (un1 (isXD sub_LimitBroken) (nm 0)) nilA)))))) (nmG 1))
  (seqS (asgS (bin2 addD (nm 1) (ofF (lstF (consA (un1 (isXD sub_NothingToUndo) (nm 0)) (consA (un1 (isXD sub_TooMany) (nm 0)) nilA))))) (nmG 1))
  (seqS (asgS (ofF (lstF (consA (un1 (isXD sub_CountError) (nm 0)) (consA (un1 (isXD sub_SearchError) (nm 0)) (consA (un1 (isXD sub_LimitError) (nm 0)) nilA))))) (nmG 2))
  (seqS (asgS (ofF (lstF (consA (un1 (isXD sub_ValueError) (nm 0)) (consA (un1 (isXD sub_LookupError) (nm 0)) (consA (un1 (isXD sub_ArithmeticError) (nm 0)) nilA))))) (nmG 3))
  (seqS (ifS (orT (tstB (bin2 neD (mthE "list" cntFD (nm 1) (consA (fun _ S => R.ok (.bl true, S)) nilA)) (fun _ S => R.ok (.int 1, S)))) (tstB (bin2 neD (nm 3) (nm 2)))) (retS (un1 negD (fun _ S => R.ok (.int 1, S)))) nxS)
  (seqS (asgS (mthE "list" idxFD (nm 1) (consA (fun _ S => R.ok (.bl true, S)) nilA)) (nmG 4))
  (retS (ifE (tstB (bin2 eqD (nm 2) (ofF (lstF (consA (bin2 ltD (nm 4) (fun _ S => R.ok (.int 12, S))) (consA (chn ltD ltD (fun _ S => R.ok (.int 11, S)) (nm 4) (fun _ S => R.ok (.int 16, S))) (consA (bin2 eqD (nm 4) (fun _ S => R.ok (.int 16, S))) nilA))))))) (nm 4) (un1 negD (fun _ S => R.ok (.int 1, S)))))))))))))))
abbrev F_error := runF 5 1 f_error
theorem ok_error {fA : Addr} {fd : FuncData} (T : Txt K mg base tb ca C xa) (F : Fun K "_law_error" "_law_error" s_error fA fd) : FnA Pg w K mg base 1 fA fd ["_law_e"] (spF K ca tb F_error) := by
  refine fn_a (N := ["_law_e", "_law_sorts", "_law_bases", "_law_own", "_law_at"]) (OO := []) F sc_error fun cdv A outer s H E hr => ?_
  have hu := hr.units
  have hgu := hr.g
  exact (pss_consD (psd_set 1 sc_error.nd notplN (pf_lst (pad_cons (pd_isXC "InvalidCounts" rfl (T.free _ (by decide +kernel)) T.mx_InvalidCounts T.is_InvalidCounts (pd_name 0).pb) (pad_cons (pd_isXC "NotCounts" rfl (T.free _ (by decide +kernel)) T.mx_NotCounts T.is_NotCounts (pd_name 0).pb) (pad_cons (pd_isXC "InvalidTick" rfl (T.free _ (by decide +kernel)) T.mx_InvalidTick T.is_InvalidTick (pd_name 0).pb) pad_nil)))).pd)
    (pss_consD (psd_set 1 sc_error.nd notplN (pd_add rfl (pd_name 1).pb (pf_lst (pad_cons (pd_isXC "InvalidNumber" rfl (T.free _ (by decide +kernel)) T.mx_InvalidNumber T.is_InvalidNumber (pd_name 0).pb) (pad_cons (pd_isXC "InvalidText" rfl (T.free _ (by decide +kernel)) T.mx_InvalidText T.is_InvalidText (pd_name 0).pb) (pad_cons (pd_isXC "InvalidStay" rfl (T.free _ (by decide +kernel)) T.mx_InvalidStay T.is_InvalidStay (pd_name 0).pb) pad_nil)))).pd.pb))
    (pss_consD (psd_set 1 sc_error.nd notplN (pd_add rfl (pd_name 1).pb (pf_lst (pad_cons (pd_isXC "InvalidHistory" rfl (T.free _ (by decide +kernel)) T.mx_InvalidHistory T.is_InvalidHistory (pd_name 0).pb) (pad_cons (pd_isXC "InvalidName" rfl (T.free _ (by decide +kernel)) T.mx_InvalidName T.is_InvalidName (pd_name 0).pb) (pad_cons (pd_isXC "InvalidLength" rfl (T.free _ (by decide +kernel)) T.mx_InvalidLength T.is_InvalidLength (pd_name 0).pb) pad_nil)))).pd.pb))
    (pss_consD (psd_set 1 sc_error.nd notplN (pd_add rfl (pd_name 1).pb (pf_lst (pad_cons (pd_isXC "InvalidDoors" rfl (T.free _ (by decide +kernel)) T.mx_InvalidDoors T.is_InvalidDoors (pd_name 0).pb) (pad_cons (pd_isXC "InvalidDeed" rfl (T.free _ (by decide +kernel)) T.mx_InvalidDeed T.is_InvalidDeed (pd_name 0).pb) (pad_cons (pd_isXC "InvalidCommand" rfl (T.free _ (by decide +kernel)) T.mx_InvalidCommand T.is_InvalidCommand (pd_name 0).pb) pad_nil)))).pd.pb))
    (pss_consD (psd_set 1 sc_error.nd notplN (pd_add rfl (pd_name 1).pb (pf_lst (pad_cons (pd_isXC "Impossible" rfl (T.free _ (by decide +kernel)) T.mx_Impossible T.is_Impossible (pd_name 0).pb) (pad_cons (pd_isXC "NotKnown" rfl (T.free _ (by decide +kernel)) T.mx_NotKnown T.is_NotKnown (pd_name 0).pb) (pad_cons (pd_isXC "LimitBroken" rfl (T.free _ (by decide +kernel)) T.mx_LimitBroken T.is_LimitBroken (pd_name 0).pb) pad_nil)))).pd.pb))
    (pss_consD (psd_set 1 sc_error.nd notplN (pd_add rfl (pd_name 1).pb (pf_lst (pad_cons (pd_isXC "NothingToUndo" rfl (T.free _ (by decide +kernel)) T.mx_NothingToUndo T.is_NothingToUndo (pd_name 0).pb) (pad_cons (pd_isXC "TooMany" rfl (T.free _ (by decide +kernel)) T.mx_TooMany T.is_TooMany (pd_name 0).pb) pad_nil))).pd.pb))
    (pss_consD (psd_set 2 sc_error.nd notplN (pf_lst (pad_cons (pd_isXC "CountError" rfl (T.free _ (by decide +kernel)) T.mx_CountError T.is_CountError (pd_name 0).pb) (pad_cons (pd_isXC "SearchError" rfl (T.free _ (by decide +kernel)) T.mx_SearchError T.is_SearchError (pd_name 0).pb) (pad_cons (pd_isXC "LimitError" rfl (T.free _ (by decide +kernel)) T.mx_LimitError T.is_LimitError (pd_name 0).pb) pad_nil)))).pd)
    (pss_consD (psd_set 3 sc_error.nd notplN (pf_lst (pad_cons (pd_isXB rfl (T.free _ (by decide +kernel)) (T.free _ (by decide +kernel)) (by decide +kernel) T.is_ValueError (pd_name 0).pb) (pad_cons (pd_isXB rfl (T.free _ (by decide +kernel)) (T.free _ (by decide +kernel)) (by decide +kernel) T.is_LookupError (pd_name 0).pb) (pad_cons (pd_isXB rfl (T.free _ (by decide +kernel)) (T.free _ (by decide +kernel)) (by decide +kernel) T.is_ArithmeticError (pd_name 0).pb) pad_nil)))).pd)
    (pss_consD (psd_if (PWd.pt (ptw_or (pt_ne rfl hu (pd_count rfl (pd_name 1).pb (pba_cons (pd_bl).pb pba_nil)).pb (pd_int).pb) (ptw_or1 (pt_ne rfl hu (pd_name 3).pb (pd_name 2).pb)))) (pss_oneD (psd_ret (pd_neg (pd_int).pb))) pss_nilD)
    (pss_consD (psd_set 4 sc_error.nd notplN (pd_indexF rfl (pd_name 1).pb (pba_cons (pd_bl).pb pba_nil)))
    (pss_oneD (psd_ret (pd_ifE (pt_eq rfl hu (pd_name 2).pb (pf_lst (pad_cons (pd_lt (pd_name 4).pb (pd_int).pb) (pad_cons (pd_chain op_lt op_lt op2_lt op2_lt (pd_int).pb (pd_name 4).pb (pd_int).pb) (pad_cons (pd_eq rfl hu (pd_name 4).pb (pd_int).pb) pad_nil)))).pd.pb) (pd_name 4) (pd_neg (pd_int).pb))))))))))))))
/-! _law_any_flows -/
theorem sc_any : FnScope ["_law_pool_here"] ["_law_pool_here"] (defScope s_any) := ⟨rfl, rfl, rfl, by decide +kernel, rfl, by decide +kernel, by decide +kernel⟩
def f_any : FS := (retS (ifE (tstB (bin2 eqD (callP F_draw (consA (fun _ S => R.ok (.int 3, S)) nilA)) (fun _ S => R.ok (.int 0, S)))) (callP F_small nilA) (callP F_great nilA)))
abbrev F_any := runP 1 1 f_any
theorem ok_any {fA : Addr} {fd : FuncData} (T : Txt K mg base tb ca C xa) (F : Fun K "_law_any_flows" "_law_any_flows" s_any fA fd) : FnG Pg w K mg base 4 fA fd ["_law_pool_here"] (spP K ca tb F_any) := by
  obtain ⟨_, _, c_draw⟩ := T.c_draw
  obtain ⟨_, _, c_small⟩ := T.c_small
  obtain ⟨_, _, c_great⟩ := T.c_great
  refine fn_p (N := ["_law_pool_here"]) (OO := []) F sc_any (by decide) fun cdv A outer s H E p hr => ?_
  have hu := hr.r.units
  have hgu := hr.g
  exact (pss_oneD (psd_ret (pd_ifE (pt_eq rfl hu (pd_callP 0 rfl ⟨_, rfl⟩ (ok_draw T c_draw.F) (hr.mono (by decide)) c_draw.m c_draw.k c_draw.b (pad_cons (pd_int) pad_nil)).pb (pd_int).pb) (pd_callP 0 rfl ⟨_, rfl⟩ (ok_small T c_small.F) (hr.mono (by decide)) c_small.m c_small.k c_small.b pad_nil) (pd_callP 0 rfl ⟨_, rfl⟩ (ok_great T c_great.F) (hr.mono (by decide)) c_great.m c_great.k c_great.b pad_nil))))
/-! _law_field -/
theorem sc_field : FnScope ["_law_e", "_law_at"] ["_law_e", "_law_at"] (defScope s_field) := ⟨rfl, rfl, rfl, by decide +kernel, rfl, by decide +kernel, by decide +kernel⟩
def f_field : FS := (seqS (ifS (tstB (bin2 eqD (nm 1) (fun _ S => R.ok (.int 12, S)))) (retS (ofF (lstF (consA (un1 (xfD xc_word "word") (nm 0)) (consA (un1 (xfD xc_tick "tick") (nm 0)) nilA))))) nxS)
  (retS (ifE (tstB (bin2 eqD (nm 1) (fun _ S => R.ok (.int 7, S)))) (un1 (xfD xc_name "name") (nm 0)) (ifE (tstB (bin2 eqD (nm 1) (fun _ S => R.ok (.int 8, S)))) (un1 (xfD xc_length "length") (nm 0)) (un1 (xfD xc_limit "limit") (nm 0))))))
abbrev F_field := runF 2 2 f_field
theorem ok_field {fA : Addr} {fd : FuncData} (T : Txt K mg base tb ca C xa) (F : Fun K "_law_field" "_law_field" s_field fA fd) : FnA Pg w K mg base 1 fA fd ["_law_e", "_law_at"] (spF K ca tb F_field) := by
  refine fn_a (N := ["_law_e", "_law_at"]) (OO := []) F sc_field fun cdv A outer s H E hr => ?_
  have hu := hr.units
  have hgu := hr.g
  exact (pss_consD (psd_if (pt_eq rfl hu (pd_name 1).pb (pd_int).pb) (pss_oneD (psd_ret (pf_lst (pad_cons (pd_xf rfl T.xf_word (pd_name 0)) (pad_cons (pd_xf rfl T.xf_tick (pd_name 0)) pad_nil))).pd)) pss_nilD)
    (pss_oneD (psd_ret (pd_ifE (pt_eq rfl hu (pd_name 1).pb (pd_int).pb) (pd_xf rfl T.xf_name (pd_name 0)) (pd_ifE (pt_eq rfl hu (pd_name 1).pb (pd_int).pb) (pd_xf rfl T.xf_length (pd_name 0)) (pd_xf rfl T.xf_limit (pd_name 0)))))))
/-! _law_caught -/
theorem sc_caught : FnScope ["_law_act", "_law_told", "_law_e", "_law_at"] ["_law_act"] (defScope s_caught) := ⟨rfl, rfl, rfl, by decide +kernel, rfl, by decide +kernel, by decide +kernel⟩
def f_caught : R D → FS := fun r => (seqS (tryT 2 1 ct_CountError_SearchError_LimitError r (seqS (asgS (callD F_error [] (consA (nm 2) nilA)) (nmG 3))
  (seqS (ifS (tstB (bin2 (inF false) (nm 3) (ofF (lstF (consA (fun _ S => R.ok (.int 0, S)) (consA (fun _ S => R.ok (.int 2, S)) nilA)))))) (retS (ofF (lstF (consA (nm 3) (consA (callE reprXL (consA (un1 (xfD xc_tick "tick") (nm 2)) nilA)) nilA))))) nxS)
  (seqS (ifS (tstB (bin2 (inF false) (nm 3) (ofF (lstF (consA (fun _ S => R.ok (.int 1, S)) (consA (fun _ S => R.ok (.int 3, S)) (consA (fun _ S => R.ok (.int 4, S)) (consA (fun _ S => R.ok (.int 5, S)) nilA)))))))) (retS (ofF (lstF (consA (nm 3) (consA (callE reprXL (consA (ifE (tstB (bin2 eqD (nm 3) (fun _ S => R.ok (.int 1, S)))) (ofF (lstF (consA (un1 (xfD xc_value "value") (nm 2)) nilA))) (ifE (tstB (bin2 eqD (nm 3) (fun _ S => R.ok (.int 3, S)))) (ofF (lstF (consA (un1 (xfD xc_number "number") (nm 2)) nilA))) (ifE (tstB (bin2 eqD (nm 3) (fun _ S => R.ok (.int 4, S)))) (ofF (lstF (consA (un1 (xfD xc_text "text") (nm 2)) nilA))) (ofF (lstF (consA (un1 (xfD xc_index "index") (nm 2)) nilA)))))) nilA)) nilA))))) nxS)
  (seqS (ifS (tstB (bin2 (inF false) (nm 3) (ofF (lstF (consA (fun _ S => R.ok (.int 7, S)) (consA (fun _ S => R.ok (.int 8, S)) (consA (fun _ S => R.ok (.int 12, S)) (consA (fun _ S => R.ok (.int 16, S)) nilA)))))))) (retS (ofF (lstF (consA (nm 3) (consA (callE reprXL (consA (callD F_field [] (consA (nm 2) (consA (nm 3) nilA))) nilA)) nilA))))) nxS)
  (retS (ofF (lstF (consA (nm 3) (consA (fun _ S => R.ok (.str "", S)) nilA))))))))))
  (retS (ofF (lstF (consA (fun _ S => R.ok (.str "told", S)) (consA (callE reprXL (consA (nm 1) nilA)) nilA))))))
abbrev F_caught := runT 4 f_caught
theorem ok_caught {fA : Addr} {fd : FuncData} (T : Txt K mg base tb ca C xa) (F : Fun K "_law_caught" "_law_caught" s_caught fA fd) : FnT Pg w K mg base 1 fA fd "_law_act" ca tb F_caught := by
  obtain ⟨_, _, c_error⟩ := T.c_error
  obtain ⟨_, _, c_field⟩ := T.c_field
  refine fn_t (N := ["_law_act", "_law_told", "_law_e", "_law_at"]) (OO := []) F sc_caught (fun _ => rfl) (fun _ => rfl) fun m cdv A outer s H f B0 r s0 hrm hr h0 act => ?_
  have hu := hr.r.units
  have hgu := hr.g
  exact pssb_cons (psdb_tryAct 2 1 act hrm rfl rfl rfl sc_caught.nd rfl rfl rfl rfl rfl (Or.inl rfl) (by decide) (by decide) h0 (ctest_three rfl rfl rfl T.mx_CountError T.mx_SearchError T.mx_LimitError (by decide) (by decide) (by decide)) T.ct_CountError_SearchError_LimitError (by decide) (by decide) rfl
    (fun ea pn => (pss_consD (psd_set 3 sc_caught.nd (notplK (by decide)) (pd_callA (ok_error T c_error.F) ((hr.mono (by decide)).hot _) c_error.m c_error.k c_error.b .nil (fun _ => .nil) (pad_cons (pd_name 2) pad_nil)))
    (pss_consD (psd_if (pt_in rfl (pd_name 3).pb (pf_lst (pad_cons (pd_int) (pad_cons (pd_int) pad_nil))).pd.pb) (pss_oneD (psd_ret (pf_lst (pad_cons (pd_name 3) (pad_cons (pd_reprX rfl hu hgu (T.free _ (by decide +kernel)) (pba_cons (pd_xf rfl T.xf_tick (pd_name 2)).pb pba_nil)) pad_nil))).pd)) pss_nilD)
    (pss_consD (psd_if (pt_in rfl (pd_name 3).pb (pf_lst (pad_cons (pd_int) (pad_cons (pd_int) (pad_cons (pd_int) (pad_cons (pd_int) pad_nil))))).pd.pb) (pss_oneD (psd_ret (pf_lst (pad_cons (pd_name 3) (pad_cons (pd_reprX rfl hu hgu (T.free _ (by decide +kernel)) (pba_cons (pd_ifE (pt_eq rfl hu (pd_name 3).pb (pd_int).pb) (pf_lst (pad_cons (pd_xf rfl T.xf_value (pd_name 2)) pad_nil)).pd (pd_ifE (pt_eq rfl hu (pd_name 3).pb (pd_int).pb) (pf_lst (pad_cons (pd_xf rfl T.xf_number (pd_name 2)) pad_nil)).pd (pd_ifE (pt_eq rfl hu (pd_name 3).pb (pd_int).pb) (pf_lst (pad_cons (pd_xf rfl T.xf_text (pd_name 2)) pad_nil)).pd (pf_lst (pad_cons (pd_xf rfl T.xf_index (pd_name 2)) pad_nil)).pd))).pb pba_nil)) pad_nil))).pd)) pss_nilD)
    (pss_consD (psd_if (pt_in rfl (pd_name 3).pb (pf_lst (pad_cons (pd_int) (pad_cons (pd_int) (pad_cons (pd_int) (pad_cons (pd_int) pad_nil))))).pd.pb) (pss_oneD (psd_ret (pf_lst (pad_cons (pd_name 3) (pad_cons (pd_reprX rfl hu hgu (T.free _ (by decide +kernel)) (pba_cons (pd_callA (ok_field T c_field.F) ((hr.mono (by decide)).hot _) c_field.m c_field.k c_field.b .nil (fun _ => .nil) (pad_cons (pd_name 2) (pad_cons (pd_name 3) pad_nil))).pb pba_nil)) pad_nil))).pd)) pss_nilD)
    (pss_oneD (psd_ret (pf_lst (pad_cons (pd_name 3) (pad_cons (pd_str) pad_nil))).pd))))))))
    (pss_oneD (psd_ret (pf_lst (pad_cons (pd_str) (pad_cons (pd_reprX rfl hu hgu (T.free _ (by decide +kernel)) (pba_cons (pd_name 1).pb pba_nil)) pad_nil))).pd))
/-! _law_row -/
theorem sc_lrow : FnScope ["_law_words", "_law_found", "_law_k"] ["_law_words"] (defScope s_lrow) := ⟨rfl, rfl, rfl, by decide +kernel, rfl, by decide +kernel, by decide +kernel⟩
def f_lrow : FS := (seqS (asgS (fun _ S => R.ok (.str "", S)) (nmG 1))
  (seqS (forS (rngI rng1D (consA (fun _ S => R.ok (.int 4, S)) nilA)) (nmG 2) (asgS (bin2 addD (bin2 addD (nm 1) (bin2 mulS (fun _ S => R.ok (.str " ", S)) (bin2 subD (bin2 idxD (ofF (lstF (consA (fun _ S => R.ok (.int 4, S)) (consA (fun _ S => R.ok (.int 6, S)) (consA (fun _ S => R.ok (.int 6, S)) (consA (fun _ S => R.ok (.int 8, S)) nilA)))))) (nm 2)) (callE lenD (consA (callE strS (consA (bin2 idxD (nm 0) (nm 2)) nilA)) nilA))))) (callE strS (consA (bin2 idxD (nm 0) (nm 2)) nilA))) (nmG 1)))
  (retS (nm 1))))
abbrev F_lrow := runF 3 1 f_lrow
theorem ok_lrow {fA : Addr} {fd : FuncData} (T : Txt K mg base tb ca C xa) (F : Fun K "_law_row" "_law_row" s_lrow fA fd) : FnG Pg w K mg base 1 fA fd ["_law_words"] (spF K ca tb F_lrow) := by
  refine fn_d (N := ["_law_words", "_law_found", "_law_k"]) (OO := []) F sc_lrow fun cdv A outer s H E hr => ?_
  have hu := hr.r.units
  have hgu := hr.g
  exact (pss_consD (psd_set 1 sc_lrow.nd notplN (pd_str))
    (pss_consD (psd_for PassesOwn.never rfl (pid_range1 (T.free _ (by decide +kernel)) (pad_cons (pd_int) pad_nil)) (pgd_name 2 sc_lrow.nd notplN) (pss_oneD (psd_set 1 sc_lrow.nd notplN (pd_add rfl (pd_add rfl (pd_name 1).pb (pd_muls (pd_str).pb (pd_sub (pd_idx rfl (pf_lst (pad_cons (pd_int) (pad_cons (pd_int) (pad_cons (pd_int) (pad_cons (pd_int) pad_nil))))).pd.pb (pd_name 2)).pb (pd_len rfl (T.free _ (by decide +kernel)) (pba_cons (pd_strS (T.free _ (by decide +kernel)) (pba_cons (pd_idx rfl (pd_name 0).pb (pd_name 2)).pb pba_nil)).pb pba_nil)).pb).pb).pb).pb (pd_strS (T.free _ (by decide +kernel)) (pba_cons (pd_idx rfl (pd_name 0).pb (pd_name 2)).pb pba_nil)).pb))))
    (pss_oneD (psd_ret (pd_name 1)))))
/-! _law_rows_due -/
theorem sc_due : FnScope ["_law_comes", "_law_goes", "_law_whole", "_law_rest_here", "_law_found", "_law_at"] ["_law_comes", "_law_goes", "_law_whole"] (defScope s_due) := ⟨rfl, rfl, rfl, by decide +kernel, rfl, by decide +kernel, by decide +kernel⟩
def f_due : FS := (seqS (mixS [3, 4] [false, true] (valM (ofF (callN F_rest [] (consA (nm 0) (consA (nm 1) nilA)))) (ownM (lstF (consA (callD F_lrow [] (consA (ofF (lstF (consA (fun _ S => R.ok (.str "tick", S)) (consA (fun _ S => R.ok (.str "in", S)) (consA (fun _ S => R.ok (.str "out", S)) (consA (fun _ S => R.ok (.str "present", S)) nilA)))))) nilA)) nilA)) nilM)))
  (seqS (forS (rngI rng1D (consA (callE lenD (consA (nm 0) nilA)) nilA)) (nmG 5) (appS 4 (callD F_lrow [] (consA (ofF (lstF (consA (nm 5) (consA (bin2 idxD (nm 0) (nm 5)) (consA (bin2 idxD (nm 1) (nm 5)) (consA (bin2 idxD (nm 3) (nm 5)) nilA)))))) nilA))))
  (seqS (ifS (tst (nm 2)) (appS 4 (callD F_lrow [] (consA (ofF (lstF (consA (fun _ S => R.ok (.str "all", S)) (consA (callE sumA (consA (nm 0) nilA)) (consA (callE sumA (consA (nm 1) nilA)) (consA (bin2 idxD (nm 3) (un1 negD (fun _ S => R.ok (.int 1, S)))) nilA)))))) nilA))) nxS)
  (retS (mthE "str" joinD (fun _ S => R.ok (.str "
", S)) (consA (nm 4) nilA))))))
abbrev F_due := runF 6 3 f_due
theorem ok_due {fA : Addr} {fd : FuncData} (T : Txt K mg base tb ca C xa) (F : Fun K "_law_rows_due" "_law_rows_due" s_due fA fd) : FnG Pg w K mg base 2 fA fd ["_law_comes", "_law_goes", "_law_whole"] (spF K ca tb F_due) := by
  obtain ⟨_, _, c_rest⟩ := T.c_rest
  obtain ⟨_, _, c_lrow⟩ := T.c_lrow
  refine fn_d (N := ["_law_comes", "_law_goes", "_law_whole", "_law_rest_here", "_law_found", "_law_at"]) (OO := []) F sc_due fun cdv A outer s H E hr => ?_
  have hu := hr.r.units
  have hgu := hr.g
  exact (pss_consD (psd_mix2 3 4 false true rfl sc_due.nd notplN notplN (pmd_val (pf_call (ok_rest T c_rest.F) (hr.mono (by decide)) c_rest.m c_rest.k c_rest.b .nil (fun _ => .nil) (pad_cons (pd_name 0) (pad_cons (pd_name 1) pad_nil))).pd (pmd_own (pf_lst (pad_cons (pd_call (ok_lrow T c_lrow.F) (hr.mono (by decide)) c_lrow.m c_lrow.k c_lrow.b .nil (fun _ => .nil) (pad_cons (pf_lst (pad_cons (pd_str) (pad_cons (pd_str) (pad_cons (pd_str) (pad_cons (pd_str) pad_nil))))).pd pad_nil)) pad_nil)) pmd_nil)))
    (pss_consD (psd_for PassesOwn.never rfl (pid_range1 (T.free _ (by decide +kernel)) (pad_cons (pd_len rfl (T.free _ (by decide +kernel)) (pba_cons (pd_name 0).pb pba_nil)) pad_nil)) (pgd_name 5 sc_due.nd notplN) (pss_oneD (psd_append 4 rfl (pd_call (ok_lrow T c_lrow.F) (hr.mono (by decide)) c_lrow.m c_lrow.k c_lrow.b .nil (fun _ => .nil) (pad_cons (pf_lst (pad_cons (pd_name 5) (pad_cons (pd_idx rfl (pd_name 0).pb (pd_name 5)) (pad_cons (pd_idx rfl (pd_name 1).pb (pd_name 5)) (pad_cons (pd_idx rfl (pd_name 3).pb (pd_name 5)) pad_nil))))).pd pad_nil)))))
    (pss_consD (psd_if (pt_tru rfl (pd_name 2).pb) (pss_oneD (psd_append 4 rfl (pd_call (ok_lrow T c_lrow.F) (hr.mono (by decide)) c_lrow.m c_lrow.k c_lrow.b .nil (fun _ => .nil) (pad_cons (pf_lst (pad_cons (pd_str) (pad_cons (pd_sumA rfl rfl (T.free _ (by decide +kernel)) (pba_cons (pd_name 0).pb pba_nil)) (pad_cons (pd_sumA rfl rfl (T.free _ (by decide +kernel)) (pba_cons (pd_name 1).pb pba_nil)) (pad_cons (pd_idx rfl (pd_name 3).pb (pd_neg (pd_int).pb)) pad_nil))))).pd pad_nil)))) pss_nilD)
    (pss_oneD (psd_ret (pd_join rfl (pd_str).pb (pba_cons (pb_own 4) pba_nil)))))))
/-! _law_right -/
theorem sc_right : FnScope ["_law_pool_here", "_law_flows_here", "_law_turn", "_law_comes", "_law_goes", "_law_log", "_law_told", "_law_short", "_law_odd"] ["_law_pool_here"] (defScope s_right) := ⟨rfl, rfl, rfl, by decide +kernel, rfl, by decide +kernel, by decide +kernel⟩
def f_right : FS := (seqS (asgS (ofF (lstF (consA (callP F_any nilA) (consA (callP F_great nilA) nilA)))) (nmG 1))
  (seqS (forS (rngI rng1D (consA (fun _ S => R.ok (.int 2, S)) nilA)) (nmG 2) (forS (seqI itemsL (nm 1)) (lstG 2 (consG (nmG 3) (consG (nmG 4) nilG))) (seqS (asgS (mkI "Counts" nm_ini F_ini 2 0 [0, 1] (consA (nm 3) (consA (nm 4) nilA)) nilA) (nmG 5))
  (seqS (asgS (ofF (lstF (consA (fnNC F_tab 1 0 [0, 1] [.bl false] (consA (nm 5) nilA) nilA) (consA (fnNC F_tab 0 1 [1, 0] [.bl false] nilA (consA (nm 5) nilA)) (consA (fnNC F_tab 1 1 [0, 1] [] (consA (nm 5) nilA) (consA (fun _ S => R.ok (.bl false, S)) nilA)) (consA (fnNC F_tab 1 1 [0, 1] [] (consA (nm 5) nilA) (consA (fun _ S => R.ok (.bl true, S)) nilA)) nilA)))))) (nmG 6))
  (seqS (asgS (callD F_due [] (consA (nm 3) (consA (nm 4) (consA (fun _ S => R.ok (.bl false, S)) nilA)))) (nmG 7))
  (ifS (tstB (bin2 neD (nm 6) (ofF (lstF (consA (nm 7) (consA (nm 7) (consA (nm 7) (consA (callD F_due [] (consA (nm 3) (consA (nm 4) (consA (fun _ S => R.ok (.bl true, S)) nilA)))) nilA)))))))) (retS (fun _ S => R.ok (.bl false, S))) nxS))))))
  (seqS (asgS (bin2 idxD (ofF (lstF (consA (fun _ S => R.ok (.non, S)) (consA (fun _ S => R.ok (.int 0, S)) (consA (fun _ S => R.ok (.str "1/0", S)) (consA (tupE (consA (tupE (consA (fun _ S => R.ok (.int 1, S)) nilA)) (consA (tupE (consA (fun _ S => R.ok (.int 0, S)) nilA)) nilA))) (consA (ofF (lstF nilA)) (consA (fun _ S => R.ok (.dic [] [], S)) (consA (fun _ S => R.ok (.bl true, S)) nilA))))))))) (callP F_draw (consA (fun _ S => R.ok (.int 7, S)) nilA))) (nmG 8))
  (retS (bin2 eqD (lamE [0] F_caught (fnN F_tab 1 1 [0, 1] [] (consA (nm 8) nilA) (consA (fun _ S => R.ok (.bl true, S)) nilA))) (ofF (lstF (consA (fun _ S => R.ok (.int 1, S)) (consA (callE reprXL (consA (ofF (lstF (consA (nm 8) nilA))) nilA)) nilA)))))))))
abbrev F_right := runP 9 1 f_right
theorem ok_right {fA : Addr} {fd : FuncData} (T : Txt K mg base tb ca C xa) (F : Fun K "_law_right" "_law_right" s_right fA fd) (M : MkAt base mg tb fd (("_law_right" : Str) ++ ".<locals>." ++ "<lambda>")) : FnG Pg w K mg base 7 fA fd ["_law_pool_here"] (spP K ca tb F_right) := by
  obtain ⟨_, _, c_any⟩ := T.c_any
  obtain ⟨_, _, c_great⟩ := T.c_great
  obtain ⟨_, _, c_ini⟩ := T.c_ini
  obtain ⟨_, _, c_tab⟩ := T.c_tab
  obtain ⟨_, _, c_due⟩ := T.c_due
  obtain ⟨_, _, c_draw⟩ := T.c_draw
  obtain ⟨_, _, c_caught⟩ := T.c_caught
  obtain ⟨cc, cP, mc, mt, mm, mu⟩ := M.ex
  refine fn_pC (N := ["_law_pool_here", "_law_flows_here", "_law_turn", "_law_comes", "_law_goes", "_law_log", "_law_told", "_law_short", "_law_odd"]) (OO := []) F sc_right (by decide) fun cdv hcd A outer s H E p hr => ?_
  obtain rfl : cdv = .ref cc := hcd.symm.trans mc
  have hu := hr.r.units
  have hgu := hr.g
  exact (pss_consD (psd_set 1 sc_right.nd (notpl0 (by decide)) (pf_lst (pad_cons (pd_callP 0 rfl ⟨_, rfl⟩ (ok_any T c_any.F) (hr.mono (by decide)) c_any.m c_any.k c_any.b pad_nil) (pad_cons (pd_callP 0 rfl ⟨_, rfl⟩ (ok_great T c_great.F) (hr.mono (by decide)) c_great.m c_great.k c_great.b pad_nil) pad_nil))).pd)
    (pss_consD (psd_for PassesOwn.never rfl (pid_range1 (T.free _ (by decide +kernel)) (pad_cons (pd_int) pad_nil)) (pgd_name 2 sc_right.nd (notpl0 (by decide))) (pss_oneD (psd_for PassesOwn.never rfl (pid_list rfl (pd_name 1)) (pgd_lst rfl rfl (pgsd_cons (pgd_name 3 sc_right.nd (notpl0 (by decide))) (pgsd_cons (pgd_name 4 sc_right.nd (notpl0 (by decide))) pgsd_nil))) (pss_consD (psd_set 5 sc_right.nd (notpl0 (by decide)) (pd_make (n := 2) (ix := [0, 1]) T.caC c_ini.makes (ok_ini T c_ini.F).toGI (hr.mono (by decide)) T.mgC c_ini.kb (pad_cons (pd_name 3) (pad_cons (pd_name 4) pad_nil))))
    (pss_consD (psd_set 6 sc_right.nd (notpl0 (by decide)) (pf_lst (pad_cons (pd_fNC (ks := []) (n := 1) (ix := [0, 1]) (ok_tab T c_tab.F).toG (hr.mono (by decide)) c_tab.m c_tab.k c_tab.kp_1 (fun _ => .cons (.bl false) <| .nil) (pad_cons (pd_name 5) pad_nil) pkd_nil) (pad_cons (pd_fNC0 (ks := ["counts"]) (ix := [1, 0]) (ok_tab T c_tab.F).toG (hr.mono (by decide)) c_tab.m c_tab.k c_tab.kp_0_counts (fun _ => .cons (.bl false) <| .nil)  (pkd_cons (pd_name 5) pkd_nil)) (pad_cons (pd_fNC (ks := ["totals"]) (n := 1) (ix := [0, 1]) (ok_tab T c_tab.F).toG (hr.mono (by decide)) c_tab.m c_tab.k c_tab.kp_1_totals (fun _ => .nil) (pad_cons (pd_name 5) pad_nil) (pkd_cons (pd_bl) pkd_nil)) (pad_cons (pd_fNC (ks := ["totals"]) (n := 1) (ix := [0, 1]) (ok_tab T c_tab.F).toG (hr.mono (by decide)) c_tab.m c_tab.k c_tab.kp_1_totals (fun _ => .nil) (pad_cons (pd_name 5) pad_nil) (pkd_cons (pd_bl) pkd_nil)) pad_nil))))).pd)
    (pss_consD (psd_set 7 sc_right.nd (notpl0 (by decide)) (pd_call (ok_due T c_due.F) (hr.mono (by decide)) c_due.m c_due.k c_due.b .nil (fun _ => .nil) (pad_cons (pd_name 3) (pad_cons (pd_name 4) (pad_cons (pd_bl) pad_nil)))))
    (pss_oneD (psd_if (pt_ne rfl hu (pd_name 6).pb (pf_lst (pad_cons (pd_name 7) (pad_cons (pd_name 7) (pad_cons (pd_name 7) (pad_cons (pd_call (ok_due T c_due.F) (hr.mono (by decide)) c_due.m c_due.k c_due.b .nil (fun _ => .nil) (pad_cons (pd_name 3) (pad_cons (pd_name 4) (pad_cons (pd_bl) pad_nil)))) pad_nil))))).pd.pb) (pss_oneD (psd_ret (pd_bl))) pss_nilD))))))))
    (pss_consD (psd_set 8 sc_right.nd (notpl0 (by decide)) (pd_idx rfl (pf_lst (pad_cons (pd_non) (pad_cons (pd_int) (pad_cons (pd_str) (pad_cons (pd_tup (pad_cons (pd_tup (pad_cons (pd_int) pad_nil)) (pad_cons (pd_tup (pad_cons (pd_int) pad_nil)) pad_nil))) (pad_cons (pf_lst pad_nil).pd (pad_cons (pd_dic) (pad_cons (pd_bl) pad_nil)))))))).pd.pb (pd_callP 0 rfl ⟨_, rfl⟩ (ok_draw T c_draw.F) (hr.mono (by decide)) c_draw.m c_draw.k c_draw.b (pad_cons (pd_int) pad_nil))))
    (pss_oneD (psd_ret (pd_eq rfl hu (PD.pb (pd_lamcall (c := cc) (P := cP) (k := 1) (m := 4) [0] rfl (ok_caught T c_caught.F) (by decide) (hr.mono (by decide)) c_caught.m c_caught.k c_caught.b mt rfl mm mu (LamX.lamS_by (sc := defScope s_right) (by decide +kernel)) rfl (fun _ _ _ _ _ => rfl) (by decide) (fun A2 up2 s2 H2 E2 f2 c2 bs2 s02 EX2 hr tk => (have hu := hr.r.units; have hgu := hr.g; (pd_fN (ks := ["totals"]) (n := 1) (ix := [0, 1]) tk (ok_tab T c_tab.F) (hr.mono (by decide)) c_tab.m c_tab.k c_tab.kp_1_totals (fun _ => .nil) (pad_cons (pd_name 8) pad_nil) (pkd_cons (pd_bl) pkd_nil)))))) (pf_lst (pad_cons (pd_int) (pad_cons (pd_reprX rfl hu hgu (T.free _ (by decide +kernel)) (pba_cons (pf_lst (pad_cons (pd_name 8) pad_nil)).pd.pb pba_nil)) pad_nil))).pd.pb))))))
/-! law -/
theorem sc_law : FnScope ["_law_cells", "_law_k"] ["_law_cells"] (defScope s_law) := ⟨rfl, rfl, rfl, by decide +kernel, rfl, by decide +kernel, by decide +kernel⟩
def f_law : FS := (seqS (ifS (tstB (bin2 neD (bin2 idxD (mthE "str" splitD (fnNC F_tab 1 1 [0, 1] [] (consA (mkI "Counts" nm_ini F_ini 2 0 [0, 1] (consA (tupE (consA (fun _ S => R.ok (.int 999, S)) nilA)) (consA (tupE (consA (fun _ S => R.ok (.int 0, S)) nilA)) nilA)) nilA) nilA) (consA (fun _ S => R.ok (.bl true, S)) nilA)) (consA (fun _ S => R.ok (.str "
", S)) nilA)) (fun _ S => R.ok (.int 2, S))) (fun _ S => R.ok (.str " all   999     0     999", S)))) (retS (fun _ S => R.ok (.bl false, S))) nxS)
  (retS (callE allD (consA (ofF (lcE [1] (rngI rng1D (consA (callE max2D (consA (fun _ S => R.ok (.int 2, S)) (consA (callE min2D (consA (callE lenD (consA (nm 0) nilA)) (consA (fun _ S => R.ok (.int 5, S)) nilA))) nilA))) nilA)) (nmG 1) yesT (callPN F_right (callN F_pool [] (consA (callD F_cell [] (consA (nm 0) (consA (nm 1) nilA))) nilA))))) nilA))))
abbrev F_law := runF 2 1 f_law
theorem ok_law {fA : Addr} {fd : FuncData} (T : Txt K mg base tb ca C xa) (F : Fun K "law" "law" s_law fA fd) : FnG Pg w K mg base 8 fA fd ["_law_cells"] (spF K ca tb F_law) := by
  obtain ⟨_, _, c_tab⟩ := T.c_tab
  obtain ⟨_, _, c_ini⟩ := T.c_ini
  obtain ⟨_, _, c_right⟩ := T.c_right
  obtain ⟨_, _, c_pool⟩ := T.c_pool
  obtain ⟨_, _, c_cell⟩ := T.c_cell
  refine fn_d (N := ["_law_cells", "_law_k"]) (OO := []) F sc_law fun cdv A outer s H E hr => ?_
  have hu := hr.r.units
  have hgu := hr.g
  exact (pss_consD (psd_if (pt_ne rfl hu (pd_idx rfl (pd_split rfl (pd_fNC (ks := ["totals"]) (n := 1) (ix := [0, 1]) (ok_tab T c_tab.F).toG (hr.mono (by decide)) c_tab.m c_tab.k c_tab.kp_1_totals (fun _ => .nil) (pad_cons (pd_make (n := 2) (ix := [0, 1]) T.caC c_ini.makes (ok_ini T c_ini.F).toGI (hr.mono (by decide)) T.mgC c_ini.kb (pad_cons (pd_tup (pad_cons (pd_int) pad_nil)) (pad_cons (pd_tup (pad_cons (pd_int) pad_nil)) pad_nil))) pad_nil) (pkd_cons (pd_bl) pkd_nil)).pb (pba_cons (pd_str).pb pba_nil)).pb (pd_int)).pb (pd_str).pb) (pss_oneD (psd_ret (pd_bl))) pss_nilD)
    (pss_oneD (psd_ret (pd_all rfl rfl (T.free _ (by decide +kernel)) (pba_cons (pf_lc (vs := []) (own := [("_law_k", 1)]) rfl sc_law.nd (pid_range1 (T.free _ (by decide +kernel)) (pad_cons (pd_max2 rfl (T.free _ (by decide +kernel)) (pba_cons (pd_int).pb (pba_cons (pd_min2 rfl (T.free _ (by decide +kernel)) (pba_cons (pd_len rfl (T.free _ (by decide +kernel)) (pba_cons (pd_name 0).pb pba_nil)).pb (pba_cons (pd_int).pb pba_nil))).pb pba_nil))) pad_nil)) (blkOk_by (by rfl)) (fun _ _ _ _ _ => (pgd_name 1 sc_law.nd notplN)) (fun _ _ _ _ _ => pts_nil) evT_yes (fun _ _ _ _ _ => (pd_callPN (ok_right T c_right.F c_right.M) (hr.mono (by decide)) c_right.m c_right.k c_right.b (pf_call (ok_pool T c_pool.F) (hr.mono (by decide)) c_pool.m c_pool.k c_pool.b .nil (fun _ => .nil) (pad_cons (pd_call (ok_cell T c_cell.F) (hr.mono (by decide)) c_cell.m c_cell.k c_cell.b .nil (fun _ => .nil) (pad_cons (pd_name 0) (pad_cons (pd_name 1) pad_nil))) pad_nil)))) (fun _ _ => notplN)).pd.pb pba_nil)))))
end
end K79
set_option Elab.async false
set_option linter.all false
set_option maxRecDepth 100000
set_option maxHeartbeats 4000000
namespace K79
open PySem PySem.Spec PyProof.Rows L2 ClX PL
open LW (PoolOk Flow intL atI3 rng_at pre cnt)
theorem draw_spec {S : List D} {n : Int} (hS : PoolOk S) (h0 : 0 < n) (h1 : n < 1073741824) : Sat (F_draw S [.int n]) (fun r => ∃ v : Int, r.1 = .int v ∧ 0 ≤ v ∧ v < n ∧ PoolOk r.2) EX0 := LW.draw_spec hS h0 h1
theorem flows_spec {S : List D} {n most m : Int} (hS : PoolOk S) (h0 : 0 ≤ n) (h1 : n ≤ 1000) (hm0 : 0 ≤ most) (hm1 : most < 1000000) (hp0 : 0 ≤ m) (hp1 : m < 1000000) :
    Sat (F_flows S [.int n, .int most, .int m]) (fun r => ∃ a b : List Int, r.1 = .lst [.tup (intL a), .tup (intL b)] ∧ (a.length : Int) = n ∧ Flow a b m ∧ PoolOk r.2) EX0 := LW.flows_spec hS h0 h1 hm0 hm1 hp0 hp1
/-- what the drawn logs are -/
def Drawn (S : List D) (r : D × List D) : Prop := ∃ a b : List Int, r.1 = .lst [.tup (intL a), .tup (intL b)] ∧ 1 ≤ a.length ∧ a.length ≤ 60 ∧ Flow a b 999 ∧ PoolOk r.2
theorem Flow.up {a b : List Int} {m m' : Int} (f : Flow a b m) (h : m ≤ m') : Flow a b m' := ⟨f.len, f.ca, f.cb, f.le, Int.le_trans f.top h⟩
theorem small_spec {S : List D} (hS : PoolOk S) : Sat (F_small S []) (Drawn S) EX0 := by
  refine (wp_runP rfl).mpr ?_
  unfold f_small
  simp [startP, startE]
  refine (draw_spec hS (by omega) (by omega)).imp ?_
  rintro ⟨_, S1⟩ ⟨v, rfl, h0, h1, hS1⟩
  simp
  refine (flows_spec hS1 (by omega) (by omega) (by omega) (by omega) (by omega) (by omega)).imp ?_
  rintro ⟨_, S2⟩ ⟨a, b, rfl, hl, f, hS2⟩
  exact ⟨a, b, rfl, by omega, by omega, Flow.up f (by omega), hS2⟩
theorem great_spec {S : List D} (hS : PoolOk S) : Sat (F_great S []) (Drawn S) EX0 := by
  refine (wp_runP rfl).mpr ?_
  unfold f_great
  simp [startP, startE]
  refine (draw_spec hS (by omega) (by omega)).imp ?_
  rintro ⟨_, S1⟩ ⟨v, rfl, h0, h1, hS1⟩
  simp
  split
  · refine (draw_spec (n := 60) hS1 (by decide) (by decide)).imp ?_
    rintro ⟨_, S2⟩ ⟨v2, rfl, h20, h21, hS2⟩
    simp
    refine ⟨by simp [LINE], ?_⟩
    refine (draw_spec (n := 3) hS2 (by decide) (by decide)).imp ?_
    rintro ⟨_, S3⟩ ⟨v3, rfl, h30, h31, hS3⟩
    simp
    obtain ⟨x0, e0, hm, _⟩ := atI_of (xs := [D.int 1, D.int 40, D.int 999]) (i := v3) h30 (by simpa using h31)
    obtain ⟨x, rfl, hx0, hx1⟩ : ∃ x : Int, x0 = .int x ∧ 0 ≤ x ∧ x ≤ 999 := by
      simp at hm
      rcases hm with rfl | rfl | rfl <;> exact ⟨_, rfl, by omega, by omega⟩
    rw [e0]
    simp
    refine (flows_spec hS3 (by omega) (by omega) (by omega) (by omega) (by omega) (by omega)).imp ?_
    rintro ⟨_, S4⟩ ⟨a, b, rfl, hl, f, hS4⟩
    exact ⟨a, b, rfl, by omega, by omega, f, hS4⟩
  · refine (draw_spec hS1 (by omega) (by omega)).imp ?_
    rintro ⟨_, S2⟩ ⟨v2, rfl, h0, h1, hS2⟩
    simp
    refine (flows_spec hS2 (by omega) (by omega) (by omega) (by omega) (by omega) (by omega)).imp ?_
    rintro ⟨_, S4⟩ ⟨a, b, rfl, hl, f, hS4⟩
    exact ⟨a, b, rfl, by omega, by omega, Flow.up f (by omega), hS4⟩
theorem any_spec {S : List D} (hS : PoolOk S) : Sat (F_any S []) (Drawn S) EX0 := by
  refine (wp_runP rfl).mpr ?_
  unfold f_any
  simp [startP, startE]
  refine (draw_spec hS (by omega) (by omega)).imp ?_
  rintro ⟨_, S1⟩ ⟨v, rfl, h0, h1, hS1⟩
  simp
  split
  · refine (small_spec hS1).imp ?_
    rintro ⟨_, S2⟩ h
    exact h
  · refine (great_spec hS1).imp ?_
    rintro ⟨_, S2⟩ h
    exact h
theorem cell_spec (ns : List Int) (k : Int) (h0 : 0 ≤ k) (h1 : k < 1000) : Sat (F_cell [.scr ns, .int k]) (fun d => ∃ v : Int, d = .int v) EX0 := by
  refine (wp_runF rfl).mpr ?_
  unfold f_cell
  simp [startE, slcD]
  split
  · rename_i h
    obtain ⟨d, e, _⟩ := atI_of h0 h
    rw [e]
    exact ⟨d, rfl⟩
  · refine ⟨by omega, ?_⟩
    refine wp_for _ (fun i ρ S => ∃ (v : Int) (o : Option D), ρ = [some (D.scr ns), some (D.int k), some (.int v), o] ∧ S = []) ?_ ?_ ⟨_, none, rfl, rfl⟩
    · rintro i d ρ S hd ⟨v, o, rfl, rfl⟩
      obtain ⟨x, _, rfl⟩ := List.mem_map.mp (List.mem_of_getElem? hd)
      simp
    · rintro ρ S ⟨v, o, rfl, rfl⟩
      simp
theorem pool_spec (v : Int) : Sat (F_pool [.int v]) PoolOk EX0 := by
  refine (wp_runN rfl).mpr ?_
  unfold f_pool
  simp [startE, LINE]
  have h0 : 0 ≤ v % 2147483179 := Int.emod_nonneg _ (by decide)
  have h1 : v % 2147483179 < 2147483179 := Int.emod_lt_of_pos _ (by decide)
  split
  · exact ⟨_, _, _, rfl, h0, h1, by omega, by omega⟩
  · split
    · exact ⟨_, _, _, rfl, h0, h1, by omega, by omega⟩
    · exact ⟨_, _, _, rfl, h0, h1, by omega, by omega⟩
theorem atI_int {a : List Int} {i : Nat} (h : i < a.length) : L2.atI (intL a) (i : Int) = some (.int a[i]) := by
  have h2 : i < (intL a).length := by simpa using h
  unfold L2.atI ixN
  rw [if_pos (Int.natCast_nonneg i), if_pos (by exact_mod_cast h2)]
  rw [Option.bind_some, Int.toNat_natCast, List.getElem?_map, List.getElem?_eq_getElem h]
  rfl
end K79
set_option Elab.async false
set_option linter.all false
set_option maxRecDepth 100000
set_option maxHeartbeats 4000000
namespace K79
open PySem PySem.Spec PyProof.Rows L2 ClX PL
open LW (PoolOk Flow intL atI3 rng_at pre cnt)
def Ok3 (a : List Int) : Prop := ∀ x ∈ a, 0 ≤ x ∧ x < 1000
theorem Flow.ok3 {a b : List Int} (f : Flow a b 999) : Ok3 a ∧ Ok3 b := by
  have key : ∀ {l : List Int}, (∀ x ∈ l, 0 ≤ x) → ∀ x ∈ l, x ≤ l.sum := by
    intro l
    induction l with
    | nil => intro _ x hx; cases hx
    | cons y r ih =>
      intro h x hx
      have hy := h y (by simp)
      have hr := LW.sum_nn (l := r) fun z hz => h z (by simp [hz])
      rcases List.mem_cons.mp hx with rfl | hx
      · simp; omega
      · have := ih (fun z hz => h z (by simp [hz])) x hx
        simp; omega
  have hb := f.le a.length (Nat.le_refl _)
  rw [LW.pre_all a (Nat.le_refl _), LW.pre_all b (by have := f.len; omega)] at hb
  have ht := f.top
  refine ⟨fun x hx => ⟨f.ca x hx, ?_⟩, fun x hx => ⟨f.cb x hx, ?_⟩⟩
  · have := key f.ca x hx; omega
  · have := key f.cb x hx; omega
theorem Ok3.getD {a : List Int} (h : Ok3 a) (i : Nat) : 0 ≤ a.getD i 0 ∧ a.getD i 0 < 1000 := by
  rw [List.getD_eq_getElem?_getD]
  cases e : a[i]? with
  | none => simp
  | some x => exact h x (List.mem_of_getElem? e)
def Pl : D → Prop | .ins _ _ _ => False | .cls _ => False | .exn _ _ _ => False | _ => True
def numB : D → Bool | .int i => decide (0 ≤ i) && decide (i ≤ 999) | _ => false
def iv : D → Int | .int i => i | _ => 0
theorem numB_int {d : D} (h : numB d = true) : ∃ i : Int, d = .int i ∧ 0 ≤ i ∧ i ≤ 999 := by
  cases d <;> simp [numB] at h
  exact ⟨_, rfl, h.1, h.2⟩
theorem inu_D (d : D) (h : Pl d) : F_inu [d] = R.ok (.bl (numB d)) := by
  refine eq_sat ((wp_runF rfl).mpr ?_)
  have e : F_ii [d, .int 0, .int 999] = R.ok (.bl (numB d)) := by
    cases d with
    | int i => exact LW.ii_int i 0 999
    | ins => exact h.elim
    | cls => exact h.elim
    | exn => exact h.elim
    | _ =>
      refine eq_sat ((wp_runF rfl).mpr ?_)
      unfold f_ii
      simp [startE, tyK, known, tyB, numB]
  unfold f_inu
  simp [startE]
  rw [e]
  simp
/-- the first wrong tick -/
def scan : Int → Int → Int → List D → List D → Option Int
  | t, p, h, x :: xs, y :: ys => if (numB x && numB y) = true then (if 999 < p + iv x ∨ h + iv x - iv y < 0 then some t else scan (t + 1) (p + iv x) (h + iv x - iv y) xs ys) else some t
  | _, _, _, _, _ => none
def okLen (xs ys : List D) : Prop := xs.length = ys.length ∧ 1 ≤ xs.length ∧ xs.length ≤ 60
instance (xs ys : List D) : Decidable (okLen xs ys) := by unfold okLen; infer_instance
def fault : D → D → Option (Option Int)
  | .tup xs, .tup ys => if okLen xs ys then (scan 0 0 0 xs ys).map some else some none
  | _, _ => some none
def tkD : Option Int → D | none => .non | some t => .int t
/-- rows of plain things -/
def PlR : D → Prop | .tup xs => (∀ x ∈ xs, Pl x) ∧ xs.length ≤ 1000 | d => Pl d
theorem PlR.pl {d : D} (h : PlR d) : Pl d := by
  cases d <;> first | exact h | exact True.intro
theorem isT (d : D) (h : Pl d) : isiD (tyK "tuple") (inst0 cs) d = some (.bl (match d with | .tup _ => true | _ => false)) := by
  cases d <;> first | exact h.elim | (simp [tyK, known, tyB])
theorem cl_spec {x y : D} (hx : Pl x) (hy : Pl y) : F_cl [x, y] = RX .non (match x, y with
    | .tup xs, .tup ys => if okLen xs ys then none else some ("InvalidCounts", ["tick"], [D.non])
    | _, _ => some ("InvalidCounts", ["tick"], [.non])) := by
  refine eq_rx ((wp_runF rfl).mpr ?_)
  have ex := isT x hx
  have ey := isT y hy
  unfold f_cl
  simp [startE]
  rw [ex, ey]
  cases x with
  | tup xs =>
    cases y with
    | tup ys =>
      simp
      have e : okLen xs ys ↔ (xs.length = ys.length ∧ 1 ≤ xs.length ∧ xs.length ≤ 60) := Iff.rfl
      by_cases h1 : xs.length = ys.length
      · by_cases h2 : 1 ≤ xs.length
        · by_cases h3 : xs.length ≤ 60
          · simp [e, h1, h2, h3]
            rw [h1] at h2 h3
            simp [h2, h3]
            split <;> omega
          · simp [e, h1, h2, h3]
            rw [h1] at h2 h3
            simp [h2, h3]
            split <;> omega
        · simp [e, h1, h2]
          rw [h1] at h2
          simp [h2]
          omega
      · simp [e, h1]
        omega
    | _ => simp
  | _ => simp
theorem scan_int {t p h a b : Int} {xs ys : List D} (ha : numB (.int a) = true) (hb : numB (.int b) = true) : scan t p h (.int a :: xs) (.int b :: ys) = if 999 < p + a ∨ h + a - b < 0 then some t else scan (t + 1) (p + a) (h + a - b) xs ys := by
  show (if (numB (.int a) && numB (.int b)) = true then (if 999 < p + a ∨ h + a - b < 0 then some t else scan (t + 1) (p + a) (h + a - b) xs ys) else some t) = _
  rw [ha, hb]
  rfl
theorem scan_nil {t p h : Int} : scan t p h [] [] = none := rfl
theorem cn_spec {xs ys : List D} (hx : ∀ x ∈ xs, Pl x) (hy : ∀ y ∈ ys, Pl y) (hl : xs.length = ys.length) : F_cn [.tup xs, .tup ys] = RX .non ((scan 0 0 0 xs ys).map fun t => ("InvalidCounts", ["tick"], [D.int t])) := by
  generalize hX : D.tup xs = X
  generalize hY : D.tup ys = Y
  refine eq_rx ((wp_runF rfl).mpr ?_)
  unfold f_cn
  simp [← hX, ← hY, startE, zip2D, hl]
  refine wp_for _ (fun i ρ S => ∃ (p h : Int) (o1 o2 o3 : Option D), ρ = [some (.tup xs), some (.tup ys), some (.int p), some (.int h), o1, o2, o3] ∧ S = [] ∧ scan 0 0 0 xs ys = scan (i : Nat) p h (xs.drop i) (ys.drop i)) ?_ ?_ ⟨0, 0, none, none, none, rfl, rfl, rfl⟩
  · rintro i d ρ S hd ⟨p, h, o1, o2, o3, rfl, rfl, hs⟩
    obtain ⟨x, hx', rfl⟩ := LW.enD_at hd
    obtain ⟨hi, rfl⟩ := LW.rows2_at hx'
    have hi1 : i < xs.length := by omega
    have ex : xs.getD i .non = xs[i] := by simp [List.getElem?_eq_getElem hi1]
    have ey : ys.getD i .non = ys[i] := by simp [List.getElem?_eq_getElem hi]
    rw [ex, ey]
    have e1 := inu_D xs[i] (hx _ (List.getElem_mem _))
    have e2 := inu_D ys[i] (hy _ (List.getElem_mem _))
    rw [List.drop_eq_getElem_cons hi1, List.drop_eq_getElem_cons hi] at hs
    generalize hu : xs[i] = u
    generalize hv : ys[i] = v
    rw [hu] at e1 hs
    rw [hv] at e2 hs
    simp
    rw [e1]
    simp
    cases b1 : numB u with
    | false => simp [hs, scan, b1]
    | true =>
      rw [e2]
      simp
      cases b2 : numB v with
      | false => simp [hs, scan, b1, b2]
      | true =>
        obtain ⟨a, rfl, ha⟩ := numB_int b1
        obtain ⟨b, rfl, hb⟩ := numB_int b2
        simp
        rw [scan_int b1 b2] at hs
        by_cases c1 : 999 < p + a
        · simp [c1] at hs
          simp [c1, hs]
        · by_cases c2 : h + a - b < 0
          · simp [c2] at hs
            simp [c1, c2, hs]
          · rw [if_neg (by omega)] at hs
            simp [c1, c2, hs]
            exact ⟨_, _, ⟨rfl, rfl⟩, rfl⟩
  · rintro ρ S ⟨p, h, o1, o2, o3, rfl, rfl, hs⟩
    simp only [rows, enD, List.length_mapIdx, List.length_map, List.length_range] at hs
    rw [List.drop_eq_nil_of_le (by omega), List.drop_eq_nil_of_le (by omega), scan_nil] at hs
    simp [hs]
theorem ini_spec {x y : D} (hx : PlR x) (hy : PlR y) : F_ini [x, y] = RX [x, y] ((fault x y).map fun o => ("InvalidCounts", ["tick"], [tkD o])) := by
  have e1 := cl_spec hx.pl hy.pl
  refine eq_rx ((wp_runI rfl).mpr ?_)
  unfold f_ini
  simp [startP, startE]
  rw [e1]
  cases x with
  | tup xs =>
    cases y with
    | tup ys =>
      by_cases ho : okLen xs ys
      · have e2 := cn_spec (xs := xs) (ys := ys) hx.1 hy.1 ho.1
        simp [ho, RX, fault]
        rw [e2]
        cases es : scan 0 0 0 xs ys with
        | none =>
          simp [RX, nm_ini]
          decide +kernel
        | some t => simp [RX, tkD]
      · simp [ho, RX, fault, tkD]
    | _ => simp [RX, fault, tkD]
  | _ => simp [RX, fault, tkD]
end K79
set_option Elab.async false
set_option linter.all false
set_option maxRecDepth 100000
set_option maxHeartbeats 4000000
namespace K79
open PySem PySem.Spec PyProof.Rows L2 ClX PL
open LW (PoolOk Flow intL atI3 rng_at pre cnt)
theorem ad_ne : ¬ (Str.ofString "arrivals" = Str.ofString "departures") := by decide +kernel
theorem da_ne : ¬ (Str.ofString "departures" = Str.ofString "arrivals") := by decide +kernel
def ctr (x y : D) : D := .ins "Counts" nm_ini [x, y]
theorem fld_a (x y : D) : fldD "Counts" "arrivals" (ctr x y) = some x := by simp [ctr, fldD, lookF, nm_ini]
theorem fld_d (x y : D) : fldD "Counts" "departures" (ctr x y) = some y := by simp [ctr, fldD, lookF, nm_ini, ad_ne, da_ne]
/-! people present -/
def dd (a b : List Int) (i : Nat) : Int := pre a i - pre b i
def prs (a b : List Int) : List Int := (List.range a.length).map fun i => dd a b (i + 1)
theorem pa_ok {a b : List Int} (hab : a.length = b.length) (hl : a.length ≤ 60) : F_pra [.tup (intL a), .tup (intL b)] = R.ok (.tup (intL (prs a b))) := by
  refine eq_sat ((wp_runF rfl).mpr ?_)
  unfold f_pra
  simp [startE, zip2D, hab, LINE]
  refine wp_for _ (fun i ρ S => ∃ (o1 o2 : Option D), ρ = [some (.tup (intL a)), some (.tup (intL b)), some (.int (dd a b i)), some (.lst (intL ((List.range i).map fun t => dd a b (t + 1)))), o1, o2] ∧ S = []) ?_ ?_ ⟨none, none, by simp [dd, LW.pre_zero], rfl⟩
  · rintro i d ρ S hd ⟨o1, o2, rfl, rfl⟩
    obtain ⟨hi, rfl⟩ := LW.rows2_at hd
    have ha : a[i]? = some a[i] := List.getElem?_eq_getElem (by omega)
    have hb : b[i]? = some b[i] := List.getElem?_eq_getElem hi
    have ea : (intL a).getD i .non = .int a[i] := by simp [ha]
    have eb : (intL b).getD i .non = .int b[i] := by simp [hb]
    rw [ea, eb]
    have h1 := LW.pre_succ ha
    have h2 := LW.pre_succ hb
    have e : dd a b i + a[i] - b[i] = dd a b (i + 1) := by unfold dd; omega
    simp [LINE, e]
    refine ⟨by omega, ?_⟩
    rw [List.range_succ, List.map_append]
    simp
  · rintro ρ S ⟨o1, o2, rfl, rfl⟩
    have hr : (rows [intL a, intL b] b.length).length = b.length := by simp [rows]
    simp [prs, hab, hr]
theorem pres_ok {a b : List Int} (hab : a.length = b.length) (hl : a.length ≤ 60) : F_pre [ctr (.tup (intL a)) (.tup (intL b))] = R.ok (.tup (intL (prs a b))) := by
  have e := pa_ok hab hl
  have f1 := fld_a (.tup (intL a)) (.tup (intL b))
  have f2 := fld_d (.tup (intL a)) (.tup (intL b))
  refine eq_sat ((wp_runF rfl).mpr ?_)
  unfold f_pre
  generalize ctr (.tup (intL a)) (.tup (intL b)) = c at *
  simp [startE, f1, f2, e]
theorem rest_sat {a b : List Int} (hab : a.length = b.length) (hl : a.length ≤ 60) (x y : D) (p : List D) (hx : D.tup (intL a) = x) (hy : D.tup (intL b) = y) (hp : intL (prs a b) = p) : Sat (f_rest (startE 5 [x, y]) []) (fun r => r.1 = p) EX0 := by
  subst hx
  subst hy
  subst hp
  unfold f_rest
  simp [startE, LINE]
  refine ⟨by omega, ?_⟩
  refine wp_for _ (fun i ρ S => ∃ (o1 : Option D), ρ = [some (.tup (intL a)), some (.tup (intL b)), some (.lst (intL ((List.range i).map fun t => dd a b (t + 1)))), some (.int (dd a b i)), o1] ∧ S = []) ?_ ?_ ⟨none, by simp [dd, LW.pre_zero], rfl⟩
  · rintro i d ρ S hd ⟨o1, rfl, rfl⟩
    obtain ⟨hi, rfl⟩ := rng_at (lo := 0) (by simpa using hd)
    have ha : a[i]? = some (a[i]'(by omega)) := List.getElem?_eq_getElem (by omega)
    have hb : b[i]? = some (b[i]'(by omega)) := List.getElem?_eq_getElem (by omega)
    have q1 := atI_int (a := a) (i := i) (by omega)
    have q2 := atI_int (a := b) (i := i) (by omega)
    have h1 := LW.pre_succ ha
    have h2 := LW.pre_succ hb
    have e : dd a b i + (a[i]'(by omega)) - (b[i]'(by omega)) = dd a b (i + 1) := by unfold dd; omega
    simp [LINE, q1, q2, e]
    refine ⟨by omega, ?_⟩
    rw [List.range_succ, List.map_append]
    simp
  · rintro ρ S ⟨o1, rfl, rfl⟩
    simp [prs]
theorem rest_ok {a b : List Int} (hab : a.length = b.length) (hl : a.length ≤ 60) : F_rest [.tup (intL a), .tup (intL b)] = R.ok (intL (prs a b)) := by
  generalize hx : D.tup (intL a) = x
  generalize hy : D.tup (intL b) = y
  generalize hp : intL (prs a b) = p
  have key := rest_sat hab hl x y p hx hy hp
  have e1 : F_rest [x, y] = (f_rest (startE 5 [x, y]) [] >>= fun r => R.ok r.1) := if_pos (show [x, y].length = 2 from rfl)
  rw [e1]
  cases e : f_rest (startE 5 [x, y]) [] with
  | ok r => rw [e] at key; exact congrArg R.ok key
  | exc _ _ _ => rw [e] at key; exact key.elim
  | bad => rw [e] at key; exact key.elim
theorem peo_ok (a : List Int) (y : D) : F_peo [ctr (.tup (intL a)) y] = R.ok (.int a.sum) := by
  have f1 := fld_a (.tup (intL a)) y
  refine eq_sat ((wp_runF rfl).mpr ?_)
  unfold f_peo
  generalize ctr (.tup (intL a)) y = c at *
  simp [startE, f1]
/-! counts are flows -/
theorem scan_flow : ∀ (a b : List Int) (t p h : Int), a.length = b.length → Ok3 a → Ok3 b → (∀ k, k ≤ a.length → 0 ≤ h + pre a k - pre b k) → p + a.sum ≤ 999 → scan t p h (intL a) (intL b) = none
  | [], [], _, _, _, _, _, _, _, _ => rfl
  | [], _ :: _, _, _, _, hl, _, _, _, _ => by simp at hl
  | _ :: _, [], _, _, _, hl, _, _, _, _ => by simp at hl
  | x :: a, y :: b, t, p, h, hl, oa, ob, hk, hs => by
    have hx := oa x (by simp)
    have hy := ob y (by simp)
    have nx : numB (.int x) = true := by simp [numB]; omega
    have ny : numB (.int y) = true := by simp [numB]; omega
    have oa' : Ok3 a := fun z hz => oa z (by simp [hz])
    have ob' : Ok3 b := fun z hz => ob z (by simp [hz])
    have sa := LW.sum_nn (l := a) fun z hz => (oa' z hz).1
    have e1 : ∀ k, pre (x :: a) (k + 1) = x + pre a k := fun k => by simp [pre]
    have e2 : ∀ k, pre (y :: b) (k + 1) = y + pre b k := fun k => by simp [pre]
    simp at hs hl
    have h1 := hk 1 (by simp)
    rw [e1, e2, LW.pre_zero, LW.pre_zero] at h1
    show scan t p h (.int x :: intL a) (.int y :: intL b) = none
    rw [scan_int nx ny, if_neg (by omega)]
    refine scan_flow a b _ _ _ hl oa' ob' (fun k hk' => ?_) (by omega)
    have := hk (k + 1) (by simpa using hk')
    rw [e1, e2] at this
    omega
theorem flow_fault {a b : List Int} (f : Flow a b 999) (h1 : 1 ≤ a.length) (h2 : a.length ≤ 60) : fault (.tup (intL a)) (.tup (intL b)) = none := by
  obtain ⟨oa, ob⟩ := Flow.ok3 f
  have hl := f.len
  have hs := scan_flow a b 0 0 0 hl oa ob (fun k hk => by have := f.le k hk; omega) (by have := f.top; omega)
  have : fault (.tup (intL a)) (.tup (intL b)) = (scan 0 0 0 (intL a) (intL b)).map some := if_pos ⟨by simpa using hl, by simpa using h1, by simpa using h2⟩
  rw [this, hs]
  rfl
theorem prs_ok {a b : List Int} (f : Flow a b 999) : Ok3 (prs a b) := by
  intro x hx
  obtain ⟨i, hi, rfl⟩ := List.mem_map.mp hx
  have hi : i < a.length := by simpa using hi
  have h1 := f.le (i + 1) (by omega)
  have h2 := LW.pre_le f.ca (i + 1)
  have h3 := LW.pre_nn f.cb (i + 1)
  have h4 := f.top
  unfold dd
  omega
end K79
set_option Elab.async false
set_option linter.all false
set_option maxRecDepth 100000
set_option maxHeartbeats 4000000
namespace K79
open PySem PySem.Spec PyProof.Rows L2 ClX PL
open LW (PoolOk Flow intL atI3 rng_at pre cnt)
/-- a number's or a word's columns -/
def colI (W : Nat) (i : Int) : Str := blk ((W : Int) - (((toString i : String) : Str).length : Int)) ++ ((toString i : String) : Str)
theorem dig_str : ∀ n : Nat, n < 1000 → ((toString ((n : Nat) : Int) : String) : Str) = ⟨((Nat.toDigits 10 n).map Char.toNat).toArray⟩ := fun n _ => text_ofNat n
theorem pad_col : ∀ W ∈ [4, 6, 8], ∀ n < 1000, padN W n = blk ((W : Int) - ((Nat.toDigits 10 n).length : Int)) ++ (⟨((Nat.toDigits 10 n).map Char.toNat).toArray⟩ : Str) := by decide +kernel
theorem pad_colI {W : Nat} (hW : W ∈ [4, 6, 8]) {i : Int} (h : 0 ≤ i ∧ i < 1000) : padN W i.toNat = colI W i := by
  obtain ⟨n, rfl⟩ : ∃ n : Nat, i = n := ⟨i.toNat, by omega⟩
  have e := dig_str n (by omega)
  unfold colI
  rw [e, Int.toNat_natCast, pad_col W hW n (by omega)]
  have l : ((⟨((Nat.toDigits 10 n).map Char.toNat).toArray⟩ : Str)).length = (Nat.toDigits 10 n).length := by
    show (Array.size _) = _
    simp
  rw [l]
def rowI (t x y p : Int) : Str := ((colI 4 t ++ colI 6 x) ++ colI 6 y) ++ colI 8 p
end K79
set_option Elab.async false
set_option linter.all false
set_option maxRecDepth 100000
set_option maxHeartbeats 4000000
namespace K79
open PySem PySem.Spec PyProof.Rows L2 ClX PL
open LW (PoolOk Flow intL atI3 rng_at pre cnt)
def I3 (i : Int) : Prop := 0 ≤ i ∧ i < 1000
theorem blk_len {n : Int} (h : n ≤ 8) : (blk n).length ≤ 8 := by
  by_cases h1 : n < 1
  · have : blk n = Str.empty := if_pos h1
    rw [this]; decide
  · have : n = 1 ∨ n = 2 ∨ n = 3 ∨ n = 4 ∨ n = 5 ∨ n = 6 ∨ n = 7 ∨ n = 8 := by omega
    rcases this with rfl | rfl | rfl | rfl | rfl | rfl | rfl | rfl <;> decide +kernel
theorem colI_len {W : Nat} (hW : W ≤ 8) {i : Int} (h : I3 i) : (colI W i).length ≤ 12 := by
  have n := (nice_int h.1 h.2).2
  have b := blk_len (n := (W : Int) - (((toString i : String) : Str).length : Int)) (by omega)
  unfold colI
  rw [len_append]
  omega
theorem fmt_int {W : Nat} (hW : W ∈ [4, 6, 8]) {i : Int} (h : I3 i) : fmtS W (.int i) = some (.str (colI W i)) := by
  have e : fmtS W (.int i) = if 0 ≤ i ∧ i < 1000 then some (.str (padN W i.toNat)) else none := rfl
  rw [e, if_pos (show 0 ≤ i ∧ i < 1000 from h), pad_colI hW h]
theorem row_ok {t x y p : Int} (ht : I3 t) (hx : I3 x) (hy : I3 y) (hp : I3 p) : F_row [.int t, .int x, .int y, .int p] = R.ok (.str (rowI t x y p)) := by
  have e1 := fmt_int (W := 4) (by decide) ht
  have e2 := fmt_int (W := 6) (by decide) hx
  have e3 := fmt_int (W := 6) (by decide) hy
  have e4 := fmt_int (W := 8) (by decide) hp
  have l1 := colI_len (W := 4) (by omega) ht
  have l2 := colI_len (W := 6) (by omega) hx
  have l3 := colI_len (W := 6) (by omega) hy
  have l4 := colI_len (W := 8) (by omega) hp
  have em : ∀ z : Str, Str.empty ++ z = z := Str.empty_append
  refine eq_sat ((wp_runF rfl).mpr ?_)
  unfold f_row rowI
  simp [startE, e1, e2, e3, e4, LINE, len_append, em]
  omega
def strI (i : Int) : Str := ((toString i : String) : Str)
theorem strI_ok {i : Int} (h : I3 i) : strS [.int i] = some (.str (strI i)) ∧ (strI i).length ≤ 4 := ⟨if_pos (log_small h.1 h.2), (nice_int h.1 h.2).2⟩
theorem emS : ((("" : String) : Str)) = Str.empty := by decide +kernel
theorem lrow_gen {d0 d1 d2 d3 : D} {s0 s1 s2 s3 : Str} (h0 : strS [d0] = some (.str s0) ∧ s0.length ≤ 7) (h1 : strS [d1] = some (.str s1) ∧ s1.length ≤ 7) (h2 : strS [d2] = some (.str s2) ∧ s2.length ≤ 7) (h3 : strS [d3] = some (.str s3) ∧ s3.length ≤ 7) :
    F_lrow [.lst [d0, d1, d2, d3]] = R.ok (.str ((((((((Str.empty ++ blk (4 - s0.length)) ++ s0) ++ blk (6 - s1.length)) ++ s1) ++ blk (6 - s2.length)) ++ s2) ++ blk (8 - s3.length)) ++ s3)) := by
  obtain ⟨a0, b0⟩ := h0
  obtain ⟨a1, b1⟩ := h1
  obtain ⟨a2, b2⟩ := h2
  obtain ⟨a3, b3⟩ := h3
  have c0 := blk_len (n := 4 - (s0.length : Int)) (by omega)
  have c1 := blk_len (n := 6 - (s1.length : Int)) (by omega)
  have c2 := blk_len (n := 6 - (s2.length : Int)) (by omega)
  have c3 := blk_len (n := 8 - (s3.length : Int)) (by omega)
  have r4 : (List.range 4).map (fun i : Nat => D.int (i : Int)) = [.int 0, .int 1, .int 2, .int 3] := rfl
  have i0 : ∀ u0 u1 u2 u3 : D, idxD (.lst [u0, u1, u2, u3]) (.int 0) = some u0 := fun _ _ _ _ => rfl
  have i1 : ∀ u0 u1 u2 u3 : D, idxD (.lst [u0, u1, u2, u3]) (.int 1) = some u1 := fun _ _ _ _ => rfl
  have i2 : ∀ u0 u1 u2 u3 : D, idxD (.lst [u0, u1, u2, u3]) (.int 2) = some u2 := fun _ _ _ _ => rfl
  have i3 : ∀ u0 u1 u2 u3 : D, idxD (.lst [u0, u1, u2, u3]) (.int 3) = some u3 := fun _ _ _ _ => rfl
  have g0 : lenD [.str s0] = some (.int (s0.length : Nat)) := if_pos (by simp only [LINE]; omega)
  have g1 : lenD [.str s1] = some (.int (s1.length : Nat)) := if_pos (by simp only [LINE]; omega)
  have g2 : lenD [.str s2] = some (.int (s2.length : Nat)) := if_pos (by simp only [LINE]; omega)
  have g3 : lenD [.str s3] = some (.int (s3.length : Nat)) := if_pos (by simp only [LINE]; omega)
  have k0 : Str.empty.length = 0 := rfl
  refine eq_sat ((wp_runF rfl).mpr ?_)
  unfold f_lrow
  generalize hg : D.lst [d0, d1, d2, d3] = dl at *
  have j0 : idxD dl (.int 0) = some d0 := by subst hg; rfl
  have j1 : idxD dl (.int 1) = some d1 := by subst hg; rfl
  have j2 : idxD dl (.int 2) = some d2 := by subst hg; rfl
  have j3 : idxD dl (.int 3) = some d3 := by subst hg; rfl
  simp [startE, LINE]
  rw [r4]
  simp [wp_for_cons, wp_for_nil, LINE, i0, i1, i2, i3, j0, j1, j2, j3, a0, a1, a2, a3, len_append, emS, g0, g1, g2, g3, k0]
  omega
theorem lrow_ok {t x y p : Int} (ht : I3 t) (hx : I3 x) (hy : I3 y) (hp : I3 p) : F_lrow [.lst [.int t, .int x, .int y, .int p]] = R.ok (.str (rowI t x y p)) := by
  have q := fun {i : Int} (h : I3 i) => (⟨(strI_ok h).1, by have := (strI_ok h).2; omega⟩ : strS [.int i] = some (.str (strI i)) ∧ (strI i).length ≤ 7)
  rw [lrow_gen (q ht) (q hx) (q hy) (q hp)]
  have em : ∀ z : Str, Str.empty ++ z = z := Str.empty_append
  simp only [rowI, colI, strI, em, Str.append_assoc]
  rfl
/-- the first row, the last row -/
def headT : Str := ((padW 4 "tick" ++ padW 6 "in") ++ padW 6 "out") ++ padW 8 "present"
def lastT (x y p : Int) : Str := ((padW 4 "all" ++ colI 6 x) ++ colI 6 y) ++ colI 8 p
theorem row_head : F_row [.str "tick", .str "in", .str "out", .str "present"] = R.ok (.str headT) := by kernel_rfl
theorem lrow_head : F_lrow [.lst [.str "tick", .str "in", .str "out", .str "present"]] = R.ok (.str headT) := by
  rw [lrow_gen (d0 := .str "tick") (d1 := .str "in") (d2 := .str "out") (d3 := .str "present") (s0 := "tick") (s1 := "in") (s2 := "out") (s3 := "present") ⟨by kernel_rfl, by decide +kernel⟩ ⟨by kernel_rfl, by decide +kernel⟩ ⟨by kernel_rfl, by decide +kernel⟩ ⟨by kernel_rfl, by decide +kernel⟩]
  have e : ((((((((Str.empty ++ blk (4 - ((("tick" : String) : Str)).length)) ++ (("tick" : String) : Str)) ++ blk (6 - ((("in" : String) : Str)).length)) ++ (("in" : String) : Str)) ++ blk (6 - ((("out" : String) : Str)).length)) ++ (("out" : String) : Str)) ++ blk (8 - ((("present" : String) : Str)).length)) ++ (("present" : String) : Str)) = headT := by decide +kernel
  rw [e]
theorem row_last {x y p : Int} (hx : I3 x) (hy : I3 y) (hp : I3 p) : F_row [.str "all", .int x, .int y, .int p] = R.ok (.str (lastT x y p)) := by
  have e1 : fmtS 4 (.str "all") = some (.str (padW 4 "all")) := by kernel_rfl
  have e2 := fmt_int (W := 6) (by decide) hx
  have e3 := fmt_int (W := 6) (by decide) hy
  have e4 := fmt_int (W := 8) (by decide) hp
  have l1 : (padW 4 "all").length = 4 := by decide +kernel
  have l2 := colI_len (W := 6) (by omega) hx
  have l3 := colI_len (W := 6) (by omega) hy
  have l4 := colI_len (W := 8) (by omega) hp
  have em : ∀ z : Str, Str.empty ++ z = z := Str.empty_append
  refine eq_sat ((wp_runF rfl).mpr ?_)
  unfold f_row lastT
  generalize padW 4 "all" = w at *
  simp [startE, e1, e2, e3, e4, LINE, len_append, em]
  omega
theorem lrow_last {x y p : Int} (hx : I3 x) (hy : I3 y) (hp : I3 p) : F_lrow [.lst [.str "all", .int x, .int y, .int p]] = R.ok (.str (lastT x y p)) := by
  have q := fun {i : Int} (h : I3 i) => (⟨(strI_ok h).1, by have := (strI_ok h).2; omega⟩ : strS [.int i] = some (.str (strI i)) ∧ (strI i).length ≤ 7)
  rw [lrow_gen (d0 := .str "all") (s0 := "all") ⟨by kernel_rfl, by decide +kernel⟩ (q hx) (q hy) (q hp)]
  have e : (Str.empty ++ blk (4 - ((("all" : String) : Str)).length)) ++ (("all" : String) : Str) = padW 4 "all" := by decide +kernel
  rw [e]
  simp only [lastT, colI, strI, Str.append_assoc]
  rfl
end K79
set_option Elab.async false
set_option linter.all false
set_option maxRecDepth 100000
set_option maxHeartbeats 4000000
namespace K79
open PySem PySem.Spec PyProof.Rows L2 ClX PL
open LW (PoolOk Flow intL atI3 rng_at pre cnt)
theorem len_ok (a b : List Int) : F_len [ctr (.tup (intL a)) (.tup (intL b))] = R.ok (.int a.length) := by
  have f1 := fld_a (.tup (intL a)) (.tup (intL b))
  have lx : lenD [.tup (intL a)] = some (.int (a.length : Int)) := by simp
  refine eq_sat ((wp_runF rfl).mpr ?_)
  unfold f_len
  generalize ctr (.tup (intL a)) (.tup (intL b)) = c at *
  generalize D.tup (intL a) = X at *
  simp [startE, f1, lx]
theorem ckc_ok (x y : D) : F_ckc [ctr x y] = R.ok .non := by
  refine eq_sat ((wp_runF rfl).mpr ?_)
  unfold f_ckc ctr
  simp [startE, inst1]
def rowAt (a b : List Int) (i : Nat) : Str := rowI i (a.getD i 0) (b.getD i 0) (dd a b (i + 1))
def bodyT (a b : List Int) (k : Nat) : List Str := headT :: (List.range k).map (rowAt a b)
def allT (a b : List Int) : Bool → List Str | false => bodyT a b a.length | true => bodyT a b a.length ++ [lastT a.sum b.sum (dd a b a.length)]
abbrev stL (l : List Str) : List D := l.map D.str
theorem body_succ (a b : List Int) (k : Nat) : stL (bodyT a b (k + 1)) = stL (bodyT a b k) ++ [.str (rowAt a b k)] := by
  simp [bodyT, List.range_succ, stL]
theorem rowI_len {t x y p : Int} (ht : I3 t) (hx : I3 x) (hy : I3 y) (hp : I3 p) : (rowI t x y p).length ≤ 48 := by
  have l1 := colI_len (W := 4) (by omega) ht
  have l2 := colI_len (W := 6) (by omega) hx
  have l3 := colI_len (W := 6) (by omega) hy
  have l4 := colI_len (W := 8) (by omega) hp
  unfold rowI
  simp only [len_append]
  omega
theorem row_at {a b : List Int} (f : Flow a b 999) (h2 : a.length ≤ 60) {i : Nat} (hi : i < a.length) : I3 (i : Int) ∧ I3 (a.getD i 0) ∧ I3 (b.getD i 0) ∧ I3 (dd a b (i + 1)) := by
  obtain ⟨oa, ob⟩ := Flow.ok3 f
  have op := prs_ok f
  refine ⟨⟨by omega, by omega⟩, Ok3.getD oa i, Ok3.getD ob i, ?_⟩
  have := op (dd a b (i + 1)) (by unfold prs; exact List.mem_map.mpr ⟨i, by simpa using hi, rfl⟩)
  exact this
theorem idx_at {a : List Int} {i : Nat} (hi : i < a.length) : idxD (.tup (intL a)) (.int (i : Int)) = some (.int (a.getD i 0)) := by
  have e := atI_int (a := a) (i := i) hi
  have e2 : a.getD i 0 = a[i] := by simp [List.getD, List.getElem?_eq_getElem hi]
  rw [e2]
  simp [e]
theorem idx_prs {a b : List Int} {i : Nat} (hi : i < a.length) : idxD (.tup (intL (prs a b))) (.int (i : Int)) = some (.int (dd a b (i + 1))) := by
  have e := atI_int (a := prs a b) (i := i) (by simpa [prs] using hi)
  have e2 : (prs a b)[i]'(by simpa [prs] using hi) = dd a b (i + 1) := by simp [prs]
  rw [e2] at e
  simp [e]
theorem atI_last (xs : List D) (d : D) : L2.atI (xs ++ [d]) (-1) = some d := by
  have e : L2.ixN (xs ++ [d]).length (-1) = some xs.length := by
    unfold L2.ixN
    simp
    omega
  unfold L2.atI
  rw [e]
  simp
theorem last_ok {a b : List Int} (h1 : 1 ≤ a.length) : idxD (.tup (intL (prs a b))) (.int (-1)) = some (.int (dd a b a.length)) := by
  obtain ⟨n, hn⟩ : ∃ n, a.length = n + 1 := ⟨a.length - 1, by omega⟩
  have e : intL (prs a b) = intL ((List.range n).map fun i => dd a b (i + 1)) ++ [.int (dd a b (n + 1))] := by
    unfold prs
    rw [hn, List.range_succ]
    simp [intL]
  rw [e, hn]
  simp
  show L2.atI (_ ++ [D.int (dd a b (n + 1))]) (-1) = _
  exact atI_last _ _
end K79
set_option Elab.async false
set_option linter.all false
set_option maxRecDepth 100000
set_option maxHeartbeats 4000000
namespace K79
open PySem PySem.Spec PyProof.Rows L2 ClX PL
open LW (PoolOk Flow intL atI3 rng_at pre cnt)
theorem tab_ok {a b : List Int} (f : Flow a b 999) (h1 : 1 ≤ a.length) (h2 : a.length ≤ 60) (k : Bool) {nl : D} {t : Str} (hj : joinD (.str "\n") [.lst (stL (allT a b k))] = some (.str t)) :
    F_tab [ctr (.tup (intL a)) (.tup (intL b)), .bl k] = R.ok (.str t) := by
  have hl := f.len
  have fa := fld_a (.tup (intL a)) (.tup (intL b))
  have fd := fld_d (.tup (intL a)) (.tup (intL b))
  have ck := ckc_ok (.tup (intL a)) (.tup (intL b))
  have ln := len_ok a b
  have pr := pres_ok hl h2
  have pe := peo_ok a (.tup (intL b))
  have rw0 := row_head
  have su : sumA [.tup (intL b)] = some (.int b.sum) := sumA_tup b
  have il := last_ok (b := b) h1
  have hia := fun {i : Nat} (h : i < a.length) => idx_at (a := a) h
  have hib := fun {i : Nat} (h : i < a.length) => idx_at (a := b) (i := i) (by omega)
  have hip := fun {i : Nat} (h : i < a.length) => idx_prs (a := a) (b := b) h
  have hr := fun {i : Nat} (h : i < a.length) => (let q := row_at f h2 h; row_ok q.1 q.2.1 q.2.2.1 q.2.2.2)
  refine eq_sat ((wp_runF rfl).mpr ?_)
  unfold f_tab
  unfold ctr at *
  generalize D.tup (intL a) = X at *
  generalize D.tup (intL b) = Y at *
  generalize D.tup (intL (prs a b)) = Z at *
  simp [startE, ck, pr, rw0, ln, LINE]
  refine ⟨by omega, by omega, ?_⟩
  refine wp_for _ (fun i ρ S => ∃ (o : Option D), ρ = [some (.ins "Counts" nm_ini [X, Y]), some (.bl k), some Z, some (.lst (stL (bodyT a b i))), o] ∧ S = []) ?_ ?_ ⟨none, by simp [bodyT], rfl⟩
  · rintro i d ρ S hd ⟨o, rfl, rfl⟩
    obtain ⟨hi, rfl⟩ := rng_at (lo := 0) (by simpa using hd)
    have hi : i < a.length := by omega
    have q1 := hia hi
    have q2 := hib hi
    have q3 := hip hi
    have q4 := hr hi
    have bl : (stL (bodyT a b i)).length = i + 1 := by simp [bodyT]
    have bs := body_succ a b i
    have ra : rowAt a b i = rowI (↑i) (a.getD i 0) (b.getD i 0) (dd a b (i + 1)) := rfl
    rw [ra] at bs
    generalize stL (bodyT a b i) = xs at *
    generalize stL (bodyT a b (i + 1)) = ys at *
    generalize rowI (↑i) (a.getD i 0) (b.getD i 0) (dd a b (i + 1)) = r at *
    generalize a.getD i 0 = u at *
    generalize b.getD i 0 = v at *
    simp [LINE, fa, fd, q1, q2, q3, q4, bs]
    omega
  · rintro ρ S ⟨o, rfl, rfl⟩
    have oaob := Flow.ok3 f
    have s0 := LW.sum_nn f.ca
    have s1 := LW.sum_nn f.cb
    have tp := f.top
    have pa : pre a a.length = a.sum := by simp [pre]
    have pb : pre b a.length = b.sum := by rw [hl]; simp [pre]
    have le := f.le a.length (Nat.le_refl _)
    rw [pa, pb] at le
    have ed : dd a b a.length = a.sum - b.sum := by unfold dd; rw [pa, pb]
    have i3 : I3 (dd a b a.length) := by rw [ed]; exact ⟨by omega, by omega⟩
    have lr := row_last (x := a.sum) (y := b.sum) (p := dd a b a.length) ⟨by omega, by omega⟩ ⟨by omega, by omega⟩ i3
    have hn : ((List.range a.length).map fun i : Nat => D.int (i : Int)).length = a.length := by simp
    have bl : (stL (bodyT a b a.length)).length = a.length + 1 := by simp [bodyT]
    rw [hn]
    cases k with
    | false =>
      unfold allT at hj
      generalize stL (bodyT a b a.length) = xs at *
      simp [hj, LINE]
    | true =>
      have e : stL (allT a b true) = stL (bodyT a b a.length) ++ [.str (lastT a.sum b.sum (dd a b a.length))] := by simp [allT, stL]
      rw [e] at hj
      generalize stL (bodyT a b a.length) = xs at *
      simp [LINE, fd, pe, lr, hj, su, il]
      omega
end K79
set_option Elab.async false
set_option linter.all false
set_option maxRecDepth 100000
set_option maxHeartbeats 4000000
namespace K79
open PySem PySem.Spec PyProof.Rows L2 ClX PL
open LW (PoolOk Flow intL atI3 rng_at pre cnt)
theorem idx_prsL {a b : List Int} {i : Nat} (hi : i < a.length) : idxD (.lst (intL (prs a b))) (.int (i : Int)) = some (.int (dd a b (i + 1))) := by
  have e := atI_int (a := prs a b) (i := i) (by simpa [prs] using hi)
  have e2 : (prs a b)[i]'(by simpa [prs] using hi) = dd a b (i + 1) := by simp [prs]
  rw [e2] at e
  simp [e]
theorem last_okL {a b : List Int} (h1 : 1 ≤ a.length) : idxD (.lst (intL (prs a b))) (.int (-1)) = some (.int (dd a b a.length)) := by
  have := last_ok (b := b) h1
  simpa using this
theorem due_sat {a b : List Int} (f : Flow a b 999) (h1 : 1 ≤ a.length) (h2 : a.length ≤ 60) (k : Bool) {t : Str} {X Y : D} {z : List D} (eX : D.tup (intL a) = X) (eY : D.tup (intL b) = Y) (ez : intL (prs a b) = z) (hj : joinD (.str "\n") [.lst (stL (allT a b k))] = some (.str t)) :
    Sat (f_due (startE 6 [X, Y, .bl k]) []) (fun r => Sat (endD r) (fun x => x = .str t) EX0) EX0 := by
  have hl := f.len
  have rs := rest_ok hl h2
  have rw0 := lrow_head
  have lx : lenD [.tup (intL a)] = some (.int (a.length : Int)) := by simp
  have sa : sumA [.tup (intL a)] = some (.int a.sum) := sumA_tup a
  have sb : sumA [.tup (intL b)] = some (.int b.sum) := sumA_tup b
  have il := last_okL (b := b) h1
  have hia := fun {i : Nat} (h : i < a.length) => idx_at (a := a) h
  have hib := fun {i : Nat} (h : i < a.length) => idx_at (a := b) (i := i) (by omega)
  have hip := fun {i : Nat} (h : i < a.length) => idx_prsL (a := a) (b := b) h
  have hr := fun {i : Nat} (h : i < a.length) => (let q := row_at f h2 h; lrow_ok q.1 q.2.1 q.2.2.1 q.2.2.2)
  rw [eX] at rs lx sa hia
  rw [eY] at rs sb hib
  rw [ez] at rs il hip
  clear eX eY ez
  unfold f_due
  simp [startE, rs, rw0, lx, LINE]
  refine ⟨by omega, ?_⟩
  refine wp_for _ (fun i ρ S => ∃ (o : Option D), ρ = [some X, some Y, some (.bl k), some (.lst z), some (.lst (stL (bodyT a b i))), o] ∧ S = []) ?_ ?_ ⟨none, by simp [bodyT], rfl⟩
  · rintro i d ρ S hd ⟨o, rfl, rfl⟩
    obtain ⟨hi, rfl⟩ := rng_at (lo := 0) (by simpa using hd)
    have hi : i < a.length := by omega
    have q1 := hia hi
    have q2 := hib hi
    have q3 := hip hi
    have q4 := hr hi
    have bl : (stL (bodyT a b i)).length = i + 1 := by simp [bodyT]
    have bs := body_succ a b i
    have ra : rowAt a b i = rowI (↑i) (a.getD i 0) (b.getD i 0) (dd a b (i + 1)) := rfl
    rw [ra] at bs
    generalize stL (bodyT a b i) = xs at *
    generalize stL (bodyT a b (i + 1)) = ys at *
    generalize rowI (↑i) (a.getD i 0) (b.getD i 0) (dd a b (i + 1)) = r at *
    generalize a.getD i 0 = u at *
    generalize b.getD i 0 = v at *
    simp [LINE, q1, q2, q3, q4, bs, -idxD_lst]
    omega
  · rintro ρ S ⟨o, rfl, rfl⟩
    have s0 := LW.sum_nn f.ca
    have s1 := LW.sum_nn f.cb
    have tp := f.top
    have pa : pre a a.length = a.sum := by simp [pre]
    have pb : pre b a.length = b.sum := by rw [hl]; simp [pre]
    have le := f.le a.length (Nat.le_refl _)
    rw [pa, pb] at le
    have ed : dd a b a.length = a.sum - b.sum := by unfold dd; rw [pa, pb]
    have i3 : I3 (dd a b a.length) := by rw [ed]; exact ⟨by omega, by omega⟩
    have lr := lrow_last (x := a.sum) (y := b.sum) (p := dd a b a.length) ⟨by omega, by omega⟩ ⟨by omega, by omega⟩ i3
    have hn : ((List.range a.length).map fun i : Nat => D.int (i : Int)).length = a.length := by simp
    have bl : (stL (bodyT a b a.length)).length = a.length + 1 := by simp [bodyT]
    rw [hn]
    cases k with
    | false =>
      unfold allT at hj
      generalize stL (bodyT a b a.length) = xs at *
      simp [hj, LINE]
    | true =>
      have e : stL (allT a b true) = stL (bodyT a b a.length) ++ [.str (lastT a.sum b.sum (dd a b a.length))] := by simp [allT, stL]
      rw [e] at hj
      generalize stL (bodyT a b a.length) = xs at *
      simp [LINE, lr, hj, sa, sb, il, -idxD_lst]
      omega
theorem due_ok {a b : List Int} (f : Flow a b 999) (h1 : 1 ≤ a.length) (h2 : a.length ≤ 60) (k : Bool) {t : Str} (hj : joinD (.str "\n") [.lst (stL (allT a b k))] = some (.str t)) : F_due [.tup (intL a), .tup (intL b), .bl k] = R.ok (.str t) := by
  generalize hX : D.tup (intL a) = X
  generalize hY : D.tup (intL b) = Y
  have key := due_sat f h1 h2 k hX hY rfl hj
  clear hX hY
  exact eq_sat ((wp_runF rfl).mpr key)
end K79
set_option Elab.async false
set_option linter.all false
set_option maxRecDepth 100000
set_option maxHeartbeats 4000000
namespace K79
open PySem PySem.Spec PyProof.Rows L2 ClX PL
open LW (PoolOk Flow intL atI3 rng_at pre cnt)
/-- plain signs, line ends among them -/
def Lo (x : Str) : Prop := ∀ c ∈ x.cps.toList, c < 127
theorem Lo.ok {x : Str} (h : Lo x) : PyData.strOk x = true := by
  unfold PyData.strOk
  rw [Array.all_eq_true']
  intro c hc
  have := h c (by simpa using hc)
  simp
  omega
theorem Lo.append {x y : Str} (h : Lo x) (k : Lo y) : Lo (x ++ y) := by
  intro c hc
  rw [Str.cps_append] at hc
  simp only [Array.toList_append, List.mem_append] at hc
  exact hc.elim (h c) (k c)
theorem Nice.lo {n : Nat} {x : Str} (h : Nice n x) : Lo x := fun c hc => (h.1 c hc).2
theorem lo_nl : Lo ("\n" : String) := by
  intro c hc
  have e : ((("\n" : String) : Str)).cps.toList = [10] := by decide +kernel
  rw [e] at hc
  rw [List.mem_singleton.mp hc]
  omega
theorem lo_join : ∀ {ts : List Str}, (∀ t ∈ ts, Lo t) → Lo (Str.join "\n" ts)
  | [], _ => fun c hc => by
    have : (Str.join "\n" ([] : List Str)).cps.toList = [] := rfl
    rw [this] at hc
    cases hc
  | [t], h => h t (by simp)
  | t :: u :: r, h => ((h t (by simp)).append lo_nl).append (lo_join (ts := u :: r) fun z hz => h z (List.mem_cons_of_mem _ hz))
theorem lo_of {x : Str} (h : (x.cps.toList.all fun c => decide (c < 127)) = true) : Lo x := fun c hc => by
  have := List.all_eq_true.mp h c hc
  simpa using this
theorem lo_blk {n : Int} (h : n ≤ 8) : Lo (blk n) := by
  by_cases h1 : n < 1
  · have : blk n = Str.empty := if_pos h1
    rw [this]; exact lo_of (by decide)
  · have : n = 1 ∨ n = 2 ∨ n = 3 ∨ n = 4 ∨ n = 5 ∨ n = 6 ∨ n = 7 ∨ n = 8 := by omega
    rcases this with rfl | rfl | rfl | rfl | rfl | rfl | rfl | rfl <;> exact lo_of (by decide +kernel)
theorem lo_col {W : Nat} (hW : W ≤ 8) {i : Int} (h : I3 i) : Lo (colI W i) := (lo_blk (by omega)).append (Nice.lo (nice_int h.1 h.2))
theorem lo_row {t x y p : Int} (ht : I3 t) (hx : I3 x) (hy : I3 y) (hp : I3 p) : Lo (rowI t x y p) := (((lo_col (by omega) ht).append (lo_col (by omega) hx)).append (lo_col (by omega) hy)).append (lo_col (by omega) hp)
theorem lo_last {x y p : Int} (hx : I3 x) (hy : I3 y) (hp : I3 p) : Lo (lastT x y p) := (((lo_of (x := padW 4 "all") (by decide +kernel)).append (lo_col (by omega) hx)).append (lo_col (by omega) hy)).append (lo_col (by omega) hp)
theorem lo_head : Lo headT := lo_of (by decide +kernel)
/-- lists of four texts -/
theorem eq4 {s t u v : Str} (hs : Lo s) (ht : Lo t) (hu : Lo u) (hv : Lo v) : neD (.lst [.str s, .str t, .str u, .str v]) (.lst [.str s, .str t, .str u, .str v]) = some (.bl false) := by
  have e : toPy (.lst [.str s, .str t, .str u, .str v]) = some (.list [.str s, .str t, .str u, .str v]) := rfl
  have lay : (PyData.list [.str s, .str t, .str u, .str v]).canLay0 = true := by
    simp [PyData.canLay0, PyData.canLayAll0, hs.ok, ht.ok, hu.ok, hv.ok]
  have sh : SeqAt.shaped (PyData.list [.str s, .str t, .str u, .str v]) = true := by
    unfold SeqAt.shaped
    rw [lay]
    simp [PyData.depth, PyData.depthAll]
  have : eqP (.lst [.str s, .str t, .str u, .str v]) (.lst [.str s, .str t, .str u, .str v]) = some true := by
    unfold eqP
    rw [e]
    simp only [Option.bind_some, sh, Bool.and_self, if_true]
    rw [SeqAt.eqv_refl _ lay]
  unfold neD
  rw [this]
  rfl
end K79
set_option Elab.async false
set_option linter.all false
set_option maxRecDepth 100000
set_option maxHeartbeats 4000000
namespace K79
open PySem PySem.Spec PyProof.Rows L2 ClX PL
open LW (PoolOk Flow intL atI3 rng_at pre cnt)
theorem last3 {a b : List Int} (f : Flow a b 999) : I3 a.sum ∧ I3 b.sum ∧ I3 (dd a b a.length) := by
  have hl := f.len
  have s0 := LW.sum_nn f.ca
  have s1 := LW.sum_nn f.cb
  have tp := f.top
  have pa : pre a a.length = a.sum := by simp [pre]
  have pb : pre b a.length = b.sum := by rw [hl]; simp [pre]
  have le := f.le a.length (Nat.le_refl _)
  rw [pa, pb] at le
  have ed : dd a b a.length = a.sum - b.sum := by unfold dd; rw [pa, pb]
  exact ⟨⟨by omega, by omega⟩, ⟨by omega, by omega⟩, by rw [ed]; exact ⟨by omega, by omega⟩⟩
theorem lastT_len {x y p : Int} (hx : I3 x) (hy : I3 y) (hp : I3 p) : (lastT x y p).length ≤ 48 := by
  have l1 : (padW 4 "all").length = 4 := by decide +kernel
  have l2 := colI_len (W := 6) (by omega) hx
  have l3 := colI_len (W := 6) (by omega) hy
  have l4 := colI_len (W := 8) (by omega) hp
  unfold lastT
  simp only [len_append]
  omega
theorem all_of {a b : List Int} (f : Flow a b 999) (h2 : a.length ≤ 60) (k : Bool) : (∀ t ∈ allT a b k, Lo t ∧ t.length ≤ 48) ∧ (allT a b k).length ≤ 62 := by
  obtain ⟨i1, i2, i3⟩ := last3 f
  have hb : ∀ t ∈ bodyT a b a.length, Lo t ∧ t.length ≤ 48 := by
    intro t ht
    rcases List.mem_cons.mp ht with rfl | ht
    · exact ⟨lo_head, by decide +kernel⟩
    · obtain ⟨i, hi, rfl⟩ := List.mem_map.mp ht
      obtain ⟨r1, r2, r3, r4⟩ := row_at f h2 (i := i) (by simpa using hi)
      exact ⟨lo_row r1 r2 r3 r4, rowI_len r1 r2 r3 r4⟩
  cases k with
  | false => exact ⟨hb, by simp [allT, bodyT]; omega⟩
  | true =>
    refine ⟨fun t ht => ?_, by simp [allT, bodyT]; omega⟩
    rcases List.mem_append.mp ht with ht | ht
    · exact hb t ht
    · rw [List.mem_singleton.mp ht]
      exact ⟨lo_last i1 i2 i3, lastT_len i1 i2 i3⟩
def text (a b : List Int) (k : Bool) : Str := Txt.join "\n" (allT a b k)
theorem sum_le48 : ∀ {ts : List Str}, (∀ t ∈ ts, t.length ≤ 48) → (ts.map (·.length)).sum ≤ 48 * ts.length
  | [], _ => by simp
  | t :: r, h => by
    have h1 := h t (by simp)
    have h2 := sum_le48 (ts := r) fun z hz => h z (List.mem_cons_of_mem _ hz)
    simp
    omega
theorem join_all {a b : List Int} (f : Flow a b 999) (h2 : a.length ≤ 60) (k : Bool) : joinD (.str "\n") [.lst (stL (allT a b k))] = some (.str (text a b k)) := by
  obtain ⟨h, l⟩ := all_of f h2 k
  rw [joinD_map, if_pos]
  · rfl
  · have h1 := sum_le48 (ts := allT a b k) fun t ht => (h t ht).2
    have h3 : ((("\n" : String) : Str)).length = 1 := by rfl
    rw [h3]
    simp only [LINE]
    omega
theorem lo_text {a b : List Int} (f : Flow a b 999) (h2 : a.length ≤ 60) (k : Bool) : Lo (text a b k) := by
  unfold text
  rw [show Txt.join "\n" (allT a b k) = Str.join "\n" (allT a b k) from StrLaws.glued_eq_join _ _]
  exact lo_join fun t ht => ((all_of f h2 k).1 t ht).1
theorem tab_t {a b : List Int} (f : Flow a b 999) (h1 : 1 ≤ a.length) (h2 : a.length ≤ 60) (k : Bool) : F_tab [ctr (.tup (intL a)) (.tup (intL b)), .bl k] = R.ok (.str (text a b k)) := tab_ok f h1 h2 k (nl := .non) (join_all f h2 k)
theorem due_t {a b : List Int} (f : Flow a b 999) (h1 : 1 ≤ a.length) (h2 : a.length ≤ 60) (k : Bool) : F_due [.tup (intL a), .tup (intL b), .bl k] = R.ok (.str (text a b k)) := due_ok f h1 h2 k (join_all f h2 k)
end K79
set_option Elab.async false
set_option linter.all false
set_option maxRecDepth 100000
set_option maxHeartbeats 4000000
namespace K79
open PySem PySem.Spec PyProof.Rows L2 ClX PL
open LW (PoolOk Flow intL atI3 rng_at pre cnt)
theorem ini_f {a b : List Int} (f : Flow a b 999) (h1 : 1 ≤ a.length) (h2 : a.length ≤ 60) : F_ini [.tup (intL a), .tup (intL b)] = R.ok [.tup (intL a), .tup (intL b)] := by
  have hl := f.len
  have pl : ∀ {l : List Int}, ∀ x ∈ intL l, Pl x := fun x hx => by
    obtain ⟨i, _, rfl⟩ := List.mem_map.mp hx
    exact True.intro
  rw [ini_spec (show PlR (.tup (intL a)) from ⟨pl, by simp; omega⟩) (show PlR (.tup (intL b)) from ⟨pl, by simp; omega⟩), flow_fault f h1 h2]
  rfl
/-- a pair of flows as the law holds it -/
def Pr2 (d : D) : Prop := ∃ a b : List Int, d = .lst [.tup (intL a), .tup (intL b)] ∧ Flow a b 999 ∧ 1 ≤ a.length ∧ a.length ≤ 60
def odds : List D := [.non, .int 0, .str "1/0", .tup [.tup [.int 1], .tup [.int 0]], .lst [], .dic [] [], .bl true]
theorem tab_odd : ∀ d ∈ odds, F_tab [d, .bl true] = R.exc "NotCounts" ["value"] [d] := by
  intro d hd
  simp only [odds, List.mem_cons, List.not_mem_nil, or_false] at hd
  rcases hd with rfl | rfl | rfl | rfl | rfl | rfl | rfl <;> kernel_rfl
theorem error_nc (d : D) : F_error [.exn "NotCounts" ["value"] [d]] = R.ok (.int 1) := by kernel_rfl
theorem in_1 : inF false (.int 1) (.lst [.int 0, .int 2]) = some (.bl false) ∧ inF false (.int 1) (.lst [.int 1, .int 3, .int 4, .int 5]) = some (.bl true) := ⟨by kernel_rfl, by kernel_rfl⟩
theorem caught_nc {d : D} {t : Str} (ht : reprXL [.lst [d]] = some (.str t)) : F_caught (R.exc "NotCounts" ["value"] [d]) = R.ok (.lst [.int 1, .str t]) := by
  have q := error_nc d
  have hct : ct_CountError_SearchError_LimitError "NotCounts" = some true := by decide +kernel
  have hxc : (("NotCounts" : String) : Str) ∈ xc_value := by decide +kernel
  generalize (("NotCounts" : String) : Str) = cc at *
  generalize hE : D.exn cc ["value"] [d] = E at *
  have q3 : xfD xc_value "value" E = some d := by subst hE; simp [xfD, hxc, lookF]
  obtain ⟨i3, i4⟩ := in_1
  refine eq_sat (wp_runT.mpr ?_)
  unfold f_caught
  rw [wp_seqS, wp_tryT_exc hct, hE]
  simp [List.replicate, q, q3, i3, i4, ht, LINE]
theorem tx_odds : ∀ d ∈ odds, TxQ 30 4 d := by
  intro d hd
  simp only [odds, List.mem_cons, List.not_mem_nil, or_false] at hd
  rcases hd with rfl | rfl | rfl | rfl | rfl | rfl | rfl
  · exact (TxR.non (k := 0)).q.mono (by omega) (by omega)
  · exact (TxR.i3 (k := 0) (i := 0) (by omega) (by omega)).q.mono (by omega) (by omega)
  · exact (TxR.str (k := 0) (show Nice 3 ("1/0" : String) from nice_of (by decide))).q.mono (by omega) (by omega)
  · exact (TxR.tup (k := 1) (.cons (TxR.tup (k := 0) (.cons (TxR.i3 (i := 1) (by omega) (by omega)) .nil)) (.cons (TxR.tup (k := 0) (.cons (TxR.i3 (i := 0) (by omega) (by omega)) .nil)) .nil))).q.mono (by omega) (by omega)
  · exact (TxR.lst (k := 0) .nil).q.mono (by omega) (by omega)
  · exact (TxQ.dic0 (k := 0)).mono (by omega) (by omega)
  · exact (TxR.bl (k := 0) true).q.mono (by omega) (by omega)
theorem odd_rp {d : D} (hd : d ∈ odds) : ∃ t, reprXL [.lst [d]] = some (.str t) ∧ Nice 60 t := by
  obtain ⟨t, e, n⟩ := repr_tx (TxQA.cons (tx_odds d hd) TxQA.nil) (by simp only [LINE]; omega) (by omega)
  exact ⟨t, e, n.mono (by omega)⟩
theorem lam_t {L a : D} {o2 o3 o4 o5 o6 o7 : Option D} : (fnN F_tab 1 1 [0, 1] [] (consA (nm 8) nilA) (consA (fun _ S => R.ok (.bl true, S)) nilA) (wipeE [none, some L, o2, o3, o4, o5, o6, o7, some a] [0]) [] >>= fun x => R.ok x.1) = F_tab [a, .bl true] := by
  have e : ∀ r : R D, ((r >>= fun d => R.ok (d, ([] : List D))) >>= fun x => R.ok x.1) = r := fun r => by cases r <;> rfl
  exact e (F_tab [a, .bl true])
theorem right_spec {S : List D} (hS : PoolOk S) : Sat (F_right S []) (fun r => r.1 = .bl true) EX0 := by
  refine (wp_runP rfl).mpr ?_
  unfold f_right
  simp [startP, startE]
  refine (any_spec hS).imp ?_
  rintro ⟨_, S1⟩ ⟨a, b, rfl, h1, h2, f, hS1⟩
  simp
  refine (great_spec hS1).imp ?_
  rintro ⟨_, S2⟩ ⟨a', b', rfl, h1', h2', f', hS2⟩
  have hp : ∀ d ∈ [D.lst [.tup (intL a), .tup (intL b)], .lst [.tup (intL a'), .tup (intL b')]], Pr2 d := by
    intro d hd
    simp only [List.mem_cons, List.not_mem_nil, or_false] at hd
    rcases hd with rfl | rfl
    · exact ⟨a, b, rfl, f, h1, h2⟩
    · exact ⟨a', b', rfl, f', h1', h2'⟩
  have hn : [D.lst [.tup (intL a), .tup (intL b)], .lst [.tup (intL a'), .tup (intL b')]].length ≤ 2 := by simp
  generalize hL : [D.lst [.tup (intL a), .tup (intL b)], .lst [.tup (intL a'), .tup (intL b')]] = L at *
  clear hL
  simp [LINE]
  have p01 : ∀ x y : D, pick [0, 1] [x, y] = [x, y] := fun _ _ => rfl
  have p10 : ∀ x y : D, pick [1, 0] [x, y] = [y, x] := fun _ _ => rfl
  refine wp_for _ (fun _ ρ S => ∃ (o2 o3 o4 o5 o6 o7 : Option D), ρ = [none, some (.lst L), o2, o3, o4, o5, o6, o7, none] ∧ PoolOk S) ?_ ?_ ⟨_, _, _, _, _, _, rfl, hS2⟩
  · rintro i d ρ S hd ⟨o2, o3, o4, o5, o6, o7, rfl, hS3⟩
    simp [itemsL]
    refine wp_for _ (fun _ ρ S => ∃ (o2 o3 o4 o5 o6 o7 : Option D), ρ = [none, some (.lst L), o2, o3, o4, o5, o6, o7, none] ∧ PoolOk S) ?_ ?_ ⟨_, _, _, _, _, _, rfl, hS3⟩
    · rintro j e ρ S he ⟨o2, o3, o4, o5, o6, o7, rfl, hS4⟩
      obtain ⟨a, b, rfl, f, h1, h2⟩ := hp e (List.mem_of_getElem? he)
      have i0 := ini_f f h1 h2
      have t0 := tab_t f h1 h2 false
      have t1 := tab_t f h1 h2 true
      have d0 := due_t f h1 h2 false
      have d1 := due_t f h1 h2 true
      have eq := eq4 (lo_text f h2 false) (lo_text f h2 false) (lo_text f h2 false) (lo_text f h2 true)
      unfold ctr at *
      clear he hp
      generalize D.tup (intL a) = X at *
      generalize D.tup (intL b) = Y at *
      generalize text a b false = u at *
      generalize text a b true = v at *
      simp [i0, p01, p10, t0, t1, d0, d1, eq, LINE]
      exact hS4
    · rintro ρ S ⟨o2, o3, o4, o5, o6, o7, rfl, hS4⟩
      simp
      exact hS4
  · rintro ρ S ⟨o2, o3, o4, o5, o6, o7, rfl, hS3⟩
    simp [LINE]
    refine (draw_spec (n := 7) hS3 (by decide) (by decide)).imp ?_
    rintro ⟨_, S4⟩ ⟨w, rfl, hw0, hw1, hS4⟩
    obtain ⟨d, e, hd, _⟩ := atI_of (xs := odds) (i := w) hw0 (by simpa [odds] using hw1)
    obtain ⟨t, et, nt⟩ := odd_rp hd
    have to := tab_odd d hd
    have cn := caught_nc et
    unfold odds at e
    have eq : eqD (.lst [.int 1, .str t]) (.lst [.int 1, .str t]) = some (.bl true) :=
      (eqD_self (n := 400) (k := 2) (.lst (.cons (.int (n := 4) (k := 1) (by omega) (by omega) (by omega)) (.cons (.str nt (Nat.le_refl _)) .nil)) (by omega) (by omega)) (by omega)).1
    simp only [idxD_lst]
    rw [e]
    show Sat (F_caught _) _ _
    rw [lam_t, to, cn]
    simp [et, eq]
end K79
set_option Elab.async false
set_option linter.all false
set_option maxRecDepth 100000
set_option maxHeartbeats 4000000
namespace K79
open PySem PySem.Spec PyProof.Rows L2 ClX PL
open LW (PoolOk Flow intL atI3 rng_at pre cnt)
theorem flow9 : Flow [999] [0] 999 := by
  refine ⟨rfl, fun x hx => ?_, fun x hx => ?_, fun k hk => ?_, by decide⟩
  · rw [List.mem_singleton.mp hx]; omega
  · rw [List.mem_singleton.mp hx]; omega
  · have hk : k ≤ 1 := hk
    have : k = 0 ∨ k = 1 := by omega
    rcases this with rfl | rfl <;> decide
theorem split9 : splitD (.str (text [999] [0] true)) [.str "\n"] = some (.lst [.str headT, .str (rowI 0 999 0 999), .str " all   999     0     999"]) := by
  have e : Txt.split (text [999] [0] true) "\n" = [headT, rowI 0 999 0 999, " all   999     0     999"] := by decide +kernel
  have l : (((("\n" : String) : Str).length == 0) = false ∧ (text [999] [0] true).length + 2 ≤ LINE) := by decide +kernel
  unfold splitD
  dsimp only
  rw [if_pos l, e]
  rfl
theorem ne9 : neD (.str " all   999     0     999") (.str " all   999     0     999") = some (.bl false) := by kernel_rfl
theorem i9 {X Y : D} (hX : D.tup (intL [999]) = X) (hY : D.tup (intL [0]) = Y) : F_ini [X, Y] = R.ok [X, Y] := by
  subst hX
  subst hY
  exact ini_f flow9 (by decide) (by decide)
theorem t9 {X Y : D} (hX : D.tup (intL [999]) = X) (hY : D.tup (intL [0]) = Y) : F_tab [.ins "Counts" nm_ini [X, Y], .bl true] = R.ok (.str (text [999] [0] true)) := by
  subst hX
  subst hY
  exact tab_t flow9 (by decide) (by decide) true
theorem law_gen (ns : List Int) (hl : ns.length ≤ 63) (FT : List D → R D) (FI : List D → R (List D)) (X Y T u v w : D) (hX : D.tup [.int 999] = X) (hY : D.tup [.int 0] = Y) (hI : FI [X, Y] = R.ok [X, Y]) (hT : FT [.ins "Counts" nm_ini [X, Y], .bl true] = R.ok T)
    (hT2 : kindD "str" T = true) (hS : splitD T [.str "\n"] = some (.lst [u, v, w])) (hN : neD w (.str " all   999     0     999") = some (.bl false)) (f : FS) (hf : f = (seqS (ifS (tstB (bin2 neD (bin2 idxD (mthE "str" splitD (fnNC FT 1 1 [0, 1] [] (consA (mkI "Counts" nm_ini FI 2 0 [0, 1] (consA (tupE (consA (fun _ S => R.ok (.int 999, S)) nilA)) (consA (tupE (consA (fun _ S => R.ok (.int 0, S)) nilA)) nilA)) nilA) nilA) (consA (fun _ S => R.ok (.bl true, S)) nilA)) (consA (fun _ S => R.ok (.str "
", S)) nilA)) (fun _ S => R.ok (.int 2, S))) (fun _ S => R.ok (.str " all   999     0     999", S)))) (retS (fun _ S => R.ok (.bl false, S))) nxS)
  (retS (callE allD (consA (ofF (lcE [1] (rngI rng1D (consA (callE max2D (consA (fun _ S => R.ok (.int 2, S)) (consA (callE min2D (consA (callE lenD (consA (nm 0) nilA)) (consA (fun _ S => R.ok (.int 5, S)) nilA))) nilA))) nilA)) (nmG 1) yesT (callPN F_right (callN F_pool [] (consA (callD F_cell [] (consA (nm 0) (consA (nm 1) nilA))) nilA))))) nilA))))) : runF 2 1 f [.scr ns] = R.ok (.bl true) := by
  have p01 : ∀ x y : D, pick [0, 1] [x, y] = [x, y] := fun _ _ => rfl
  have ix : ∀ u v w : D, idxD (.lst [u, v, w]) (.int 2) = some w := fun _ _ _ => rfl
  refine eq_sat ((wp_runF rfl).mpr ?_)
  simp [hf, startE, hX, hY, p01, hI, hT, hT2, hS, hN, ix]
  generalize hm : (if 2 < if 5 < (ns.length : Int) then 5 else (ns.length : Int) then if 5 < (ns.length : Int) then 5 else (ns.length : Int) else 2) = m
  have hm2 : 0 ≤ m ∧ m ≤ 5 := by split at hm <;> split at hm <;> omega
  refine ⟨by decide, by omega, ?_⟩
  refine wp_lc (fun S => [] = S) (fun d y => y = .bl true) _ (by simp [LINE]; omega) ?_ ?_ rfl
  · intro d hd S hS
    subst hS
    obtain ⟨k, hk, rfl⟩ := List.mem_map.mp hd
    have hk2 : k < m.toNat := by simpa using hk
    simp [wipeE]
    refine (cell_spec ns k (by omega) (by omega)).imp ?_
    rintro _ ⟨v, rfl⟩
    refine (pool_spec v).imp ?_
    intro S hS
    refine (right_spec hS).imp ?_
    rintro ⟨_, S1⟩ rfl
    first | exact ⟨rfl, rfl⟩ | rfl
  · intro rs S hS h
    subst hS
    rw [All2.eq_map (f := fun _ => D.bl true) h]
    rw [all_true]
    simp
theorem holds (ns : List Int) (hl : ns.length ≤ 63) : F_law [.scr ns] = R.ok (.bl true) :=
  law_gen ns hl F_tab F_ini (.tup (intL [999])) (.tup (intL [0])) (.str (text [999] [0] true)) _ _ _ rfl rfl (i9 rfl rfl) (t9 rfl rfl) rfl split9 ne9 f_law rfl
end K79
set_option Elab.async false
set_option linter.all false
set_option maxRecDepth 100000
set_option maxHeartbeats 4000000
namespace K79
open PySem PySem.Spec PyProof.Rows L2 ClX PL
/-! what the top has written -/
theorem kit_bt {K : PySem.W.Frag} {C : Addr} {T : String} (m : PySem.W.kitMeta T = true) (h : PySem.W.mroIn K C (.type T) = some false) : PySem.W.kitOne K (.ref C) (.type T) = some false := by
  show (if (Value.ref C == Value.type T) = true then some true else PySem.W.kitCls K (.ref C) (.type T)) = some false
  rw [if_neg (by intro q; cases q)]
  show (if PySem.W.kitMeta T = true then PySem.W.subIn K (.ref C) (.type T) else none) = some false
  rw [if_pos m]
  exact h
theorem me_of {K : PySem.W.Frag} {C : Addr} (hd : PySem.W.hasDictIn K C = true) (ty : PySem.W.typeIn K (.ref C) = some (.type "type")) : ((PySem.W.clsIn K C).isSome && PySem.W.typeIn K (.ref C) == some (.type "type")) = true := by
  obtain ⟨cd, w, _⟩ := PySem.W.any_some hd
  rw [w, ty]
  exact beq_self_eq_true _
theorem all_mk {Pg : Program} {w : World} {K : PySem.W.Frag} {h : Heap} {mg : Str → Option Value} {fa C : Addr} (X : K.In h) (G : h.Ns mainGlobals mg) (hfa : mg "law" = some (.ref fa))
    {x_InvalidCounts x_NotCounts x_InvalidTick x_InvalidNumber x_InvalidText x_InvalidStay x_InvalidHistory x_InvalidName x_InvalidLength x_InvalidDoors x_InvalidDeed x_InvalidCommand x_Impossible x_NotKnown x_LimitBroken x_NothingToUndo x_TooMany x_CountError x_SearchError x_LimitError : Addr}
    {fa_eNC : Addr} {od_eNC an_eNC : Option Addr} {sl_eNC : Array (Option Value)} {oc_eNC kV_eNC dc_eNC pm_eNC cd_eNC ct_eNC : Value}
    {fa_eIC : Addr} {od_eIC an_eIC : Option Addr} {sl_eIC : Array (Option Value)} {oc_eIC kV_eIC dc_eIC pm_eIC cd_eIC ct_eIC : Value}
    {fa_ii : Addr} {od_ii an_ii : Option Addr} {sl_ii : Array (Option Value)} {oc_ii kV_ii dc_ii pm_ii cd_ii ct_ii : Value}
    {fa_pra : Addr} {od_pra an_pra : Option Addr} {sl_pra : Array (Option Value)} {oc_pra kV_pra dc_pra pm_pra cd_pra ct_pra : Value}
    {fa_ckc : Addr} {od_ckc an_ckc : Option Addr} {sl_ckc : Array (Option Value)} {oc_ckc kV_ckc dc_ckc pm_ckc cd_ckc ct_ckc : Value}
    {fa_cl : Addr} {od_cl an_cl : Option Addr} {sl_cl : Array (Option Value)} {oc_cl kV_cl dc_cl pm_cl cd_cl ct_cl : Value}
    {fa_inu : Addr} {od_inu an_inu : Option Addr} {sl_inu : Array (Option Value)} {oc_inu kV_inu dc_inu pm_inu cd_inu ct_inu : Value}
    {fa_cn : Addr} {od_cn an_cn : Option Addr} {sl_cn : Array (Option Value)} {oc_cn kV_cn dc_cn pm_cn cd_cn ct_cn : Value}
    {fa_ini : Addr} {od_ini an_ini : Option Addr} {sl_ini : Array (Option Value)} {oc_ini kV_ini dc_ini pm_ini cd_ini ct_ini : Value}
    {fa_pre : Addr} {od_pre an_pre : Option Addr} {sl_pre : Array (Option Value)} {oc_pre kV_pre dc_pre pm_pre cd_pre ct_pre : Value}
    {fp_pre : Addr} {rs_pre : List Value}
    {fa_peo : Addr} {od_peo an_peo : Option Addr} {sl_peo : Array (Option Value)} {oc_peo kV_peo dc_peo pm_peo cd_peo ct_peo : Value}
    {fp_peo : Addr} {rs_peo : List Value}
    {fa_len : Addr} {od_len an_len : Option Addr} {sl_len : Array (Option Value)} {oc_len kV_len dc_len pm_len cd_len ct_len : Value}
    {fa_row : Addr} {od_row an_row : Option Addr} {sl_row : Array (Option Value)} {oc_row kV_row dc_row pm_row cd_row ct_row : Value}
    {fa_tab : Addr} {od_tab an_tab : Option Addr} {sl_tab : Array (Option Value)} {oc_tab  dc_tab pm_tab cd_tab ct_tab : Value}
    {kD_tab : Addr}
    {fa_cell : Addr} {od_cell an_cell : Option Addr} {sl_cell : Array (Option Value)} {oc_cell kV_cell dc_cell pm_cell cd_cell ct_cell : Value}
    {fa_pool : Addr} {od_pool an_pool : Option Addr} {sl_pool : Array (Option Value)} {oc_pool kV_pool dc_pool pm_pool cd_pool ct_pool : Value}
    {fa_draw : Addr} {od_draw an_draw : Option Addr} {sl_draw : Array (Option Value)} {oc_draw kV_draw dc_draw pm_draw cd_draw ct_draw : Value}
    {fa_flows : Addr} {od_flows an_flows : Option Addr} {sl_flows : Array (Option Value)} {oc_flows kV_flows dc_flows pm_flows cd_flows ct_flows : Value}
    {fa_small : Addr} {od_small an_small : Option Addr} {sl_small : Array (Option Value)} {oc_small kV_small dc_small pm_small cd_small ct_small : Value}
    {fa_great : Addr} {od_great an_great : Option Addr} {sl_great : Array (Option Value)} {oc_great kV_great dc_great pm_great cd_great ct_great : Value}
    {fa_rest : Addr} {od_rest an_rest : Option Addr} {sl_rest : Array (Option Value)} {oc_rest kV_rest dc_rest pm_rest cd_rest ct_rest : Value}
    {fa_error : Addr} {od_error an_error : Option Addr} {sl_error : Array (Option Value)} {oc_error kV_error dc_error pm_error cd_error ct_error : Value}
    {fa_any : Addr} {od_any an_any : Option Addr} {sl_any : Array (Option Value)} {oc_any kV_any dc_any pm_any cd_any ct_any : Value}
    {fa_field : Addr} {od_field an_field : Option Addr} {sl_field : Array (Option Value)} {oc_field kV_field dc_field pm_field cd_field ct_field : Value}
    {fa_caught : Addr} {od_caught an_caught : Option Addr} {sl_caught : Array (Option Value)} {oc_caught kV_caught dc_caught pm_caught cd_caught ct_caught : Value}
    {fa_lrow : Addr} {od_lrow an_lrow : Option Addr} {sl_lrow : Array (Option Value)} {oc_lrow kV_lrow dc_lrow pm_lrow cd_lrow ct_lrow : Value}
    {fa_due : Addr} {od_due an_due : Option Addr} {sl_due : Array (Option Value)} {oc_due kV_due dc_due pm_due cd_due ct_due : Value}
    {fa_right : Addr} {od_right an_right : Option Addr} {sl_right : Array (Option Value)} {oc_right kV_right dc_right pm_right cd_right ct_right : Value}
    {fa_law : Addr} {od_law an_law : Option Addr} {sl_law : Array (Option Value)} {oc_law kV_law dc_law pm_law cd_law ct_law : Value}
    {tk_MAX_TICKS : Tok}
    {tk_MAX_PEOPLE : Tok}
    {ccA_right cPA_right fx_right cc_right cP_right : Addr} {cls_right : Value} {dcc_right : Option Addr} {vsc_right : Array Value} {slc_right : Array (Option Value)} {ox_right : Obj} {fdx_right : FuncData}
    (x1_right : mg "_law_right" = some (.ref fx_right)) (x2_right : h.get? fx_right = some ox_right) (x3_right : ox_right.data = .func fdx_right) (x4_right : fdx_right.code = .ref cc_right) (x5_right : PySem.W.CodeHd h cc_right cP_right)
    (aC : PySem.W.nsIn K mainGlobals "Counts" = some (some (.ref C)))
    (xa_InvalidCounts : PySem.W.nsIn K mainGlobals "InvalidCounts" = some (some (.ref x_InvalidCounts)))
    (xa_NotCounts : PySem.W.nsIn K mainGlobals "NotCounts" = some (some (.ref x_NotCounts)))
    (xa_InvalidTick : PySem.W.nsIn K mainGlobals "InvalidTick" = some (some (.ref x_InvalidTick)))
    (xa_InvalidNumber : PySem.W.nsIn K mainGlobals "InvalidNumber" = some (some (.ref x_InvalidNumber)))
    (xa_InvalidText : PySem.W.nsIn K mainGlobals "InvalidText" = some (some (.ref x_InvalidText)))
    (xa_InvalidStay : PySem.W.nsIn K mainGlobals "InvalidStay" = some (some (.ref x_InvalidStay)))
    (xa_InvalidHistory : PySem.W.nsIn K mainGlobals "InvalidHistory" = some (some (.ref x_InvalidHistory)))
    (xa_InvalidName : PySem.W.nsIn K mainGlobals "InvalidName" = some (some (.ref x_InvalidName)))
    (xa_InvalidLength : PySem.W.nsIn K mainGlobals "InvalidLength" = some (some (.ref x_InvalidLength)))
    (xa_InvalidDoors : PySem.W.nsIn K mainGlobals "InvalidDoors" = some (some (.ref x_InvalidDoors)))
    (xa_InvalidDeed : PySem.W.nsIn K mainGlobals "InvalidDeed" = some (some (.ref x_InvalidDeed)))
    (xa_InvalidCommand : PySem.W.nsIn K mainGlobals "InvalidCommand" = some (some (.ref x_InvalidCommand)))
    (xa_Impossible : PySem.W.nsIn K mainGlobals "Impossible" = some (some (.ref x_Impossible)))
    (xa_NotKnown : PySem.W.nsIn K mainGlobals "NotKnown" = some (some (.ref x_NotKnown)))
    (xa_LimitBroken : PySem.W.nsIn K mainGlobals "LimitBroken" = some (some (.ref x_LimitBroken)))
    (xa_NothingToUndo : PySem.W.nsIn K mainGlobals "NothingToUndo" = some (some (.ref x_NothingToUndo)))
    (xa_TooMany : PySem.W.nsIn K mainGlobals "TooMany" = some (some (.ref x_TooMany)))
    (xa_CountError : PySem.W.nsIn K mainGlobals "CountError" = some (some (.ref x_CountError)))
    (xa_SearchError : PySem.W.nsIn K mainGlobals "SearchError" = some (some (.ref x_SearchError)))
    (xa_LimitError : PySem.W.nsIn K mainGlobals "LimitError" = some (some (.ref x_LimitError)))
    (a_eNC : PySem.W.findIn K (.ref x_NotCounts) "__init__" = some (some (.ref fa_eNC)))
    (i_eNC : PySem.W.isFn K (.ref fa_eNC) = true)
    (l_eNC : K.lookup fa_eNC = some ⟨oc_eNC, od_eNC, .func (PySem.W.fnOf "__init__" "NotCounts.__init__" (defArgs s_eNC) (defBody s_eNC) (defScope s_eNC) .none kV_eNC dc_eNC pm_eNC an_eNC cd_eNC ct_eNC), sl_eNC⟩)
    (c_eNC : PySem.W.codeIn K cd_eNC "NotCounts.__init__" = true)
    (k_eNC : PySem.W.keepIn K (.ref fa_eNC) = true)
    (a_eIC : PySem.W.findIn K (.ref x_InvalidCounts) "__init__" = some (some (.ref fa_eIC)))
    (i_eIC : PySem.W.isFn K (.ref fa_eIC) = true)
    (l_eIC : K.lookup fa_eIC = some ⟨oc_eIC, od_eIC, .func (PySem.W.fnOf "__init__" "InvalidCounts.__init__" (defArgs s_eIC) (defBody s_eIC) (defScope s_eIC) .none kV_eIC dc_eIC pm_eIC an_eIC cd_eIC ct_eIC), sl_eIC⟩)
    (c_eIC : PySem.W.codeIn K cd_eIC "InvalidCounts.__init__" = true)
    (k_eIC : PySem.W.keepIn K (.ref fa_eIC) = true)
    (a_ii : PySem.W.nsIn K mainGlobals "is_integer_from" = some (some (.ref fa_ii)))
    (l_ii : K.lookup fa_ii = some ⟨oc_ii, od_ii, .func (PySem.W.fnOf "is_integer_from" "is_integer_from" (defArgs s_ii) (defBody s_ii) (defScope s_ii) .none kV_ii dc_ii pm_ii an_ii cd_ii ct_ii), sl_ii⟩)
    (c_ii : PySem.W.codeIn K cd_ii "is_integer_from" = true)
    (k_ii : PySem.W.keepIn K (.ref fa_ii) = true)
    (a_pra : PySem.W.nsIn K mainGlobals "present_after" = some (some (.ref fa_pra)))
    (l_pra : K.lookup fa_pra = some ⟨oc_pra, od_pra, .func (PySem.W.fnOf "present_after" "present_after" (defArgs s_pra) (defBody s_pra) (defScope s_pra) .none kV_pra dc_pra pm_pra an_pra cd_pra ct_pra), sl_pra⟩)
    (c_pra : PySem.W.codeIn K cd_pra "present_after" = true)
    (k_pra : PySem.W.keepIn K (.ref fa_pra) = true)
    (a_ckc : PySem.W.nsIn K mainGlobals "check_counts" = some (some (.ref fa_ckc)))
    (l_ckc : K.lookup fa_ckc = some ⟨oc_ckc, od_ckc, .func (PySem.W.fnOf "check_counts" "check_counts" (defArgs s_ckc) (defBody s_ckc) (defScope s_ckc) .none kV_ckc dc_ckc pm_ckc an_ckc cd_ckc ct_ckc), sl_ckc⟩)
    (c_ckc : PySem.W.codeIn K cd_ckc "check_counts" = true)
    (k_ckc : PySem.W.keepIn K (.ref fa_ckc) = true)
    (a_cl : PySem.W.nsIn K mainGlobals "_check_lengths" = some (some (.ref fa_cl)))
    (l_cl : K.lookup fa_cl = some ⟨oc_cl, od_cl, .func (PySem.W.fnOf "_check_lengths" "_check_lengths" (defArgs s_cl) (defBody s_cl) (defScope s_cl) .none kV_cl dc_cl pm_cl an_cl cd_cl ct_cl), sl_cl⟩)
    (c_cl : PySem.W.codeIn K cd_cl "_check_lengths" = true)
    (k_cl : PySem.W.keepIn K (.ref fa_cl) = true)
    (a_inu : PySem.W.nsIn K mainGlobals "_is_number" = some (some (.ref fa_inu)))
    (l_inu : K.lookup fa_inu = some ⟨oc_inu, od_inu, .func (PySem.W.fnOf "_is_number" "_is_number" (defArgs s_inu) (defBody s_inu) (defScope s_inu) .none kV_inu dc_inu pm_inu an_inu cd_inu ct_inu), sl_inu⟩)
    (c_inu : PySem.W.codeIn K cd_inu "_is_number" = true)
    (k_inu : PySem.W.keepIn K (.ref fa_inu) = true)
    (a_cn : PySem.W.nsIn K mainGlobals "_check_numbers" = some (some (.ref fa_cn)))
    (l_cn : K.lookup fa_cn = some ⟨oc_cn, od_cn, .func (PySem.W.fnOf "_check_numbers" "_check_numbers" (defArgs s_cn) (defBody s_cn) (defScope s_cn) .none kV_cn dc_cn pm_cn an_cn cd_cn ct_cn), sl_cn⟩)
    (c_cn : PySem.W.codeIn K cd_cn "_check_numbers" = true)
    (k_cn : PySem.W.keepIn K (.ref fa_cn) = true)
    (a_ini : PySem.W.findIn K (.ref C) "__init__" = some (some (.ref fa_ini)))
    (i_ini : PySem.W.isFn K (.ref fa_ini) = true)
    (l_ini : K.lookup fa_ini = some ⟨oc_ini, od_ini, .func (PySem.W.fnOf "__init__" "Counts.__init__" (defArgs s_ini) (defBody s_ini) (defScope s_ini) .none kV_ini dc_ini pm_ini an_ini cd_ini ct_ini), sl_ini⟩)
    (c_ini : PySem.W.codeIn K cd_ini "Counts.__init__" = true)
    (k_ini : PySem.W.keepIn K (.ref fa_ini) = true)
    (a_pre : PySem.W.findIn K (.ref C) "present" = some (some (.ref fp_pre)))
    (g_pre : PySem.W.specialIn K (.ref fp_pre) "__get__" = some (some (.builtin "property.__get__")))
    (t_pre : PySem.W.takesIn K (.ref fp_pre) = some true)
    (r_pre : PySem.W.recIn K fp_pre "property" = some (.ref fa_pre :: rs_pre))
    (l_pre : K.lookup fa_pre = some ⟨oc_pre, od_pre, .func (PySem.W.fnOf "present" "Counts.present" (defArgs s_pre) (defBody s_pre) (defScope s_pre) .none kV_pre dc_pre pm_pre an_pre cd_pre ct_pre), sl_pre⟩)
    (c_pre : PySem.W.codeIn K cd_pre "Counts.present" = true)
    (k_pre : PySem.W.keepIn K (.ref fa_pre) = true)
    (a_peo : PySem.W.findIn K (.ref C) "people" = some (some (.ref fp_peo)))
    (g_peo : PySem.W.specialIn K (.ref fp_peo) "__get__" = some (some (.builtin "property.__get__")))
    (t_peo : PySem.W.takesIn K (.ref fp_peo) = some true)
    (r_peo : PySem.W.recIn K fp_peo "property" = some (.ref fa_peo :: rs_peo))
    (l_peo : K.lookup fa_peo = some ⟨oc_peo, od_peo, .func (PySem.W.fnOf "people" "Counts.people" (defArgs s_peo) (defBody s_peo) (defScope s_peo) .none kV_peo dc_peo pm_peo an_peo cd_peo ct_peo), sl_peo⟩)
    (c_peo : PySem.W.codeIn K cd_peo "Counts.people" = true)
    (k_peo : PySem.W.keepIn K (.ref fa_peo) = true)
    (a_len : PySem.W.findIn K (.ref C) "__len__" = some (some (.ref fa_len)))
    (i_len : PySem.W.isFn K (.ref fa_len) = true)
    (l_len : K.lookup fa_len = some ⟨oc_len, od_len, .func (PySem.W.fnOf "__len__" "Counts.__len__" (defArgs s_len) (defBody s_len) (defScope s_len) .none kV_len dc_len pm_len an_len cd_len ct_len), sl_len⟩)
    (c_len : PySem.W.codeIn K cd_len "Counts.__len__" = true)
    (k_len : PySem.W.keepIn K (.ref fa_len) = true)
    (a_row : PySem.W.nsIn K mainGlobals "_row" = some (some (.ref fa_row)))
    (l_row : K.lookup fa_row = some ⟨oc_row, od_row, .func (PySem.W.fnOf "_row" "_row" (defArgs s_row) (defBody s_row) (defScope s_row) .none kV_row dc_row pm_row an_row cd_row ct_row), sl_row⟩)
    (c_row : PySem.W.codeIn K cd_row "_row" = true)
    (k_row : PySem.W.keepIn K (.ref fa_row) = true)
    (a_tab : PySem.W.nsIn K mainGlobals "table" = some (some (.ref fa_tab)))
    (l_tab : K.lookup fa_tab = some ⟨oc_tab, od_tab, .func (PySem.W.fnOf "table" "table" (defArgs s_tab) (defBody s_tab) (defScope s_tab) .none (.ref kD_tab) dc_tab pm_tab an_tab cd_tab ct_tab), sl_tab⟩)
    (c_tab : PySem.W.codeIn K cd_tab "table" = true)
    (kn_tab_totals : PySem.W.nsIn K kD_tab "totals" = some (some (.bool false)))
    (k_tab : PySem.W.keepIn K (.ref fa_tab) = true)
    (a_cell : PySem.W.nsIn K mainGlobals "_law_cell" = some (some (.ref fa_cell)))
    (l_cell : K.lookup fa_cell = some ⟨oc_cell, od_cell, .func (PySem.W.fnOf "_law_cell" "_law_cell" (defArgs s_cell) (defBody s_cell) (defScope s_cell) .none kV_cell dc_cell pm_cell an_cell cd_cell ct_cell), sl_cell⟩)
    (c_cell : PySem.W.codeIn K cd_cell "_law_cell" = true)
    (k_cell : PySem.W.keepIn K (.ref fa_cell) = true)
    (a_pool : PySem.W.nsIn K mainGlobals "_law_pool" = some (some (.ref fa_pool)))
    (l_pool : K.lookup fa_pool = some ⟨oc_pool, od_pool, .func (PySem.W.fnOf "_law_pool" "_law_pool" (defArgs s_pool) (defBody s_pool) (defScope s_pool) .none kV_pool dc_pool pm_pool an_pool cd_pool ct_pool), sl_pool⟩)
    (c_pool : PySem.W.codeIn K cd_pool "_law_pool" = true)
    (k_pool : PySem.W.keepIn K (.ref fa_pool) = true)
    (a_draw : PySem.W.nsIn K mainGlobals "_law_draw" = some (some (.ref fa_draw)))
    (l_draw : K.lookup fa_draw = some ⟨oc_draw, od_draw, .func (PySem.W.fnOf "_law_draw" "_law_draw" (defArgs s_draw) (defBody s_draw) (defScope s_draw) .none kV_draw dc_draw pm_draw an_draw cd_draw ct_draw), sl_draw⟩)
    (c_draw : PySem.W.codeIn K cd_draw "_law_draw" = true)
    (k_draw : PySem.W.keepIn K (.ref fa_draw) = true)
    (a_flows : PySem.W.nsIn K mainGlobals "_law_flows" = some (some (.ref fa_flows)))
    (l_flows : K.lookup fa_flows = some ⟨oc_flows, od_flows, .func (PySem.W.fnOf "_law_flows" "_law_flows" (defArgs s_flows) (defBody s_flows) (defScope s_flows) .none kV_flows dc_flows pm_flows an_flows cd_flows ct_flows), sl_flows⟩)
    (c_flows : PySem.W.codeIn K cd_flows "_law_flows" = true)
    (k_flows : PySem.W.keepIn K (.ref fa_flows) = true)
    (a_small : PySem.W.nsIn K mainGlobals "_law_small_flows" = some (some (.ref fa_small)))
    (l_small : K.lookup fa_small = some ⟨oc_small, od_small, .func (PySem.W.fnOf "_law_small_flows" "_law_small_flows" (defArgs s_small) (defBody s_small) (defScope s_small) .none kV_small dc_small pm_small an_small cd_small ct_small), sl_small⟩)
    (c_small : PySem.W.codeIn K cd_small "_law_small_flows" = true)
    (k_small : PySem.W.keepIn K (.ref fa_small) = true)
    (a_great : PySem.W.nsIn K mainGlobals "_law_great_flows" = some (some (.ref fa_great)))
    (l_great : K.lookup fa_great = some ⟨oc_great, od_great, .func (PySem.W.fnOf "_law_great_flows" "_law_great_flows" (defArgs s_great) (defBody s_great) (defScope s_great) .none kV_great dc_great pm_great an_great cd_great ct_great), sl_great⟩)
    (c_great : PySem.W.codeIn K cd_great "_law_great_flows" = true)
    (k_great : PySem.W.keepIn K (.ref fa_great) = true)
    (a_rest : PySem.W.nsIn K mainGlobals "_law_rest" = some (some (.ref fa_rest)))
    (l_rest : K.lookup fa_rest = some ⟨oc_rest, od_rest, .func (PySem.W.fnOf "_law_rest" "_law_rest" (defArgs s_rest) (defBody s_rest) (defScope s_rest) .none kV_rest dc_rest pm_rest an_rest cd_rest ct_rest), sl_rest⟩)
    (c_rest : PySem.W.codeIn K cd_rest "_law_rest" = true)
    (k_rest : PySem.W.keepIn K (.ref fa_rest) = true)
    (a_error : PySem.W.nsIn K mainGlobals "_law_error" = some (some (.ref fa_error)))
    (l_error : K.lookup fa_error = some ⟨oc_error, od_error, .func (PySem.W.fnOf "_law_error" "_law_error" (defArgs s_error) (defBody s_error) (defScope s_error) .none kV_error dc_error pm_error an_error cd_error ct_error), sl_error⟩)
    (c_error : PySem.W.codeIn K cd_error "_law_error" = true)
    (k_error : PySem.W.keepIn K (.ref fa_error) = true)
    (a_any : PySem.W.nsIn K mainGlobals "_law_any_flows" = some (some (.ref fa_any)))
    (l_any : K.lookup fa_any = some ⟨oc_any, od_any, .func (PySem.W.fnOf "_law_any_flows" "_law_any_flows" (defArgs s_any) (defBody s_any) (defScope s_any) .none kV_any dc_any pm_any an_any cd_any ct_any), sl_any⟩)
    (c_any : PySem.W.codeIn K cd_any "_law_any_flows" = true)
    (k_any : PySem.W.keepIn K (.ref fa_any) = true)
    (a_field : PySem.W.nsIn K mainGlobals "_law_field" = some (some (.ref fa_field)))
    (l_field : K.lookup fa_field = some ⟨oc_field, od_field, .func (PySem.W.fnOf "_law_field" "_law_field" (defArgs s_field) (defBody s_field) (defScope s_field) .none kV_field dc_field pm_field an_field cd_field ct_field), sl_field⟩)
    (c_field : PySem.W.codeIn K cd_field "_law_field" = true)
    (k_field : PySem.W.keepIn K (.ref fa_field) = true)
    (a_caught : PySem.W.nsIn K mainGlobals "_law_caught" = some (some (.ref fa_caught)))
    (l_caught : K.lookup fa_caught = some ⟨oc_caught, od_caught, .func (PySem.W.fnOf "_law_caught" "_law_caught" (defArgs s_caught) (defBody s_caught) (defScope s_caught) .none kV_caught dc_caught pm_caught an_caught cd_caught ct_caught), sl_caught⟩)
    (c_caught : PySem.W.codeIn K cd_caught "_law_caught" = true)
    (k_caught : PySem.W.keepIn K (.ref fa_caught) = true)
    (a_lrow : PySem.W.nsIn K mainGlobals "_law_row" = some (some (.ref fa_lrow)))
    (l_lrow : K.lookup fa_lrow = some ⟨oc_lrow, od_lrow, .func (PySem.W.fnOf "_law_row" "_law_row" (defArgs s_lrow) (defBody s_lrow) (defScope s_lrow) .none kV_lrow dc_lrow pm_lrow an_lrow cd_lrow ct_lrow), sl_lrow⟩)
    (c_lrow : PySem.W.codeIn K cd_lrow "_law_row" = true)
    (k_lrow : PySem.W.keepIn K (.ref fa_lrow) = true)
    (a_due : PySem.W.nsIn K mainGlobals "_law_rows_due" = some (some (.ref fa_due)))
    (l_due : K.lookup fa_due = some ⟨oc_due, od_due, .func (PySem.W.fnOf "_law_rows_due" "_law_rows_due" (defArgs s_due) (defBody s_due) (defScope s_due) .none kV_due dc_due pm_due an_due cd_due ct_due), sl_due⟩)
    (c_due : PySem.W.codeIn K cd_due "_law_rows_due" = true)
    (k_due : PySem.W.keepIn K (.ref fa_due) = true)
    (a_right : PySem.W.nsIn K mainGlobals "_law_right" = some (some (.ref fa_right)))
    (l_right : K.lookup fa_right = some ⟨oc_right, od_right, .func (PySem.W.fnOf "_law_right" "_law_right" (defArgs s_right) (defBody s_right) (defScope s_right) .none kV_right dc_right pm_right an_right cd_right ct_right), sl_right⟩)
    (c_right : PySem.W.codeIn K cd_right "_law_right" = true)
    (k_right : PySem.W.keepIn K (.ref fa_right) = true)
    (a_law : PySem.W.nsIn K mainGlobals "law" = some (some (.ref fa_law)))
    (l_law : K.lookup fa_law = some ⟨oc_law, od_law, .func (PySem.W.fnOf "law" "law" (defArgs s_law) (defBody s_law) (defScope s_law) .none kV_law dc_law pm_law an_law cd_law ct_law), sl_law⟩)
    (c_law : PySem.W.codeIn K cd_law "law" = true)
    (k_law : PySem.W.keepIn K (.ref fa_law) = true)
    (pg : PySem.W.plainGet K C Str.empty = true)
    (hd : PySem.W.hasDictIn K C = true)
    (po : PySem.W.plainOver K C = true)
    (sa : PySem.W.findIn K (.ref C) "__setattr__" = some (some (.builtin "object.__setattr__")))
    (mk : PySem.W.makesIn K C = true)
    (kc : PySem.W.keepIn K (.ref C) = true)
    (rd : PySem.W.readsIn K C (.type "type") = true)
    (ga : PySem.W.specialIn K (.ref C) "__getattribute__" = some (some (.builtin "type.__getattribute__")))
    (ha : PySem.W.findIn K (.ref C) "__class__" = some (some (.builtin "object.__class__")))
    (hn : PySem.W.specialIn K (.builtin "object.__class__") "__get__" = some (some (.builtin "getset_descriptor.__get__")))
    (tk : PySem.W.takesIn K (.builtin "object.__class__") = some true)
    (mr : PySem.W.mroIn K C (.type "object") = some true)
    (ty : PySem.W.typeIn K (.ref C) = some (.type "type"))
    (bt_bool : PySem.W.mroIn K C (.type "bool") = some false)
    (bt_int : PySem.W.mroIn K C (.type "int") = some false)
    (bt_str : PySem.W.mroIn K C (.type "str") = some false)
    (bt_tuple : PySem.W.mroIn K C (.type "tuple") = some false)
    (bt_list : PySem.W.mroIn K C (.type "list") = some false)
    (bt_dict : PySem.W.mroIn K C (.type "dict") = some false)
    (na_arrivals : PySem.W.findIn K (.ref C) "arrivals" = some none)
    (na_departures : PySem.W.findIn K (.ref C) "departures" = some none)
    (cv_MAX_TICKS : PySem.W.findCls K (.ref C) (.type "type") "MAX_TICKS" = some (.val (.int 60 tk_MAX_TICKS)))
    (cv_MAX_PEOPLE : PySem.W.findCls K (.ref C) (.type "type") "MAX_PEOPLE" = some (.val (.int 999 tk_MAX_PEOPLE)))
    (z_isinstance : PySem.W.nsIn K mainGlobals "isinstance" = some none)
    (z_len : PySem.W.nsIn K mainGlobals "len" = some none)
    (z_int : PySem.W.nsIn K mainGlobals "int" = some none)
    (z_bool : PySem.W.nsIn K mainGlobals "bool" = some none)
    (z_tuple : PySem.W.nsIn K mainGlobals "tuple" = some none)
    (z_list : PySem.W.nsIn K mainGlobals "list" = some none)
    (z_str : PySem.W.nsIn K mainGlobals "str" = some none)
    (z_enumerate : PySem.W.nsIn K mainGlobals "enumerate" = some none)
    (z_zip : PySem.W.nsIn K mainGlobals "zip" = some none)
    (z_range : PySem.W.nsIn K mainGlobals "range" = some none)
    (z_min : PySem.W.nsIn K mainGlobals "min" = some none)
    (z_max : PySem.W.nsIn K mainGlobals "max" = some none)
    (z_repr : PySem.W.nsIn K mainGlobals "repr" = some none)
    (z_all : PySem.W.nsIn K mainGlobals "all" = some none)
    (z_divmod : PySem.W.nsIn K mainGlobals "divmod" = some none)
    (z_abs : PySem.W.nsIn K mainGlobals "abs" = some none)
    (z_sum : PySem.W.nsIn K mainGlobals "sum" = some none)
    (z_ValueError : PySem.W.nsIn K mainGlobals "ValueError" = some none)
    (z_LookupError : PySem.W.nsIn K mainGlobals "LookupError" = some none)
    (z_ArithmeticError : PySem.W.nsIn K mainGlobals "ArithmeticError" = some none)
    (xhd_InvalidCounts : PySem.W.hasDictIn K x_InvalidCounts = true)
    (xty_InvalidCounts : PySem.W.typeIn K (.ref x_InvalidCounts) = some (.type "type"))
    (xbe_InvalidCounts : PySem.W.mroIn K x_InvalidCounts (.type "BaseException") = some true)
    (xm_InvalidCounts_InvalidCounts : PySem.W.mroIn K x_InvalidCounts (.ref x_InvalidCounts) = some true)
    (xm_NotCounts_InvalidCounts : PySem.W.mroIn K x_NotCounts (.ref x_InvalidCounts) = some false)
    (xhd_NotCounts : PySem.W.hasDictIn K x_NotCounts = true)
    (xty_NotCounts : PySem.W.typeIn K (.ref x_NotCounts) = some (.type "type"))
    (xbe_NotCounts : PySem.W.mroIn K x_NotCounts (.type "BaseException") = some true)
    (xm_InvalidCounts_NotCounts : PySem.W.mroIn K x_InvalidCounts (.ref x_NotCounts) = some false)
    (xm_NotCounts_NotCounts : PySem.W.mroIn K x_NotCounts (.ref x_NotCounts) = some true)
    (xhd_InvalidTick : PySem.W.hasDictIn K x_InvalidTick = true)
    (xty_InvalidTick : PySem.W.typeIn K (.ref x_InvalidTick) = some (.type "type"))
    (xm_InvalidCounts_InvalidTick : PySem.W.mroIn K x_InvalidCounts (.ref x_InvalidTick) = some false)
    (xm_NotCounts_InvalidTick : PySem.W.mroIn K x_NotCounts (.ref x_InvalidTick) = some false)
    (xhd_InvalidNumber : PySem.W.hasDictIn K x_InvalidNumber = true)
    (xty_InvalidNumber : PySem.W.typeIn K (.ref x_InvalidNumber) = some (.type "type"))
    (xm_InvalidCounts_InvalidNumber : PySem.W.mroIn K x_InvalidCounts (.ref x_InvalidNumber) = some false)
    (xm_NotCounts_InvalidNumber : PySem.W.mroIn K x_NotCounts (.ref x_InvalidNumber) = some false)
    (xhd_InvalidText : PySem.W.hasDictIn K x_InvalidText = true)
    (xty_InvalidText : PySem.W.typeIn K (.ref x_InvalidText) = some (.type "type"))
    (xm_InvalidCounts_InvalidText : PySem.W.mroIn K x_InvalidCounts (.ref x_InvalidText) = some false)
    (xm_NotCounts_InvalidText : PySem.W.mroIn K x_NotCounts (.ref x_InvalidText) = some false)
    (xhd_InvalidStay : PySem.W.hasDictIn K x_InvalidStay = true)
    (xty_InvalidStay : PySem.W.typeIn K (.ref x_InvalidStay) = some (.type "type"))
    (xm_InvalidCounts_InvalidStay : PySem.W.mroIn K x_InvalidCounts (.ref x_InvalidStay) = some false)
    (xm_NotCounts_InvalidStay : PySem.W.mroIn K x_NotCounts (.ref x_InvalidStay) = some false)
    (xhd_InvalidHistory : PySem.W.hasDictIn K x_InvalidHistory = true)
    (xty_InvalidHistory : PySem.W.typeIn K (.ref x_InvalidHistory) = some (.type "type"))
    (xm_InvalidCounts_InvalidHistory : PySem.W.mroIn K x_InvalidCounts (.ref x_InvalidHistory) = some false)
    (xm_NotCounts_InvalidHistory : PySem.W.mroIn K x_NotCounts (.ref x_InvalidHistory) = some false)
    (xhd_InvalidName : PySem.W.hasDictIn K x_InvalidName = true)
    (xty_InvalidName : PySem.W.typeIn K (.ref x_InvalidName) = some (.type "type"))
    (xm_InvalidCounts_InvalidName : PySem.W.mroIn K x_InvalidCounts (.ref x_InvalidName) = some false)
    (xm_NotCounts_InvalidName : PySem.W.mroIn K x_NotCounts (.ref x_InvalidName) = some false)
    (xhd_InvalidLength : PySem.W.hasDictIn K x_InvalidLength = true)
    (xty_InvalidLength : PySem.W.typeIn K (.ref x_InvalidLength) = some (.type "type"))
    (xm_InvalidCounts_InvalidLength : PySem.W.mroIn K x_InvalidCounts (.ref x_InvalidLength) = some false)
    (xm_NotCounts_InvalidLength : PySem.W.mroIn K x_NotCounts (.ref x_InvalidLength) = some false)
    (xhd_InvalidDoors : PySem.W.hasDictIn K x_InvalidDoors = true)
    (xty_InvalidDoors : PySem.W.typeIn K (.ref x_InvalidDoors) = some (.type "type"))
    (xm_InvalidCounts_InvalidDoors : PySem.W.mroIn K x_InvalidCounts (.ref x_InvalidDoors) = some false)
    (xm_NotCounts_InvalidDoors : PySem.W.mroIn K x_NotCounts (.ref x_InvalidDoors) = some false)
    (xhd_InvalidDeed : PySem.W.hasDictIn K x_InvalidDeed = true)
    (xty_InvalidDeed : PySem.W.typeIn K (.ref x_InvalidDeed) = some (.type "type"))
    (xm_InvalidCounts_InvalidDeed : PySem.W.mroIn K x_InvalidCounts (.ref x_InvalidDeed) = some false)
    (xm_NotCounts_InvalidDeed : PySem.W.mroIn K x_NotCounts (.ref x_InvalidDeed) = some false)
    (xhd_InvalidCommand : PySem.W.hasDictIn K x_InvalidCommand = true)
    (xty_InvalidCommand : PySem.W.typeIn K (.ref x_InvalidCommand) = some (.type "type"))
    (xm_InvalidCounts_InvalidCommand : PySem.W.mroIn K x_InvalidCounts (.ref x_InvalidCommand) = some false)
    (xm_NotCounts_InvalidCommand : PySem.W.mroIn K x_NotCounts (.ref x_InvalidCommand) = some false)
    (xhd_Impossible : PySem.W.hasDictIn K x_Impossible = true)
    (xty_Impossible : PySem.W.typeIn K (.ref x_Impossible) = some (.type "type"))
    (xm_InvalidCounts_Impossible : PySem.W.mroIn K x_InvalidCounts (.ref x_Impossible) = some false)
    (xm_NotCounts_Impossible : PySem.W.mroIn K x_NotCounts (.ref x_Impossible) = some false)
    (xhd_NotKnown : PySem.W.hasDictIn K x_NotKnown = true)
    (xty_NotKnown : PySem.W.typeIn K (.ref x_NotKnown) = some (.type "type"))
    (xm_InvalidCounts_NotKnown : PySem.W.mroIn K x_InvalidCounts (.ref x_NotKnown) = some false)
    (xm_NotCounts_NotKnown : PySem.W.mroIn K x_NotCounts (.ref x_NotKnown) = some false)
    (xhd_LimitBroken : PySem.W.hasDictIn K x_LimitBroken = true)
    (xty_LimitBroken : PySem.W.typeIn K (.ref x_LimitBroken) = some (.type "type"))
    (xm_InvalidCounts_LimitBroken : PySem.W.mroIn K x_InvalidCounts (.ref x_LimitBroken) = some false)
    (xm_NotCounts_LimitBroken : PySem.W.mroIn K x_NotCounts (.ref x_LimitBroken) = some false)
    (xhd_NothingToUndo : PySem.W.hasDictIn K x_NothingToUndo = true)
    (xty_NothingToUndo : PySem.W.typeIn K (.ref x_NothingToUndo) = some (.type "type"))
    (xm_InvalidCounts_NothingToUndo : PySem.W.mroIn K x_InvalidCounts (.ref x_NothingToUndo) = some false)
    (xm_NotCounts_NothingToUndo : PySem.W.mroIn K x_NotCounts (.ref x_NothingToUndo) = some false)
    (xhd_TooMany : PySem.W.hasDictIn K x_TooMany = true)
    (xty_TooMany : PySem.W.typeIn K (.ref x_TooMany) = some (.type "type"))
    (xm_InvalidCounts_TooMany : PySem.W.mroIn K x_InvalidCounts (.ref x_TooMany) = some false)
    (xm_NotCounts_TooMany : PySem.W.mroIn K x_NotCounts (.ref x_TooMany) = some false)
    (xhd_CountError : PySem.W.hasDictIn K x_CountError = true)
    (xty_CountError : PySem.W.typeIn K (.ref x_CountError) = some (.type "type"))
    (xbe_CountError : PySem.W.mroIn K x_CountError (.type "BaseException") = some true)
    (xm_InvalidCounts_CountError : PySem.W.mroIn K x_InvalidCounts (.ref x_CountError) = some true)
    (xm_NotCounts_CountError : PySem.W.mroIn K x_NotCounts (.ref x_CountError) = some true)
    (xhd_SearchError : PySem.W.hasDictIn K x_SearchError = true)
    (xty_SearchError : PySem.W.typeIn K (.ref x_SearchError) = some (.type "type"))
    (xbe_SearchError : PySem.W.mroIn K x_SearchError (.type "BaseException") = some true)
    (xm_InvalidCounts_SearchError : PySem.W.mroIn K x_InvalidCounts (.ref x_SearchError) = some false)
    (xm_NotCounts_SearchError : PySem.W.mroIn K x_NotCounts (.ref x_SearchError) = some false)
    (xhd_LimitError : PySem.W.hasDictIn K x_LimitError = true)
    (xty_LimitError : PySem.W.typeIn K (.ref x_LimitError) = some (.type "type"))
    (xbe_LimitError : PySem.W.mroIn K x_LimitError (.type "BaseException") = some true)
    (xm_InvalidCounts_LimitError : PySem.W.mroIn K x_InvalidCounts (.ref x_LimitError) = some false)
    (xm_NotCounts_LimitError : PySem.W.mroIn K x_NotCounts (.ref x_LimitError) = some false)
    (xm_InvalidCounts_ValueError : PySem.W.mroIn K x_InvalidCounts (.type "ValueError") = some true)
    (xm_InvalidCounts_LookupError : PySem.W.mroIn K x_InvalidCounts (.type "LookupError") = some false)
    (xm_InvalidCounts_ArithmeticError : PySem.W.mroIn K x_InvalidCounts (.type "ArithmeticError") = some false)
    (xsa_InvalidCounts : PySem.W.findIn K (.ref x_InvalidCounts) "__setattr__" = some (some (.builtin "object.__setattr__")))
    (xk_InvalidCounts : PySem.W.keepIn K (.ref x_InvalidCounts) = true)
    (xga_InvalidCounts : PySem.W.findIn K (.ref x_InvalidCounts) "__getattribute__" = some (some (.builtin "BaseException.__getattribute__")))
    (xgg_InvalidCounts : PySem.W.findIn K (.ref x_InvalidCounts) "__getattr__" = some none)
    (xha_InvalidCounts : PySem.W.findIn K (.ref x_InvalidCounts) "__class__" = some (some (.builtin "object.__class__")))
    (xmr_InvalidCounts : PySem.W.mroIn K x_InvalidCounts (.type "object") = some true)
    (xn_InvalidCounts_tick : PySem.W.findIn K (.ref x_InvalidCounts) "tick" = some none)
    (xm_NotCounts_ValueError : PySem.W.mroIn K x_NotCounts (.type "ValueError") = some true)
    (xm_NotCounts_LookupError : PySem.W.mroIn K x_NotCounts (.type "LookupError") = some false)
    (xm_NotCounts_ArithmeticError : PySem.W.mroIn K x_NotCounts (.type "ArithmeticError") = some false)
    (xsa_NotCounts : PySem.W.findIn K (.ref x_NotCounts) "__setattr__" = some (some (.builtin "object.__setattr__")))
    (xk_NotCounts : PySem.W.keepIn K (.ref x_NotCounts) = true)
    (xga_NotCounts : PySem.W.findIn K (.ref x_NotCounts) "__getattribute__" = some (some (.builtin "BaseException.__getattribute__")))
    (xgg_NotCounts : PySem.W.findIn K (.ref x_NotCounts) "__getattr__" = some none)
    (xha_NotCounts : PySem.W.findIn K (.ref x_NotCounts) "__class__" = some (some (.builtin "object.__class__")))
    (xmr_NotCounts : PySem.W.mroIn K x_NotCounts (.type "object") = some true)
    (xn_NotCounts_value : PySem.W.findIn K (.ref x_NotCounts) "value" = some none)
    (xq_InvalidCounts : PySem.W.excInitIn K x_InvalidCounts [.type "ValueError", .type "Exception", .type "BaseException", .type "object"] "ValueError.__new__" = true)
    (xo_InvalidCounts : PySem.W.excOver K x_InvalidCounts [.type "ValueError", .type "Exception", .type "BaseException", .type "object"] = true)
    (xq_NotCounts : PySem.W.excInitIn K x_NotCounts [.type "ValueError", .type "Exception", .type "BaseException", .type "object"] "ValueError.__new__" = true)
    (xo_NotCounts : PySem.W.excOver K x_NotCounts [.type "ValueError", .type "Exception", .type "BaseException", .type "object"] = true)
    (cdq_right : cd_right = .ref ccA_right)
    (lcd_right : K.lookup ccA_right = some ⟨cls_right, dcc_right, .fields vsc_right, slc_right⟩)
    (v11_right : vsc_right[11]? = some (.ref cPA_right))
    (np_right : K.lookup cPA_right = none)
    : (K.lookup cP_right = none) ∧ ∃ fd : FuncData, (∀ (s : Shared) (v : Value), BindsTo s fd ⟨[v], []⟩ [("_law_cells", v)])  ∧ ∀ base : Heap, K.In base → base.Ns mainGlobals mg → LamX.TabB base mg cc_right cP_right → ∃ ca, FnG Pg w K mg base 8 fa fd ["_law_cells"] (spF K ca [(cP_right, ("_law_right" : Str) ++ ".<locals>." ++ "<lambda>")] F_law) := by
  have e := hfa.symm.trans (PySem.W.mg_of X G a_law)
  cases e
  obtain rfl : fx_right = fa_right := by
    have q := x1_right.symm.trans (PySem.W.mg_of X G a_right)
    cases q
    rfl
  have eO_right := (X _ _ l_right).symm.trans x2_right
  cases eO_right
  cases x3_right
  have cdE_right : cd_right = .ref cc_right := x4_right
  have ecc_right : ccA_right = cc_right := by
    have q := cdq_right.symm.trans cdE_right
    cases q
    rfl
  rw [ecc_right] at lcd_right
  obtain rfl : cP_right = cPA_right := by
    obtain ⟨oc, us, _, _, _, _, _, _, _, y1, _, y2, y3, _⟩ := x5_right
    have eC := (X _ _ lcd_right).symm.trans y1
    cases eC
    cases y2
    rw [v11_right] at y3
    cases y3
    rfl
  have F_eNC := fun_mk (st := s_eNC) l_eNC c_eNC k_eNC
  have F_eIC := fun_mk (st := s_eIC) l_eIC c_eIC k_eIC
  have F_ii := fun_mk (st := s_ii) l_ii c_ii k_ii
  have F_pra := fun_mk (st := s_pra) l_pra c_pra k_pra
  have F_ckc := fun_mk (st := s_ckc) l_ckc c_ckc k_ckc
  have F_cl := fun_mk (st := s_cl) l_cl c_cl k_cl
  have F_inu := fun_mk (st := s_inu) l_inu c_inu k_inu
  have F_cn := fun_mk (st := s_cn) l_cn c_cn k_cn
  have F_ini := fun_mk (st := s_ini) l_ini c_ini k_ini
  have F_pre := fun_mk (st := s_pre) l_pre c_pre k_pre
  have F_peo := fun_mk (st := s_peo) l_peo c_peo k_peo
  have F_len := fun_mk (st := s_len) l_len c_len k_len
  have F_row := fun_mk (st := s_row) l_row c_row k_row
  have F_tab := fun_mk (st := s_tab) l_tab c_tab k_tab
  have F_cell := fun_mk (st := s_cell) l_cell c_cell k_cell
  have F_pool := fun_mk (st := s_pool) l_pool c_pool k_pool
  have F_draw := fun_mk (st := s_draw) l_draw c_draw k_draw
  have F_flows := fun_mk (st := s_flows) l_flows c_flows k_flows
  have F_small := fun_mk (st := s_small) l_small c_small k_small
  have F_great := fun_mk (st := s_great) l_great c_great k_great
  have F_rest := fun_mk (st := s_rest) l_rest c_rest k_rest
  have F_error := fun_mk (st := s_error) l_error c_error k_error
  have F_any := fun_mk (st := s_any) l_any c_any k_any
  have F_field := fun_mk (st := s_field) l_field c_field k_field
  have F_caught := fun_mk (st := s_caught) l_caught c_caught k_caught
  have F_lrow := fun_mk (st := s_lrow) l_lrow c_lrow k_lrow
  have F_due := fun_mk (st := s_due) l_due c_due k_due
  have F_right := fun_mk (st := s_right) l_right c_right k_right
  have F_law := fun_mk (st := s_law) l_law c_law k_law
  let ca0 : Str → Option Addr := fun c => List.lookup c ([("Counts", C), ("InvalidCounts", x_InvalidCounts), ("NotCounts", x_NotCounts)] : List (Str × Addr))
  have CX_C : ca0 "Counts" = some C := by kernel_rfl
  have CX_InvalidCounts : ca0 "InvalidCounts" = some x_InvalidCounts := by kernel_rfl
  have EX_InvalidCounts : ExnC K x_InvalidCounts := ⟨xhd_InvalidCounts, xga_InvalidCounts, xgg_InvalidCounts, xbe_InvalidCounts, xha_InvalidCounts, hn, tk, xmr_InvalidCounts⟩
  have CX_NotCounts : ca0 "NotCounts" = some x_NotCounts := by kernel_rfl
  have EX_NotCounts : ExnC K x_NotCounts := ⟨xhd_NotCounts, xga_NotCounts, xgg_NotCounts, xbe_NotCounts, xha_NotCounts, hn, tk, xmr_NotCounts⟩
  have T : ∀ base : Heap, LamX.TabB base mg cc_right cP_right → Txt K mg base [(cP_right, ("_law_right" : Str) ++ ".<locals>." ++ "<lambda>")] ca0 C ⟨x_InvalidCounts, x_NotCounts, x_InvalidTick, x_InvalidNumber, x_InvalidText, x_InvalidStay, x_InvalidHistory, x_InvalidName, x_InvalidLength, x_InvalidDoors, x_InvalidDeed, x_InvalidCommand, x_Impossible, x_NotKnown, x_LimitBroken, x_NothingToUndo, x_TooMany, x_CountError, x_SearchError, x_LimitError⟩ := fun base bt_right => {
    free := fun x hx => by
      simp only [List.mem_cons, List.not_mem_nil, or_false] at hx
      rcases hx with rfl | rfl | rfl | rfl | rfl | rfl | rfl | rfl | rfl | rfl | rfl | rfl | rfl | rfl | rfl | rfl | rfl | rfl | rfl | rfl
      · exact PySem.W.mg_none_of X G z_isinstance
      · exact PySem.W.mg_none_of X G z_len
      · exact PySem.W.mg_none_of X G z_int
      · exact PySem.W.mg_none_of X G z_bool
      · exact PySem.W.mg_none_of X G z_tuple
      · exact PySem.W.mg_none_of X G z_list
      · exact PySem.W.mg_none_of X G z_str
      · exact PySem.W.mg_none_of X G z_enumerate
      · exact PySem.W.mg_none_of X G z_zip
      · exact PySem.W.mg_none_of X G z_range
      · exact PySem.W.mg_none_of X G z_min
      · exact PySem.W.mg_none_of X G z_max
      · exact PySem.W.mg_none_of X G z_repr
      · exact PySem.W.mg_none_of X G z_all
      · exact PySem.W.mg_none_of X G z_divmod
      · exact PySem.W.mg_none_of X G z_abs
      · exact PySem.W.mg_none_of X G z_sum
      · exact PySem.W.mg_none_of X G z_ValueError
      · exact PySem.W.mg_none_of X G z_LookupError
      · exact PySem.W.mg_none_of X G z_ArithmeticError
    caC := CX_C
    mgC := PySem.W.mg_of X G aC
    clC := ⟨pg, hd, po, sa⟩
    rdC := ⟨rd, ga⟩
    oCC := ⟨⟨⟨pg, hd, po, sa⟩, ha, hn, tk, mr⟩, fun T hT => by
        simp only [List.mem_cons, List.not_mem_nil, or_false] at hT
        rcases hT with rfl | rfl | rfl | rfl | rfl | rfl
        · exact kit_bt (by decide +kernel) bt_bool
        · exact kit_bt (by decide +kernel) bt_int
        · exact kit_bt (by decide +kernel) bt_str
        · exact kit_bt (by decide +kernel) bt_tuple
        · exact kit_bt (by decide +kernel) bt_list
        · exact kit_bt (by decide +kernel) bt_dict
      , me_of hd ty⟩
    cx_InvalidCounts := CX_InvalidCounts
    xb_InvalidCounts := oxb_V ⟨xq_InvalidCounts, xo_InvalidCounts, xhd_InvalidCounts, xsa_InvalidCounts, xbe_InvalidCounts, xty_InvalidCounts, xk_InvalidCounts⟩
    xn_InvalidCounts_tick := xn_InvalidCounts_tick
    cx_NotCounts := CX_NotCounts
    xb_NotCounts := oxb_V ⟨xq_NotCounts, xo_NotCounts, xhd_NotCounts, xsa_NotCounts, xbe_NotCounts, xty_NotCounts, xk_NotCounts⟩
    xn_NotCounts_value := xn_NotCounts_value
    mx_InvalidCounts := PySem.W.mg_of X G xa_InvalidCounts
    is_InvalidCounts := (fun c k h => lookup_all (P := fun c k => ∃ D, ca0 c = some D ∧ ExnC K D ∧ PySem.W.kitOne K (.ref D) (.ref x_InvalidCounts) = some k) (.cons ⟨x_InvalidCounts, CX_InvalidCounts, EX_InvalidCounts, kit_ref xhd_InvalidCounts xty_InvalidCounts xm_InvalidCounts_InvalidCounts xm_InvalidCounts_InvalidCounts⟩ (.cons ⟨x_NotCounts, CX_NotCounts, EX_NotCounts, kit_ref xhd_InvalidCounts xty_InvalidCounts xm_NotCounts_NotCounts xm_NotCounts_InvalidCounts⟩ .nil)) h)
    mx_NotCounts := PySem.W.mg_of X G xa_NotCounts
    is_NotCounts := (fun c k h => lookup_all (P := fun c k => ∃ D, ca0 c = some D ∧ ExnC K D ∧ PySem.W.kitOne K (.ref D) (.ref x_NotCounts) = some k) (.cons ⟨x_InvalidCounts, CX_InvalidCounts, EX_InvalidCounts, kit_ref xhd_NotCounts xty_NotCounts xm_InvalidCounts_InvalidCounts xm_InvalidCounts_NotCounts⟩ (.cons ⟨x_NotCounts, CX_NotCounts, EX_NotCounts, kit_ref xhd_NotCounts xty_NotCounts xm_NotCounts_NotCounts xm_NotCounts_NotCounts⟩ .nil)) h)
    mx_InvalidTick := PySem.W.mg_of X G xa_InvalidTick
    is_InvalidTick := (fun c k h => lookup_all (P := fun c k => ∃ D, ca0 c = some D ∧ ExnC K D ∧ PySem.W.kitOne K (.ref D) (.ref x_InvalidTick) = some k) (.cons ⟨x_InvalidCounts, CX_InvalidCounts, EX_InvalidCounts, kit_ref xhd_InvalidTick xty_InvalidTick xm_InvalidCounts_InvalidCounts xm_InvalidCounts_InvalidTick⟩ (.cons ⟨x_NotCounts, CX_NotCounts, EX_NotCounts, kit_ref xhd_InvalidTick xty_InvalidTick xm_NotCounts_NotCounts xm_NotCounts_InvalidTick⟩ .nil)) h)
    mx_InvalidNumber := PySem.W.mg_of X G xa_InvalidNumber
    is_InvalidNumber := (fun c k h => lookup_all (P := fun c k => ∃ D, ca0 c = some D ∧ ExnC K D ∧ PySem.W.kitOne K (.ref D) (.ref x_InvalidNumber) = some k) (.cons ⟨x_InvalidCounts, CX_InvalidCounts, EX_InvalidCounts, kit_ref xhd_InvalidNumber xty_InvalidNumber xm_InvalidCounts_InvalidCounts xm_InvalidCounts_InvalidNumber⟩ (.cons ⟨x_NotCounts, CX_NotCounts, EX_NotCounts, kit_ref xhd_InvalidNumber xty_InvalidNumber xm_NotCounts_NotCounts xm_NotCounts_InvalidNumber⟩ .nil)) h)
    mx_InvalidText := PySem.W.mg_of X G xa_InvalidText
    is_InvalidText := (fun c k h => lookup_all (P := fun c k => ∃ D, ca0 c = some D ∧ ExnC K D ∧ PySem.W.kitOne K (.ref D) (.ref x_InvalidText) = some k) (.cons ⟨x_InvalidCounts, CX_InvalidCounts, EX_InvalidCounts, kit_ref xhd_InvalidText xty_InvalidText xm_InvalidCounts_InvalidCounts xm_InvalidCounts_InvalidText⟩ (.cons ⟨x_NotCounts, CX_NotCounts, EX_NotCounts, kit_ref xhd_InvalidText xty_InvalidText xm_NotCounts_NotCounts xm_NotCounts_InvalidText⟩ .nil)) h)
    mx_InvalidStay := PySem.W.mg_of X G xa_InvalidStay
    is_InvalidStay := (fun c k h => lookup_all (P := fun c k => ∃ D, ca0 c = some D ∧ ExnC K D ∧ PySem.W.kitOne K (.ref D) (.ref x_InvalidStay) = some k) (.cons ⟨x_InvalidCounts, CX_InvalidCounts, EX_InvalidCounts, kit_ref xhd_InvalidStay xty_InvalidStay xm_InvalidCounts_InvalidCounts xm_InvalidCounts_InvalidStay⟩ (.cons ⟨x_NotCounts, CX_NotCounts, EX_NotCounts, kit_ref xhd_InvalidStay xty_InvalidStay xm_NotCounts_NotCounts xm_NotCounts_InvalidStay⟩ .nil)) h)
    mx_InvalidHistory := PySem.W.mg_of X G xa_InvalidHistory
    is_InvalidHistory := (fun c k h => lookup_all (P := fun c k => ∃ D, ca0 c = some D ∧ ExnC K D ∧ PySem.W.kitOne K (.ref D) (.ref x_InvalidHistory) = some k) (.cons ⟨x_InvalidCounts, CX_InvalidCounts, EX_InvalidCounts, kit_ref xhd_InvalidHistory xty_InvalidHistory xm_InvalidCounts_InvalidCounts xm_InvalidCounts_InvalidHistory⟩ (.cons ⟨x_NotCounts, CX_NotCounts, EX_NotCounts, kit_ref xhd_InvalidHistory xty_InvalidHistory xm_NotCounts_NotCounts xm_NotCounts_InvalidHistory⟩ .nil)) h)
    mx_InvalidName := PySem.W.mg_of X G xa_InvalidName
    is_InvalidName := (fun c k h => lookup_all (P := fun c k => ∃ D, ca0 c = some D ∧ ExnC K D ∧ PySem.W.kitOne K (.ref D) (.ref x_InvalidName) = some k) (.cons ⟨x_InvalidCounts, CX_InvalidCounts, EX_InvalidCounts, kit_ref xhd_InvalidName xty_InvalidName xm_InvalidCounts_InvalidCounts xm_InvalidCounts_InvalidName⟩ (.cons ⟨x_NotCounts, CX_NotCounts, EX_NotCounts, kit_ref xhd_InvalidName xty_InvalidName xm_NotCounts_NotCounts xm_NotCounts_InvalidName⟩ .nil)) h)
    mx_InvalidLength := PySem.W.mg_of X G xa_InvalidLength
    is_InvalidLength := (fun c k h => lookup_all (P := fun c k => ∃ D, ca0 c = some D ∧ ExnC K D ∧ PySem.W.kitOne K (.ref D) (.ref x_InvalidLength) = some k) (.cons ⟨x_InvalidCounts, CX_InvalidCounts, EX_InvalidCounts, kit_ref xhd_InvalidLength xty_InvalidLength xm_InvalidCounts_InvalidCounts xm_InvalidCounts_InvalidLength⟩ (.cons ⟨x_NotCounts, CX_NotCounts, EX_NotCounts, kit_ref xhd_InvalidLength xty_InvalidLength xm_NotCounts_NotCounts xm_NotCounts_InvalidLength⟩ .nil)) h)
    mx_InvalidDoors := PySem.W.mg_of X G xa_InvalidDoors
    is_InvalidDoors := (fun c k h => lookup_all (P := fun c k => ∃ D, ca0 c = some D ∧ ExnC K D ∧ PySem.W.kitOne K (.ref D) (.ref x_InvalidDoors) = some k) (.cons ⟨x_InvalidCounts, CX_InvalidCounts, EX_InvalidCounts, kit_ref xhd_InvalidDoors xty_InvalidDoors xm_InvalidCounts_InvalidCounts xm_InvalidCounts_InvalidDoors⟩ (.cons ⟨x_NotCounts, CX_NotCounts, EX_NotCounts, kit_ref xhd_InvalidDoors xty_InvalidDoors xm_NotCounts_NotCounts xm_NotCounts_InvalidDoors⟩ .nil)) h)
    mx_InvalidDeed := PySem.W.mg_of X G xa_InvalidDeed
    is_InvalidDeed := (fun c k h => lookup_all (P := fun c k => ∃ D, ca0 c = some D ∧ ExnC K D ∧ PySem.W.kitOne K (.ref D) (.ref x_InvalidDeed) = some k) (.cons ⟨x_InvalidCounts, CX_InvalidCounts, EX_InvalidCounts, kit_ref xhd_InvalidDeed xty_InvalidDeed xm_InvalidCounts_InvalidCounts xm_InvalidCounts_InvalidDeed⟩ (.cons ⟨x_NotCounts, CX_NotCounts, EX_NotCounts, kit_ref xhd_InvalidDeed xty_InvalidDeed xm_NotCounts_NotCounts xm_NotCounts_InvalidDeed⟩ .nil)) h)
    mx_InvalidCommand := PySem.W.mg_of X G xa_InvalidCommand
    is_InvalidCommand := (fun c k h => lookup_all (P := fun c k => ∃ D, ca0 c = some D ∧ ExnC K D ∧ PySem.W.kitOne K (.ref D) (.ref x_InvalidCommand) = some k) (.cons ⟨x_InvalidCounts, CX_InvalidCounts, EX_InvalidCounts, kit_ref xhd_InvalidCommand xty_InvalidCommand xm_InvalidCounts_InvalidCounts xm_InvalidCounts_InvalidCommand⟩ (.cons ⟨x_NotCounts, CX_NotCounts, EX_NotCounts, kit_ref xhd_InvalidCommand xty_InvalidCommand xm_NotCounts_NotCounts xm_NotCounts_InvalidCommand⟩ .nil)) h)
    mx_Impossible := PySem.W.mg_of X G xa_Impossible
    is_Impossible := (fun c k h => lookup_all (P := fun c k => ∃ D, ca0 c = some D ∧ ExnC K D ∧ PySem.W.kitOne K (.ref D) (.ref x_Impossible) = some k) (.cons ⟨x_InvalidCounts, CX_InvalidCounts, EX_InvalidCounts, kit_ref xhd_Impossible xty_Impossible xm_InvalidCounts_InvalidCounts xm_InvalidCounts_Impossible⟩ (.cons ⟨x_NotCounts, CX_NotCounts, EX_NotCounts, kit_ref xhd_Impossible xty_Impossible xm_NotCounts_NotCounts xm_NotCounts_Impossible⟩ .nil)) h)
    mx_NotKnown := PySem.W.mg_of X G xa_NotKnown
    is_NotKnown := (fun c k h => lookup_all (P := fun c k => ∃ D, ca0 c = some D ∧ ExnC K D ∧ PySem.W.kitOne K (.ref D) (.ref x_NotKnown) = some k) (.cons ⟨x_InvalidCounts, CX_InvalidCounts, EX_InvalidCounts, kit_ref xhd_NotKnown xty_NotKnown xm_InvalidCounts_InvalidCounts xm_InvalidCounts_NotKnown⟩ (.cons ⟨x_NotCounts, CX_NotCounts, EX_NotCounts, kit_ref xhd_NotKnown xty_NotKnown xm_NotCounts_NotCounts xm_NotCounts_NotKnown⟩ .nil)) h)
    mx_LimitBroken := PySem.W.mg_of X G xa_LimitBroken
    is_LimitBroken := (fun c k h => lookup_all (P := fun c k => ∃ D, ca0 c = some D ∧ ExnC K D ∧ PySem.W.kitOne K (.ref D) (.ref x_LimitBroken) = some k) (.cons ⟨x_InvalidCounts, CX_InvalidCounts, EX_InvalidCounts, kit_ref xhd_LimitBroken xty_LimitBroken xm_InvalidCounts_InvalidCounts xm_InvalidCounts_LimitBroken⟩ (.cons ⟨x_NotCounts, CX_NotCounts, EX_NotCounts, kit_ref xhd_LimitBroken xty_LimitBroken xm_NotCounts_NotCounts xm_NotCounts_LimitBroken⟩ .nil)) h)
    mx_NothingToUndo := PySem.W.mg_of X G xa_NothingToUndo
    is_NothingToUndo := (fun c k h => lookup_all (P := fun c k => ∃ D, ca0 c = some D ∧ ExnC K D ∧ PySem.W.kitOne K (.ref D) (.ref x_NothingToUndo) = some k) (.cons ⟨x_InvalidCounts, CX_InvalidCounts, EX_InvalidCounts, kit_ref xhd_NothingToUndo xty_NothingToUndo xm_InvalidCounts_InvalidCounts xm_InvalidCounts_NothingToUndo⟩ (.cons ⟨x_NotCounts, CX_NotCounts, EX_NotCounts, kit_ref xhd_NothingToUndo xty_NothingToUndo xm_NotCounts_NotCounts xm_NotCounts_NothingToUndo⟩ .nil)) h)
    mx_TooMany := PySem.W.mg_of X G xa_TooMany
    is_TooMany := (fun c k h => lookup_all (P := fun c k => ∃ D, ca0 c = some D ∧ ExnC K D ∧ PySem.W.kitOne K (.ref D) (.ref x_TooMany) = some k) (.cons ⟨x_InvalidCounts, CX_InvalidCounts, EX_InvalidCounts, kit_ref xhd_TooMany xty_TooMany xm_InvalidCounts_InvalidCounts xm_InvalidCounts_TooMany⟩ (.cons ⟨x_NotCounts, CX_NotCounts, EX_NotCounts, kit_ref xhd_TooMany xty_TooMany xm_NotCounts_NotCounts xm_NotCounts_TooMany⟩ .nil)) h)
    mx_CountError := PySem.W.mg_of X G xa_CountError
    is_CountError := (fun c k h => lookup_all (P := fun c k => ∃ D, ca0 c = some D ∧ ExnC K D ∧ PySem.W.kitOne K (.ref D) (.ref x_CountError) = some k) (.cons ⟨x_InvalidCounts, CX_InvalidCounts, EX_InvalidCounts, kit_ref xhd_CountError xty_CountError xm_InvalidCounts_InvalidCounts xm_InvalidCounts_CountError⟩ (.cons ⟨x_NotCounts, CX_NotCounts, EX_NotCounts, kit_ref xhd_CountError xty_CountError xm_NotCounts_NotCounts xm_NotCounts_CountError⟩ .nil)) h)
    mx_SearchError := PySem.W.mg_of X G xa_SearchError
    is_SearchError := (fun c k h => lookup_all (P := fun c k => ∃ D, ca0 c = some D ∧ ExnC K D ∧ PySem.W.kitOne K (.ref D) (.ref x_SearchError) = some k) (.cons ⟨x_InvalidCounts, CX_InvalidCounts, EX_InvalidCounts, kit_ref xhd_SearchError xty_SearchError xm_InvalidCounts_InvalidCounts xm_InvalidCounts_SearchError⟩ (.cons ⟨x_NotCounts, CX_NotCounts, EX_NotCounts, kit_ref xhd_SearchError xty_SearchError xm_NotCounts_NotCounts xm_NotCounts_SearchError⟩ .nil)) h)
    mx_LimitError := PySem.W.mg_of X G xa_LimitError
    is_LimitError := (fun c k h => lookup_all (P := fun c k => ∃ D, ca0 c = some D ∧ ExnC K D ∧ PySem.W.kitOne K (.ref D) (.ref x_LimitError) = some k) (.cons ⟨x_InvalidCounts, CX_InvalidCounts, EX_InvalidCounts, kit_ref xhd_LimitError xty_LimitError xm_InvalidCounts_InvalidCounts xm_InvalidCounts_LimitError⟩ (.cons ⟨x_NotCounts, CX_NotCounts, EX_NotCounts, kit_ref xhd_LimitError xty_LimitError xm_NotCounts_NotCounts xm_NotCounts_LimitError⟩ .nil)) h)
    is_ValueError := (fun c k h => lookup_all (P := fun c k => ∃ D, ca0 c = some D ∧ ExnC K D ∧ PySem.W.kitOne K (.ref D) (.type "ValueError") = some k) (.cons ⟨x_InvalidCounts, CX_InvalidCounts, EX_InvalidCounts, kit_bty (by decide +kernel) xm_InvalidCounts_ValueError⟩ (.cons ⟨x_NotCounts, CX_NotCounts, EX_NotCounts, kit_bty (by decide +kernel) xm_NotCounts_ValueError⟩ .nil)) h)
    is_LookupError := (fun c k h => lookup_all (P := fun c k => ∃ D, ca0 c = some D ∧ ExnC K D ∧ PySem.W.kitOne K (.ref D) (.type "LookupError") = some k) (.cons ⟨x_InvalidCounts, CX_InvalidCounts, EX_InvalidCounts, kit_bty (by decide +kernel) xm_InvalidCounts_LookupError⟩ (.cons ⟨x_NotCounts, CX_NotCounts, EX_NotCounts, kit_bty (by decide +kernel) xm_NotCounts_LookupError⟩ .nil)) h)
    is_ArithmeticError := (fun c k h => lookup_all (P := fun c k => ∃ D, ca0 c = some D ∧ ExnC K D ∧ PySem.W.kitOne K (.ref D) (.type "ArithmeticError") = some k) (.cons ⟨x_InvalidCounts, CX_InvalidCounts, EX_InvalidCounts, kit_bty (by decide +kernel) xm_InvalidCounts_ArithmeticError⟩ (.cons ⟨x_NotCounts, CX_NotCounts, EX_NotCounts, kit_bty (by decide +kernel) xm_NotCounts_ArithmeticError⟩ .nil)) h)
    ct_CountError_SearchError_LimitError := (fun c D hc h => lookup_all (P := fun c k => ∀ D, ca0 c = some D → k = true → PySem.W.exmAny K (.ref D) [.ref x_CountError, .ref x_SearchError, .ref x_LimitError] = some true) (.cons (fun D hc _ => (Option.some.inj (CX_InvalidCounts.symm.trans hc)) ▸ exm_three (exm_ref xbe_CountError xhd_CountError xty_CountError xm_InvalidCounts_CountError) (exm_ref xbe_SearchError xhd_SearchError xty_SearchError xm_InvalidCounts_SearchError) (exm_ref xbe_LimitError xhd_LimitError xty_LimitError xm_InvalidCounts_LimitError)) (.cons (fun D hc _ => (Option.some.inj (CX_NotCounts.symm.trans hc)) ▸ exm_three (exm_ref xbe_CountError xhd_CountError xty_CountError xm_NotCounts_CountError) (exm_ref xbe_SearchError xhd_SearchError xty_SearchError xm_NotCounts_SearchError) (exm_ref xbe_LimitError xhd_LimitError xty_LimitError xm_NotCounts_LimitError)) .nil)) h D hc rfl)
    xf_index := (fun _ h => nomatch h)
    xf_length := (fun _ h => nomatch h)
    xf_limit := (fun _ h => nomatch h)
    xf_name := (fun _ h => nomatch h)
    xf_number := (fun _ h => nomatch h)
    xf_text := (fun _ h => nomatch h)
    xf_tick := (List.forall_mem_cons.mpr ⟨⟨x_InvalidCounts, CX_InvalidCounts, EX_InvalidCounts, xn_InvalidCounts_tick⟩, (fun _ h => nomatch h)⟩)
    xf_value := (List.forall_mem_cons.mpr ⟨⟨x_NotCounts, CX_NotCounts, EX_NotCounts, xn_NotCounts_value⟩, (fun _ h => nomatch h)⟩)
    xf_word := (fun _ h => nomatch h)
    na_arrivals := na_arrivals
    na_departures := na_departures
    cv_MAX_TICKS := ⟨_, cv_MAX_TICKS, ⟨_, rfl⟩⟩
    cv_MAX_PEOPLE := ⟨_, cv_MAX_PEOPLE, ⟨_, rfl⟩⟩
    c_eNC := ⟨_, _, F_eNC, a_eNC, i_eNC, F_eNC.binds (ps := ["self", "value"]) fun _ _ _ _ _ _ us hl => match us, hl with | [_, _], _ => rfl⟩
    c_eIC := ⟨_, _, F_eIC, a_eIC, i_eIC, F_eIC.binds (ps := ["self", "tick"]) fun _ _ _ _ _ _ us hl => match us, hl with | [_, _], _ => rfl⟩
    c_ii := ⟨_, _, F_ii, PySem.W.mg_of X G a_ii, k_ii, F_ii.binds (ps := ["value", "low", "high"]) fun _ _ _ _ _ _ us hl => match us, hl with | [_, _, _], _ => rfl⟩
    c_pra := ⟨_, _, F_pra, PySem.W.mg_of X G a_pra, k_pra, F_pra.binds (ps := ["arrivals", "departures"]) fun _ _ _ _ _ _ us hl => match us, hl with | [_, _], _ => rfl⟩
    c_ckc := ⟨_, _, F_ckc, PySem.W.mg_of X G a_ckc, k_ckc, F_ckc.binds (ps := ["value"]) fun _ _ _ _ _ _ us hl => match us, hl with | [_], _ => rfl⟩
    c_cl := ⟨_, _, F_cl, PySem.W.mg_of X G a_cl, k_cl, F_cl.binds (ps := ["arrivals", "departures"]) fun _ _ _ _ _ _ us hl => match us, hl with | [_, _], _ => rfl⟩
    c_inu := ⟨_, _, F_inu, PySem.W.mg_of X G a_inu, k_inu, F_inu.binds (ps := ["value"]) fun _ _ _ _ _ _ us hl => match us, hl with | [_], _ => rfl⟩
    c_cn := ⟨_, _, F_cn, PySem.W.mg_of X G a_cn, k_cn, F_cn.binds (ps := ["arrivals", "departures"]) fun _ _ _ _ _ _ us hl => match us, hl with | [_, _], _ => rfl⟩
    c_ini := ⟨_, _, F_ini, ⟨mk, a_ini, i_ini, kc⟩, ⟨fun s us ws _ h1 h2 => match us, h1, ws, h2 with | [_, _, _], _, [], _ => .of_eq rfl⟩⟩
    c_pre := ⟨_, _, F_pre, ⟨_, ⟨a_pre, g_pre, t_pre, ⟨_, r_pre⟩⟩⟩, F_pre.binds (ps := ["self"]) fun _ _ _ _ _ _ us hl => match us, hl with | [_], _ => rfl⟩
    c_peo := ⟨_, _, F_peo, ⟨_, ⟨a_peo, g_peo, t_peo, ⟨_, r_peo⟩⟩⟩, F_peo.binds (ps := ["self"]) fun _ _ _ _ _ _ us hl => match us, hl with | [_], _ => rfl⟩
    c_len := ⟨_, _, F_len, a_len, i_len, F_len.binds (ps := ["self"]) fun _ _ _ _ _ _ us hl => match us, hl with | [_], _ => rfl⟩
    c_row := ⟨_, _, F_row, PySem.W.mg_of X G a_row, k_row, F_row.binds (ps := ["tick", "arriving", "leaving", "staying"]) fun _ _ _ _ _ _ us hl => match us, hl with | [_, _, _, _], _ => rfl⟩
    c_tab := ⟨_, _, F_tab, PySem.W.mg_of X G a_tab, k_tab, KBp.lacks (A := kD_tab) [("totals", V.bl false)] (List.forall_mem_cons.mpr ⟨⟨_, kn_tab_totals, rfl⟩, fun _ h => nomatch h⟩) (fun us mv ws h1 h2 h3 => match us, h1, mv, h2, ws, h3 with | [_], _, [_], _, [], _ => ⟨_, _, _, _, _, _, rfl, rfl, rfl⟩), KBp.lacks (A := kD_tab) [("totals", V.bl false)] (List.forall_mem_cons.mpr ⟨⟨_, kn_tab_totals, rfl⟩, fun _ h => nomatch h⟩) (fun us mv ws h1 h2 h3 => match us, h1, mv, h2, ws, h3 with | [], _, [_], _, [_], _ => ⟨_, _, _, _, _, _, rfl, rfl, rfl⟩), KBp.plain fun s us ws _ h1 h2 => match us, h1, ws, h2 with | [_], _, [_], _ => .of_eq rfl⟩
    c_cell := ⟨_, _, F_cell, PySem.W.mg_of X G a_cell, k_cell, F_cell.binds (ps := ["_law_cells", "_law_k"]) fun _ _ _ _ _ _ us hl => match us, hl with | [_, _], _ => rfl⟩
    c_pool := ⟨_, _, F_pool, PySem.W.mg_of X G a_pool, k_pool, F_pool.binds (ps := ["_law_cell_here"]) fun _ _ _ _ _ _ us hl => match us, hl with | [_], _ => rfl⟩
    c_draw := ⟨_, _, F_draw, PySem.W.mg_of X G a_draw, k_draw, F_draw.binds (ps := ["_law_pool_here", "_law_many"]) fun _ _ _ _ _ _ us hl => match us, hl with | [_, _], _ => rfl⟩
    c_flows := ⟨_, _, F_flows, PySem.W.mg_of X G a_flows, k_flows, F_flows.binds (ps := ["_law_pool_here", "_law_size", "_law_most_in", "_law_people"]) fun _ _ _ _ _ _ us hl => match us, hl with | [_, _, _, _], _ => rfl⟩
    c_small := ⟨_, _, F_small, PySem.W.mg_of X G a_small, k_small, F_small.binds (ps := ["_law_pool_here"]) fun _ _ _ _ _ _ us hl => match us, hl with | [_], _ => rfl⟩
    c_great := ⟨_, _, F_great, PySem.W.mg_of X G a_great, k_great, F_great.binds (ps := ["_law_pool_here"]) fun _ _ _ _ _ _ us hl => match us, hl with | [_], _ => rfl⟩
    c_rest := ⟨_, _, F_rest, PySem.W.mg_of X G a_rest, k_rest, F_rest.binds (ps := ["_law_comes", "_law_goes"]) fun _ _ _ _ _ _ us hl => match us, hl with | [_, _], _ => rfl⟩
    c_error := ⟨_, _, F_error, PySem.W.mg_of X G a_error, k_error, F_error.binds (ps := ["_law_e"]) fun _ _ _ _ _ _ us hl => match us, hl with | [_], _ => rfl⟩
    c_any := ⟨_, _, F_any, PySem.W.mg_of X G a_any, k_any, F_any.binds (ps := ["_law_pool_here"]) fun _ _ _ _ _ _ us hl => match us, hl with | [_], _ => rfl⟩
    c_field := ⟨_, _, F_field, PySem.W.mg_of X G a_field, k_field, F_field.binds (ps := ["_law_e", "_law_at"]) fun _ _ _ _ _ _ us hl => match us, hl with | [_, _], _ => rfl⟩
    c_caught := ⟨_, _, F_caught, PySem.W.mg_of X G a_caught, k_caught, F_caught.binds (ps := ["_law_act"]) fun _ _ _ _ _ _ us hl => match us, hl with | [_], _ => rfl⟩
    c_lrow := ⟨_, _, F_lrow, PySem.W.mg_of X G a_lrow, k_lrow, F_lrow.binds (ps := ["_law_words"]) fun _ _ _ _ _ _ us hl => match us, hl with | [_], _ => rfl⟩
    c_due := ⟨_, _, F_due, PySem.W.mg_of X G a_due, k_due, F_due.binds (ps := ["_law_comes", "_law_goes", "_law_whole"]) fun _ _ _ _ _ _ us hl => match us, hl with | [_, _, _], _ => rfl⟩
    c_right := ⟨_, _, F_right, PySem.W.mg_of X G a_right, k_right, F_right.binds (ps := ["_law_pool_here"]) fun _ _ _ _ _ _ us hl => match us, hl with | [_], _ => rfl, ⟨_, _, cdE_right, bt_right, by simp, fun p hp e => by
      simp only [List.mem_cons, List.not_mem_nil, or_false] at hp
      rcases hp with rfl
      · rfl⟩⟩
    c_law := ⟨_, _, F_law, PySem.W.mg_of X G a_law, k_law, F_law.binds (ps := ["_law_cells"]) fun _ _ _ _ _ _ us hl => match us, hl with | [_], _ => rfl⟩
  }
  exact ⟨np_right, ⟨PySem.W.fnOf "law" "law" (defArgs s_law) (defBody s_law) (defScope s_law) .none kV_law dc_law pm_law an_law cd_law ct_law, fun s v => .of_eq rfl, fun base _ _ bt_right => ⟨_, ok_law (T base bt_right) F_law⟩⟩⟩
end K79
open PySem PySem.W PyProof.Rows
set_option maxRecDepth 100000 in
set_option maxHeartbeats 0 in
theorem PySem.Challenge.cw_staycounts_k79_table_in_columns_holds : PySem.Challenge.rw_staycounts_k79_table_in_columns.Holds := by
  w_on; o_law; k_head; (case hw => w_witness2)
  k_fill
  refine PL.walk_gT (nm := "_law_right") (l := PySem.Challenge.rw_staycounts_k79_table_in_columns) (x := "_law_cells") (k := 8) (G := K79.F_law) rfl rfl ⟨rfl, by decide, by decide⟩ (fun w h Y => PySem.W.km_in_of Y) (by decide +kernel) ?F K79.holds
  case F =>
    intro w mg fa h KX G hmg f0_right c0_right P0_right o0_right fd0_right x1_right x2_right x3_right x4_right x5_right
    refine' K79.all_mk KX G hmg x1_right x2_right x3_right x4_right x5_right ?aC ?xa_InvalidCounts ?xa_NotCounts ?xa_InvalidTick ?xa_InvalidNumber ?xa_InvalidText ?xa_InvalidStay ?xa_InvalidHistory ?xa_InvalidName ?xa_InvalidLength ?xa_InvalidDoors ?xa_InvalidDeed ?xa_InvalidCommand ?xa_Impossible ?xa_NotKnown ?xa_LimitBroken ?xa_NothingToUndo ?xa_TooMany ?xa_CountError ?xa_SearchError ?xa_LimitError ?a_eNC ?i_eNC ?l_eNC ?c_eNC ?k_eNC ?a_eIC ?i_eIC ?l_eIC ?c_eIC ?k_eIC ?a_ii ?l_ii ?c_ii ?k_ii ?a_pra ?l_pra ?c_pra ?k_pra ?a_ckc ?l_ckc ?c_ckc ?k_ckc ?a_cl ?l_cl ?c_cl ?k_cl ?a_inu ?l_inu ?c_inu ?k_inu ?a_cn ?l_cn ?c_cn ?k_cn ?a_ini ?i_ini ?l_ini ?c_ini ?k_ini ?a_pre ?g_pre ?t_pre ?r_pre ?l_pre ?c_pre ?k_pre ?a_peo ?g_peo ?t_peo ?r_peo ?l_peo ?c_peo ?k_peo ?a_len ?i_len ?l_len ?c_len ?k_len ?a_row ?l_row ?c_row ?k_row ?a_tab ?l_tab ?c_tab ?kn_tab_totals ?k_tab ?a_cell ?l_cell ?c_cell ?k_cell ?a_pool ?l_pool ?c_pool ?k_pool ?a_draw ?l_draw ?c_draw ?k_draw ?a_flows ?l_flows ?c_flows ?k_flows ?a_small ?l_small ?c_small ?k_small ?a_great ?l_great ?c_great ?k_great ?a_rest ?l_rest ?c_rest ?k_rest ?a_error ?l_error ?c_error ?k_error ?a_any ?l_any ?c_any ?k_any ?a_field ?l_field ?c_field ?k_field ?a_caught ?l_caught ?c_caught ?k_caught ?a_lrow ?l_lrow ?c_lrow ?k_lrow ?a_due ?l_due ?c_due ?k_due ?a_right ?l_right ?c_right ?k_right ?a_law ?l_law ?c_law ?k_law ?pg ?hd ?po ?sa ?mk ?kc ?rd ?ga ?ha ?hn ?tk ?mr ?ty ?bt_bool ?bt_int ?bt_str ?bt_tuple ?bt_list ?bt_dict ?na_arrivals ?na_departures ?cv_MAX_TICKS ?cv_MAX_PEOPLE ?z_isinstance ?z_len ?z_int ?z_bool ?z_tuple ?z_list ?z_str ?z_enumerate ?z_zip ?z_range ?z_min ?z_max ?z_repr ?z_all ?z_divmod ?z_abs ?z_sum ?z_ValueError ?z_LookupError ?z_ArithmeticError ?xhd_InvalidCounts ?xty_InvalidCounts ?xbe_InvalidCounts ?xm_InvalidCounts_InvalidCounts ?xm_NotCounts_InvalidCounts ?xhd_NotCounts ?xty_NotCounts ?xbe_NotCounts ?xm_InvalidCounts_NotCounts ?xm_NotCounts_NotCounts ?xhd_InvalidTick ?xty_InvalidTick ?xm_InvalidCounts_InvalidTick ?xm_NotCounts_InvalidTick ?xhd_InvalidNumber ?xty_InvalidNumber ?xm_InvalidCounts_InvalidNumber ?xm_NotCounts_InvalidNumber ?xhd_InvalidText ?xty_InvalidText ?xm_InvalidCounts_InvalidText ?xm_NotCounts_InvalidText ?xhd_InvalidStay ?xty_InvalidStay ?xm_InvalidCounts_InvalidStay ?xm_NotCounts_InvalidStay ?xhd_InvalidHistory ?xty_InvalidHistory ?xm_InvalidCounts_InvalidHistory ?xm_NotCounts_InvalidHistory ?xhd_InvalidName ?xty_InvalidName ?xm_InvalidCounts_InvalidName ?xm_NotCounts_InvalidName ?xhd_InvalidLength ?xty_InvalidLength ?xm_InvalidCounts_InvalidLength ?xm_NotCounts_InvalidLength ?xhd_InvalidDoors ?xty_InvalidDoors ?xm_InvalidCounts_InvalidDoors ?xm_NotCounts_InvalidDoors ?xhd_InvalidDeed ?xty_InvalidDeed ?xm_InvalidCounts_InvalidDeed ?xm_NotCounts_InvalidDeed ?xhd_InvalidCommand ?xty_InvalidCommand ?xm_InvalidCounts_InvalidCommand ?xm_NotCounts_InvalidCommand ?xhd_Impossible ?xty_Impossible ?xm_InvalidCounts_Impossible ?xm_NotCounts_Impossible ?xhd_NotKnown ?xty_NotKnown ?xm_InvalidCounts_NotKnown ?xm_NotCounts_NotKnown ?xhd_LimitBroken ?xty_LimitBroken ?xm_InvalidCounts_LimitBroken ?xm_NotCounts_LimitBroken ?xhd_NothingToUndo ?xty_NothingToUndo ?xm_InvalidCounts_NothingToUndo ?xm_NotCounts_NothingToUndo ?xhd_TooMany ?xty_TooMany ?xm_InvalidCounts_TooMany ?xm_NotCounts_TooMany ?xhd_CountError ?xty_CountError ?xbe_CountError ?xm_InvalidCounts_CountError ?xm_NotCounts_CountError ?xhd_SearchError ?xty_SearchError ?xbe_SearchError ?xm_InvalidCounts_SearchError ?xm_NotCounts_SearchError ?xhd_LimitError ?xty_LimitError ?xbe_LimitError ?xm_InvalidCounts_LimitError ?xm_NotCounts_LimitError ?xm_InvalidCounts_ValueError ?xm_InvalidCounts_LookupError ?xm_InvalidCounts_ArithmeticError ?xsa_InvalidCounts ?xk_InvalidCounts ?xga_InvalidCounts ?xgg_InvalidCounts ?xha_InvalidCounts ?xmr_InvalidCounts ?xn_InvalidCounts_tick ?xm_NotCounts_ValueError ?xm_NotCounts_LookupError ?xm_NotCounts_ArithmeticError ?xsa_NotCounts ?xk_NotCounts ?xga_NotCounts ?xgg_NotCounts ?xha_NotCounts ?xmr_NotCounts ?xn_NotCounts_value ?xq_InvalidCounts ?xo_InvalidCounts ?xq_NotCounts ?xo_NotCounts ?cdq_right ?lcd_right ?v11_right ?np_right
    (case aC => k_is)
    (case xa_InvalidCounts => k_is)
    (case xa_NotCounts => k_is)
    (case xa_InvalidTick => k_is)
    (case xa_InvalidNumber => k_is)
    (case xa_InvalidText => k_is)
    (case xa_InvalidStay => k_is)
    (case xa_InvalidHistory => k_is)
    (case xa_InvalidName => k_is)
    (case xa_InvalidLength => k_is)
    (case xa_InvalidDoors => k_is)
    (case xa_InvalidDeed => k_is)
    (case xa_InvalidCommand => k_is)
    (case xa_Impossible => k_is)
    (case xa_NotKnown => k_is)
    (case xa_LimitBroken => k_is)
    (case xa_NothingToUndo => k_is)
    (case xa_TooMany => k_is)
    (case xa_CountError => k_is)
    (case xa_SearchError => k_is)
    (case xa_LimitError => k_is)
    (case a_eNC => k_is)
    (case i_eNC => k_is)
    (case l_eNC => k_is)
    (case c_eNC => k_is)
    (case k_eNC => k_is)
    (case a_eIC => k_is)
    (case i_eIC => k_is)
    (case l_eIC => k_is)
    (case c_eIC => k_is)
    (case k_eIC => k_is)
    (case a_ii => k_is)
    (case l_ii => k_is)
    (case c_ii => k_is)
    (case k_ii => k_is)
    (case a_pra => k_is)
    (case l_pra => k_is)
    (case c_pra => k_is)
    (case k_pra => k_is)
    (case a_ckc => k_is)
    (case l_ckc => k_is)
    (case c_ckc => k_is)
    (case k_ckc => k_is)
    (case a_cl => k_is)
    (case l_cl => k_is)
    (case c_cl => k_is)
    (case k_cl => k_is)
    (case a_inu => k_is)
    (case l_inu => k_is)
    (case c_inu => k_is)
    (case k_inu => k_is)
    (case a_cn => k_is)
    (case l_cn => k_is)
    (case c_cn => k_is)
    (case k_cn => k_is)
    (case a_ini => k_is)
    (case i_ini => k_is)
    (case l_ini => k_is)
    (case c_ini => k_is)
    (case k_ini => k_is)
    (case a_pre => k_is)
    (case g_pre => k_is)
    (case t_pre => k_is)
    (case r_pre => k_is)
    (case l_pre => k_is)
    (case c_pre => k_is)
    (case k_pre => k_is)
    (case a_peo => k_is)
    (case g_peo => k_is)
    (case t_peo => k_is)
    (case r_peo => k_is)
    (case l_peo => k_is)
    (case c_peo => k_is)
    (case k_peo => k_is)
    (case a_len => k_is)
    (case i_len => k_is)
    (case l_len => k_is)
    (case c_len => k_is)
    (case k_len => k_is)
    (case a_row => k_is)
    (case l_row => k_is)
    (case c_row => k_is)
    (case k_row => k_is)
    (case a_tab => k_is)
    (case l_tab => k_is)
    (case c_tab => k_is)
    (case kn_tab_totals => k_is)
    (case k_tab => k_is)
    (case a_cell => k_is)
    (case l_cell => k_is)
    (case c_cell => k_is)
    (case k_cell => k_is)
    (case a_pool => k_is)
    (case l_pool => k_is)
    (case c_pool => k_is)
    (case k_pool => k_is)
    (case a_draw => k_is)
    (case l_draw => k_is)
    (case c_draw => k_is)
    (case k_draw => k_is)
    (case a_flows => k_is)
    (case l_flows => k_is)
    (case c_flows => k_is)
    (case k_flows => k_is)
    (case a_small => k_is)
    (case l_small => k_is)
    (case c_small => k_is)
    (case k_small => k_is)
    (case a_great => k_is)
    (case l_great => k_is)
    (case c_great => k_is)
    (case k_great => k_is)
    (case a_rest => k_is)
    (case l_rest => k_is)
    (case c_rest => k_is)
    (case k_rest => k_is)
    (case a_error => k_is)
    (case l_error => k_is)
    (case c_error => k_is)
    (case k_error => k_is)
    (case a_any => k_is)
    (case l_any => k_is)
    (case c_any => k_is)
    (case k_any => k_is)
    (case a_field => k_is)
    (case l_field => k_is)
    (case c_field => k_is)
    (case k_field => k_is)
    (case a_caught => k_is)
    (case l_caught => k_is)
    (case c_caught => k_is)
    (case k_caught => k_is)
    (case a_lrow => k_is)
    (case l_lrow => k_is)
    (case c_lrow => k_is)
    (case k_lrow => k_is)
    (case a_due => k_is)
    (case l_due => k_is)
    (case c_due => k_is)
    (case k_due => k_is)
    (case a_right => k_is)
    (case l_right => k_is)
    (case c_right => k_is)
    (case k_right => k_is)
    (case a_law => k_is)
    (case l_law => k_is)
    (case c_law => k_is)
    (case k_law => k_is)
    (case pg => k_is)
    (case hd => k_is)
    (case po => k_is)
    (case sa => k_is)
    (case mk => k_is)
    (case kc => k_is)
    (case rd => k_is)
    (case ga => k_is)
    (case ha => k_is)
    (case hn => k_is)
    (case tk => k_is)
    (case mr => k_is)
    (case ty => k_is)
    (case bt_bool => k_is)
    (case bt_int => k_is)
    (case bt_str => k_is)
    (case bt_tuple => k_is)
    (case bt_list => k_is)
    (case bt_dict => k_is)
    (case na_arrivals => k_is)
    (case na_departures => k_is)
    (case cv_MAX_TICKS => k_is)
    (case cv_MAX_PEOPLE => k_is)
    (case z_isinstance => k_is)
    (case z_len => k_is)
    (case z_int => k_is)
    (case z_bool => k_is)
    (case z_tuple => k_is)
    (case z_list => k_is)
    (case z_str => k_is)
    (case z_enumerate => k_is)
    (case z_zip => k_is)
    (case z_range => k_is)
    (case z_min => k_is)
    (case z_max => k_is)
    (case z_repr => k_is)
    (case z_all => k_is)
    (case z_divmod => k_is)
    (case z_abs => k_is)
    (case z_sum => k_is)
    (case z_ValueError => k_is)
    (case z_LookupError => k_is)
    (case z_ArithmeticError => k_is)
    (case xhd_InvalidCounts => k_is)
    (case xty_InvalidCounts => k_is)
    (case xbe_InvalidCounts => k_is)
    (case xm_InvalidCounts_InvalidCounts => k_is)
    (case xm_NotCounts_InvalidCounts => k_is)
    (case xhd_NotCounts => k_is)
    (case xty_NotCounts => k_is)
    (case xbe_NotCounts => k_is)
    (case xm_InvalidCounts_NotCounts => k_is)
    (case xm_NotCounts_NotCounts => k_is)
    (case xhd_InvalidTick => k_is)
    (case xty_InvalidTick => k_is)
    (case xm_InvalidCounts_InvalidTick => k_is)
    (case xm_NotCounts_InvalidTick => k_is)
    (case xhd_InvalidNumber => k_is)
    (case xty_InvalidNumber => k_is)
    (case xm_InvalidCounts_InvalidNumber => k_is)
    (case xm_NotCounts_InvalidNumber => k_is)
    (case xhd_InvalidText => k_is)
    (case xty_InvalidText => k_is)
    (case xm_InvalidCounts_InvalidText => k_is)
    (case xm_NotCounts_InvalidText => k_is)
    (case xhd_InvalidStay => k_is)
    (case xty_InvalidStay => k_is)
    (case xm_InvalidCounts_InvalidStay => k_is)
    (case xm_NotCounts_InvalidStay => k_is)
    (case xhd_InvalidHistory => k_is)
    (case xty_InvalidHistory => k_is)
    (case xm_InvalidCounts_InvalidHistory => k_is)
    (case xm_NotCounts_InvalidHistory => k_is)
    (case xhd_InvalidName => k_is)
    (case xty_InvalidName => k_is)
    (case xm_InvalidCounts_InvalidName => k_is)
    (case xm_NotCounts_InvalidName => k_is)
    (case xhd_InvalidLength => k_is)
    (case xty_InvalidLength => k_is)
    (case xm_InvalidCounts_InvalidLength => k_is)
    (case xm_NotCounts_InvalidLength => k_is)
    (case xhd_InvalidDoors => k_is)
    (case xty_InvalidDoors => k_is)
    (case xm_InvalidCounts_InvalidDoors => k_is)
    (case xm_NotCounts_InvalidDoors => k_is)
    (case xhd_InvalidDeed => k_is)
    (case xty_InvalidDeed => k_is)
    (case xm_InvalidCounts_InvalidDeed => k_is)
    (case xm_NotCounts_InvalidDeed => k_is)
    (case xhd_InvalidCommand => k_is)
    (case xty_InvalidCommand => k_is)
    (case xm_InvalidCounts_InvalidCommand => k_is)
    (case xm_NotCounts_InvalidCommand => k_is)
    (case xhd_Impossible => k_is)
    (case xty_Impossible => k_is)
    (case xm_InvalidCounts_Impossible => k_is)
    (case xm_NotCounts_Impossible => k_is)
    (case xhd_NotKnown => k_is)
    (case xty_NotKnown => k_is)
    (case xm_InvalidCounts_NotKnown => k_is)
    (case xm_NotCounts_NotKnown => k_is)
    (case xhd_LimitBroken => k_is)
    (case xty_LimitBroken => k_is)
    (case xm_InvalidCounts_LimitBroken => k_is)
    (case xm_NotCounts_LimitBroken => k_is)
    (case xhd_NothingToUndo => k_is)
    (case xty_NothingToUndo => k_is)
    (case xm_InvalidCounts_NothingToUndo => k_is)
    (case xm_NotCounts_NothingToUndo => k_is)
    (case xhd_TooMany => k_is)
    (case xty_TooMany => k_is)
    (case xm_InvalidCounts_TooMany => k_is)
    (case xm_NotCounts_TooMany => k_is)
    (case xhd_CountError => k_is)
    (case xty_CountError => k_is)
    (case xbe_CountError => k_is)
    (case xm_InvalidCounts_CountError => k_is)
    (case xm_NotCounts_CountError => k_is)
    (case xhd_SearchError => k_is)
    (case xty_SearchError => k_is)
    (case xbe_SearchError => k_is)
    (case xm_InvalidCounts_SearchError => k_is)
    (case xm_NotCounts_SearchError => k_is)
    (case xhd_LimitError => k_is)
    (case xty_LimitError => k_is)
    (case xbe_LimitError => k_is)
    (case xm_InvalidCounts_LimitError => k_is)
    (case xm_NotCounts_LimitError => k_is)
    (case xm_InvalidCounts_ValueError => k_is)
    (case xm_InvalidCounts_LookupError => k_is)
    (case xm_InvalidCounts_ArithmeticError => k_is)
    (case xsa_InvalidCounts => k_is)
    (case xk_InvalidCounts => k_is)
    (case xga_InvalidCounts => k_is)
    (case xgg_InvalidCounts => k_is)
    (case xha_InvalidCounts => k_is)
    (case xmr_InvalidCounts => k_is)
    (case xn_InvalidCounts_tick => k_is)
    (case xm_NotCounts_ValueError => k_is)
    (case xm_NotCounts_LookupError => k_is)
    (case xm_NotCounts_ArithmeticError => k_is)
    (case xsa_NotCounts => k_is)
    (case xk_NotCounts => k_is)
    (case xga_NotCounts => k_is)
    (case xgg_NotCounts => k_is)
    (case xha_NotCounts => k_is)
    (case xmr_NotCounts => k_is)
    (case xn_NotCounts_value => k_is)
    (case xq_InvalidCounts => kernel_rfl)
    (case xo_InvalidCounts => kernel_rfl)
    (case xq_NotCounts => kernel_rfl)
    (case xo_NotCounts => kernel_rfl)
    (case cdq_right => exact rfl)
    (case lcd_right => k_is)
    (case v11_right => exact rfl)
    (case np_right => first | kernel_rfl | exact rfl | decide +kernel)
#print axioms PySem.Challenge.cw_staycounts_k79_table_in_columns_holds
