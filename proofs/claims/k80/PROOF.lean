import PyProof.Rows.All
import Wide.All
import OpenK.AllK
import Wide.FinOn
import PyProof.EqAt
import PyProof.EqKinds
import PyProof.TupleCall
import KE.BitLaws
import PyProof.NsDelKeeps
import PyProof.AutoSeq1
import PyProof.FactsAll.tuple_2
import PyProof.ListMulRoad
import PyProof.SetRoads
import PyProof.Seq
import PyProof.DictIter
import PyProof.DictKinds
import PyProof.Rows.SortShellAny
import PyProof.Rows.SetFrom
import PyProof.TupleOfGen
import PyProof.ListRange
import PyProof.Draws
import PyProof.EnumMake
import PyProof.SumWalkG
import PyProof.ListNew
import PyProof.TupleOfSeq
import KE.KSortTupUse
import KE.IntBitsLaws
import PyProof.DictCompW
import PyProof.AttrMiss
import PyProof.FactsAll.zip
import KE.KDictOf
import KE.KLam
import PyProof.Rows.SeqIn
import PyProof.P3In
import PySem.Challenge.RW_sumorder_k80_letters_in_rounds
set_option Elab.async false
section
-- CHANGE: your row's module here, as the last of these rows
set_option Elab.async false
set_option linter.all false
set_option maxRecDepth 100000
/-! THE HAND LAYER, for ints, bools, texts, own classes, lists, tuples, dicts, comprehensions, walks over dicts, enumerate, zip, reversed, texts, calls, loops. Paste it whole ahead of your own text; what your proof does not reach may be deleted. -/
namespace L2
open PySem PySem.Spec PyProof.Rows

/-- a key: an int or a str -/
abbrev Key := Sum Int Str
def keyIs : Key → Value → Bool
  | .inl k, v => Value.isInt k v
  | .inr x, v => Value.isStrOf x v
def keyH (w : World) : Key → Int
  | .inl k => hashInt k
  | .inr x => hashStr w x
theorem keyIs_shape : ∀ {k : Key} {v : Value}, keyIs k v = true → (∃ i t, k = Sum.inl i ∧ v = Value.int i t) ∨ (∃ x t, k = Sum.inr x ∧ v = Value.str x t)
  | .inl i, v, h => by
    obtain ⟨t, e⟩ := Value.isInt_shape (k := i) (v := v) h
    exact .inl ⟨i, t, rfl, e⟩
  | .inr x, v, h => by
    obtain ⟨t, e⟩ := Value.isStrOf_shape (x := x) (v := v) h
    exact .inr ⟨x, t, rfl, e⟩
theorem keyIs_int (i : Int) (t : Tok) : keyIs (.inl i) (.int i t) = true := by simp [keyIs, Value.isInt]
theorem keyIs_str (x : Str) (t : Tok) : keyIs (.inr x) (.str x t) = true := by simp [keyIs, Value.isStrOf]
theorem key_ll (a b : Int) : decide ((Sum.inl a : Key) = Sum.inl b) = (a == b) := by
  by_cases e : a = b
  · subst e; simp
  · have h : ¬ (Sum.inl a : Key) = Sum.inl b := fun q => e (Sum.inl.inj q)
    rw [decide_eq_false h]
    exact (beq_eq_false_iff_ne.mpr e).symm
theorem key_rr (a b : Str) : decide ((Sum.inr a : Key) = Sum.inr b) = decide (a = b) := by
  by_cases e : a = b
  · subst e; simp
  · have h : ¬ (Sum.inr a : Key) = Sum.inr b := fun q => e (Sum.inr.inj q)
    rw [decide_eq_false h, decide_eq_false e]
theorem key_lr (a : Int) (b : Str) : decide ((Sum.inl a : Key) = Sum.inr b) = false := decide_eq_false (fun q => nomatch q)
theorem key_rl (a : Str) (b : Int) : decide ((Sum.inr a : Key) = Sum.inl b) = false := decide_eq_false (fun q => nomatch q)

def mixKind (prog : Program) (w : World) : PySem.KeyKind prog w Key where
  is := keyIs
  hash := keyH w
  inj := fun v a b ha hb => by
    rcases keyIs_shape ha with ⟨i, t, rfl, rfl⟩ | ⟨x, t, rfl, rfl⟩
    · rcases keyIs_shape hb with ⟨j, u, rfl, e⟩ | ⟨y, u, rfl, e⟩
      · injection e with e1 _; rw [e1]
      · exact nomatch e
    · rcases keyIs_shape hb with ⟨j, u, rfl, e⟩ | ⟨y, u, rfl, e⟩
      · exact nomatch e
      · injection e with e1 _; rw [e1]
  byValue := fun k v h => by
    rcases keyIs_shape h with ⟨i, t, rfl, rfl⟩ | ⟨x, t, rfl, rfl⟩ <;> rfl
  pyHash := fun hv h => by
    rcases keyIs_shape hv with ⟨i, t, rfl, rfl⟩ | ⟨x, t, rfl, rfl⟩
    · exact wpAny_pyHash_int h
    · exact wpAny_pyHash_str h
  eqBool := fun hu hv h => by
    rcases keyIs_shape hu with ⟨i, t, rfl, rfl⟩ | ⟨x, t, rfl, rfl⟩
    · rcases keyIs_shape hv with ⟨j, u, rfl, rfl⟩ | ⟨y, u, rfl, rfl⟩
      · rw [key_ll] at h; exact wpAny_eqBool_int h
      · rw [key_lr] at h; exact SeqAt.EqAt.int_str i t y u _ _ _ _ h
    · rcases keyIs_shape hv with ⟨j, u, rfl, rfl⟩ | ⟨y, u, rfl, rfl⟩
      · rw [key_rl] at h; exact SeqAt.EqAt.str_int x t j u _ _ _ _ h
      · rw [key_rr] at h; exact wpAny_eqBool_str h
  «strs» := fun k x t v h => by
    rcases keyIs_shape h with ⟨i, u, rfl, e⟩ | ⟨y, u, rfl, e⟩
    · exact nomatch e
    · injection e with e1 _
      subst e1
      cases v <;> rfl

theorem mixKind_int (prog : Program) (w : World) (i : Int) (t : Tok) : (mixKind prog w).is (.inl i) (.int i t) = true := keyIs_int i t
theorem mixKind_str (prog : Program) (w : World) (x : Str) (t : Tok) : (mixKind prog w).is (.inr x) (.str x t) = true := keyIs_str x t
end L2

namespace L2
open PySem PySem.Spec PyProof.Rows

/-- a value, without the heap -/
inductive V where
  | non | bl (b : Bool) | int (i : Int) | str (x : Str) | byt (b : Array UInt8) | flt (b : UInt64) | ref (a : Addr) | ty (n : String)
  deriving DecidableEq

def RelV : V → Value → Prop
  | .non, u => u = Value.none
  | .bl b, u => u = Value.bool b
  | .int i, u => ∃ t, u = Value.int i t
  | .str x, u => ∃ t, u = Value.str x t
  | .byt b, u => ∃ t, u = Value.bytes b t
  | .flt b, u => ∃ t, u = Value.float b t
  | .ref a, u => u = Value.ref a
  | .ty n, u => u = Value.type n

abbrev Vals : List V → List Value → Prop := Paired RelV
theorem Vals.length {xs : List V} {us : List Value} (r : Vals xs us) : xs.length = us.length := Paired.length r
theorem Vals.get : ∀ {xs : List V} {us : List Value} {i : Nat} {x : V}, Vals xs us → xs[i]? = some x → ∃ u, us[i]? = some u ∧ RelV x u
  | _, _, _, _, .nil, e => by simp at e
  | _, _, 0, _, .cons r _, e => by simp at e; subst e; exact ⟨_, rfl, r⟩
  | _, _, i + 1, x, .cons _ t, e => by
    obtain ⟨u, h1, h2⟩ := Vals.get (i := i) (x := x) t (by simpa using e)
    exact ⟨u, by simpa using h1, h2⟩
theorem Vals.set {x : V} {u : Value} (r : RelV x u) : ∀ {xs : List V} {us : List Value} (i : Nat), Vals xs us → Vals (xs.set i x) (us.set i u)
  | _, _, _, .nil => .nil
  | _, _, 0, .cons _ t => .cons r t
  | _, _, i + 1, .cons q t => .cons q (Vals.set r i t)
theorem Vals.append : ∀ {xs ys : List V} {us ws : List Value}, Vals xs us → Vals ys ws → Vals (xs ++ ys) (us ++ ws)
  | _, _, _, _, .nil, s => s
  | _, _, _, _, .cons r t, s => .cons r (Vals.append t s)
theorem Vals.take : ∀ {xs : List V} {us : List Value} (n : Nat), Vals xs us → Vals (xs.take n) (us.take n)
  | _, _, 0, _ => .nil
  | _, _, _ + 1, .nil => .nil
  | _, _, n + 1, .cons r t => .cons r (Vals.take n t)
theorem Vals.drop : ∀ {xs : List V} {us : List Value} (n : Nat), Vals xs us → Vals (xs.drop n) (us.drop n)
  | _, _, 0, r => r
  | _, _, _ + 1, .nil => .nil
  | _, _, n + 1, .cons _ t => Vals.drop n t
theorem Vals.none_of : ∀ {xs : List V} {us : List Value} {i : Nat}, Vals xs us → xs[i]? = none → us[i]? = none := fun {xs us i} r e => by
  have h1 := r.length
  have h2 : xs.length ≤ i := List.getElem?_eq_none_iff.mp e
  exact List.getElem?_eq_none_iff.mpr (by omega)

def RelO : Option V → Option Value → Prop
  | some v, some u => RelV v u
  | none, none => True
  | _, _ => False
def KV {κ : Type} : List (κ × V) → List (κ × Value) → Prop := Paired fun (p : κ × V) (q : κ × Value) => p.1 = q.1 ∧ RelV p.2 q.2

/-- a key of a dict (00_mix): an int or a text -/
def kV : Key → V
  | .inl i => .int i
  | .inr x => .str x

/-- what stands at a tracked address -/
inductive HO where
  /-- a list -/
  | lst (xs : List V)
  /-- a tuple (never changes) -/
  | tup (xs : List V)
  /-- a dict whose keys are ints and texts; one whose keys are tuples of ints and texts (the empty one is both) -/
  | dK (kvs : List (Key × V)) | dT (kvs : List (List Key × V))
  /-- a set of ints: its members, its size -/
  | set (S : Int → Bool) (n : Nat)
  /-- an instance of the class at C, its dict at dx, its attributes -/
  | ins (C dx : Addr) (fs : List (Str × V))
  /-- the dict of the instance at x -/
  | own (x : Addr)
  /-- the dict of an exception -/
  | xd (fs : List (Str × V))
  /-- a bound method, f of x -/
  | met (f x : Addr)
  /-- a range object lo, lo + 1, .. below hi -/
  | rng (lo hi : Int)
  /-- a thing that is known to the object (the script; a dict while a loop walks it): read, never written while it is so -/
  | frz (o : Obj) (u : HO)
  /-- a code object's table -/
  | tbl (ps : Array Value)
  /-- any other thing, by what is true of its one object (a def of one's own: SetO a S n := HO.ext fun h => ..) -/
  | ext (φ : Heap → Prop)
  /-- a code record of this name; it never changes -/
  | code (q : Str)
  /-- a code table whose records all bear this name -/
  | ctab (q : Str)

abbrev Hp := Addr → Option HO
def upd (H : Hp) (a : Addr) (o : HO) : Hp := fun b => if b = a then some o else H b
theorem upd_same {H : Hp} {a : Addr} {o : HO} : upd H a o a = some o := by unfold upd; rw [if_pos rfl]
theorem upd_ne {H : Hp} {a b : Addr} {o : HO} (h : b ≠ a) : upd H a o b = H b := by unfold upd; rw [if_neg h]
/-- two objects of different content stand apart -/
theorem ne_of {H : Hp} {a b : Addr} {o u : HO} (h : H a = some o) (h' : H b = some u) (d : o ≠ u) : a ≠ b := by
  intro e; subst e; rw [h] at h'; exact d (Option.some.inj h')
theorem ne_of_none {H : Hp} {a b : Addr} {o : HO} (h : H a = some o) (h' : H b = none) : a ≠ b := by
  intro e; subst e; rw [h] at h'; cases h'

section
variable (P : Program) (w : World)
def ObjOk (H : Hp) (h : Heap) (a : Addr) : HO → Prop
  | .lst xs => xs.length ≤ sizeLine ∧ ∃ (its : List Value) (n : Nat), Vals xs its ∧ h.get? a = some { cls := .type "list", data := .seq its.toArray n }
  | .tup xs => xs.length ≤ sizeLine ∧ ∃ its : List Value, Vals xs its ∧ IsTup h a its.toArray
  | .dK kvs => kvs.length ≤ sizeLine ∧ (a == sysModules) = false ∧ ∃ vs, KV kvs vs ∧ h.DictOf (mixKind P w) a vs
  | .dT kvs => kvs.length ≤ sizeLine ∧ (a == sysModules) = false ∧ ∃ xs : List (List Key × Addr × Value),
      Paired (fun (p : List Key × V) (q : List Key × Addr × Value) => p.1 = q.1 ∧ H q.2.1 = some (.tup (p.1.map kV)) ∧ RelV p.2 q.2.2) kvs xs ∧
      ∃ o es ep, h.get? a = some o ∧ o.ExactDict ∧ o.data = .dict es ep ∧ es.toList = xs.map (entryOfKey (tupleKind (mixKind P w))) ∧ (xs.map (·.1)).Nodup
  | .set S n => h.SetOf (intKind P w) a S n
  | .ins C dx fs => H dx = some (.own a) ∧ fs.length ≤ 1000 ∧ dx ≠ a ∧ h.get? a = some (PySem.W.instObj C dx) ∧
      ∃ mA, h.Ns1 dx mA ∧ (∀ f, RelO (fs.lookup f) (mA f)) ∧ PySem.Within mA (fs.map (·.1))
  | .own _ => ∃ o, h.get? a = some o
  | .xd fs => ∃ mA, h.Ns1 a mA ∧ ∀ f, RelO (fs.lookup f) (mA f)
  | .rng lo hi => ∃ t u v, h.get? a = some { cls := .type "range", data := .fields #[.int lo t, .int hi u, .int 1 v] }
  | .frz o u => h.get? a = some o ∧ ObjOk H h a u
  | .tbl ps => h.get? a = some { cls := .none, data := .fields ps }
  | .met f x => h.get? a = some (PySem.W.methodObj (.ref f) (.ref x))
  | .ext φ => φ h ∧ (∃ o, h.get? a = some o) ∧ ∀ h1 h2 : Heap, φ h1 → (∀ o, h1.get? a = some o → h2.get? a = some o) → φ h2
  | .code q => ∃ o vs t, h.get? a = some o ∧ o.data = .fields vs ∧ vs[1]? = some (.str q t)
  | .ctab q => ∃ ps : Array Value, h.get? a = some { cls := .none, data := .fields ps } ∧ TriplesOk ps.toList ∧ ∀ pos cv, codeAmong pos ps.toList = some cv → ∃ c, cv = .ref c ∧ H c = some (.code q)
/-- the abstract heap is held -/
def HOk (H : Hp) (h : Heap) : Prop := ∀ a o, H a = some o → ObjOk P w H h a o
end

section
variable {P : Program} {w : World} {H H' : Hp} {h h' : Heap} {a : Addr} {o : HO}
theorem ObjOk.lt (x : ObjOk P w H h a o) : a < h.objs.size := by
  cases o with
  | lst xs => obtain ⟨_, _, _, _, e⟩ := x; exact Heap.lt_size e
  | tup xs => obtain ⟨_, _, _, p⟩ := x; exact p.lt
  | dK kvs => obtain ⟨_, _, _, _, o, _, _, e, _⟩ := x; exact Heap.lt_size e
  | dT kvs => obtain ⟨_, _, _, _, o, _, _, e, _⟩ := x; exact Heap.lt_size e
  | set S n => obtain ⟨o, _, _, _, e, _⟩ := x; exact Heap.lt_size e
  | ins C dx fs => obtain ⟨_, _, _, e, _⟩ := x; exact Heap.lt_size e
  | own y => obtain ⟨_, e⟩ := x; exact Heap.lt_size e
  | xd fs => obtain ⟨_, ⟨_, _, _, e, _⟩, _⟩ := x; exact Heap.lt_size e
  | rng lo hi => obtain ⟨_, _, _, e⟩ := x; exact Heap.lt_size e
  | frz ob u => obtain ⟨e, _⟩ := x; exact Heap.lt_size e
  | tbl ps => exact Heap.lt_size (show h.get? a = some _ from x)
  | met f y => exact Heap.lt_size (show h.get? a = some _ from x)
  | ext φ => obtain ⟨_, ⟨_, e⟩, _⟩ := x; exact Heap.lt_size e
  | code q => obtain ⟨_, _, _, e, _⟩ := x; exact Heap.lt_size e
  | ctab q => obtain ⟨_, e, _⟩ := x; exact Heap.lt_size e
theorem Paired.mapP {α β : Type} {F G : α → β → Prop} : ∀ {l₁ : List α} {l₂ : List β}, Paired F l₁ l₂ → (∀ a b, F a b → G a b) → Paired G l₁ l₂
  | _, _, .nil, _ => .nil
  | _, _, .cons r t, f => .cons (f _ _ r) (Paired.mapP t f)
/-- what an object's description leans on: its own object, its own dict, the tuples, the code records -/
theorem ObjOk.stay (x : ObjOk P w H h a o) (k : ∀ b u, (b = a ∨ H b = some (.own a)) → h.get? b = some u → h'.get? b = some u)
    (ho : ∀ b, H b = some (.own a) → H' b = some (.own a)) (ht : ∀ b xs, H b = some (.tup xs) → H' b = some (.tup xs)) (hc : ∀ b q, H b = some (.code q) → H' b = some (.code q) := by first | exact fun _ _ z => z | (intro c q z; rw [upd_ne (ne_of_none z (by assumption))]; exact z)) : ObjOk P w H' h' a o := by
  induction o with
  | lst xs => obtain ⟨z, its, n, r, e⟩ := x; exact ⟨z, its, n, r, k _ _ (.inl rfl) e⟩
  | tup xs => obtain ⟨z, its, r, ob, e, c⟩ := x; exact ⟨z, its, r, ob, k _ _ (.inl rfl) e, c⟩
  | dK kvs => obtain ⟨z, y, vs, r, ob, es, ep, e, c⟩ := x; exact ⟨z, y, vs, r, ob, es, ep, k _ _ (.inl rfl) e, c⟩
  | dT kvs =>
    obtain ⟨z, y, xs, r, ob, es, ep, e, c⟩ := x
    exact ⟨z, y, xs, Paired.mapP r fun p q z => ⟨z.1, ht _ _ z.2.1, z.2.2⟩, ob, es, ep, k _ _ (.inl rfl) e, c⟩
  | set S n => obtain ⟨ob, es, ep, t, e, c⟩ := x; exact ⟨ob, es, ep, t, k _ _ (.inl rfl) e, c⟩
  | ins C dx fs =>
    obtain ⟨d, z, ne, e, mA, ⟨od, es, ep, e2, c⟩, r⟩ := x
    exact ⟨ho _ d, z, ne, k _ _ (.inl rfl) e, mA, ⟨od, es, ep, k _ _ (.inr d) e2, c⟩, r⟩
  | own y => obtain ⟨ob, e⟩ := x; exact ⟨ob, k _ _ (.inl rfl) e⟩
  | xd fs => obtain ⟨mA, ⟨od, es, ep, e, c⟩, r⟩ := x; exact ⟨mA, ⟨od, es, ep, k _ _ (.inl rfl) e, c⟩, r⟩
  | rng lo hi => obtain ⟨t, u, v, e⟩ := x; exact ⟨t, u, v, k _ _ (.inl rfl) e⟩
  | frz ob u ih => obtain ⟨e, q⟩ := x; exact ⟨k _ _ (.inl rfl) e, ih q⟩
  | tbl ps =>
    have e : h.get? a = some { cls := .none, data := .fields ps } := x
    show h'.get? a = some { cls := .none, data := .fields ps }
    exact k a _ (.inl rfl) e
  | met f y =>
    have e : h.get? a = some (PySem.W.methodObj (.ref f) (.ref y)) := x
    show h'.get? a = some (PySem.W.methodObj (.ref f) (.ref y))
    exact k a _ (.inl rfl) e
  | ext φ => obtain ⟨p, ⟨o, e⟩, st⟩ := x; exact ⟨st _ _ p fun o q => k _ _ (.inl rfl) q, ⟨o, k _ _ (.inl rfl) e⟩, st⟩
  | code q => obtain ⟨ob, vs, t, e, z⟩ := x; exact ⟨ob, vs, t, k _ _ (.inl rfl) e, z⟩
  | ctab q => obtain ⟨ps, e, tr, z⟩ := x; exact ⟨ps, k _ _ (.inl rfl) e, tr, fun p cv hp => let ⟨c', e1, e2⟩ := z p cv hp; ⟨c', e1, hc _ _ e2⟩⟩
theorem HOk.lt (x : HOk P w H h) (e : H a = some o) : a < h.objs.size := (x a o e).lt
theorem HOk.fresh (x : HOk P w H h) (e : h.objs.size ≤ a) : H a = none := by
  cases q : H a with
  | none => rfl
  | some u => exact absurd (Nat.lt_of_lt_of_le (x.lt q) e) (Nat.lt_irrefl _)
/-- every object of the heap is kept -/
theorem HOk.kept (x : HOk P w H h) (k : ∀ b u, h.get? b = some u → h'.get? b = some u) : HOk P w H h' := fun a o e =>
  (x a o e).stay (fun b u _ q => k b u q) (fun _ q => q) fun _ _ q => q
/-- a new object is laid and tracked -/
theorem HOk.laid (x : HOk P w H h) (k : ∀ b u, h.get? b = some u → h'.get? b = some u) (hp : h.objs.size ≤ a) (new : ObjOk P w (upd H a o) h' a o) : HOk P w (upd H a o) h' := fun b u e => by
  have hn := x.fresh hp
  by_cases hb : b = a
  · subst hb; rw [upd_same] at e; cases e; exact new
  · rw [upd_ne hb] at e
    exact (x b u e).stay (fun c v _ q => k c v q) (fun c q => by rw [upd_ne (ne_of_none q hn)]; exact q) fun c xs q => by rw [upd_ne (ne_of_none q hn)]; exact q
end

/-- what may be read as u: it is u, or a known u -/
def Rd (H : Hp) (a : Addr) (u : HO) : Prop := H a = some u ∨ ∃ o, H a = some (.frz o u)
theorem Rd.of {H : Hp} {a : Addr} {u : HO} (h : H a = some u) : Rd H a u := .inl h
theorem Rd.ok {P : Program} {w : World} {H : Hp} {h : Heap} {a : Addr} {u : HO} (r : Rd H a u) (x : HOk P w H h) : ObjOk P w H h a u := by
  rcases r with r | ⟨o, r⟩
  · exact x a u r
  · obtain ⟨_, q⟩ := x a _ r
    exact q
/-- what may be written -/
def Mut : Option HO → Prop
  | some (.lst _) => True
  | some (.dK _) => True
  | some (.dT _) => True
  | some (.set _ _) => True
  | some (.ins _ _ _) => True
  | some (.ext _) => True
  | some (.ctab _) => True
  | _ => False
section
variable {P : Program} {w : World} {H : Hp} {h h' : Heap} {x e : Addr} {o' : HO}
/-- the object at e is changed: x itself, or the dict of the instance x -/
theorem HOk.write (ok : HOk P w H h) (mu : Mut (H x)) (he : e = x ∨ H e = some (.own x)) (k : ∀ b u, b ≠ e → h.get? b = some u → h'.get? b = some u) (heo : ∃ u, h'.get? e = some u)
    (new : ObjOk P w (upd H x o') h' x o') : HOk P w (upd H x o') h' := fun b u q => by
  have nown : ∀ c y, H c = some (.own y) → c ≠ x := fun c y r z => by subst z; rw [r] at mu; exact mu
  have ntup : ∀ c xs, H c = some (.tup xs) → c ≠ x := fun c xs r z => by subst z; rw [r] at mu; exact mu
  by_cases hb : b = x
  · subst hb; rw [upd_same] at q; cases q; exact new
  · rw [upd_ne hb] at q
    by_cases hbe : b = e
    · have q' : H b = some (.own x) := by
        rcases he with z | z
        · exact absurd (hbe.trans z) hb
        · rw [hbe]; exact z
      rw [q] at q'; cases q'
      obtain ⟨v, hv⟩ := heo
      exact ⟨v, by rw [hbe]; exact hv⟩
    · refine (ok b u q).stay (fun c v hc r => k c v ?_ r) (fun c r => by rw [upd_ne (nown c b r)]; exact r) (fun c xs r => by rw [upd_ne (ntup c xs r)]; exact r) (fun c q0 r => by rw [upd_ne (fun z => by subst z; rw [r] at mu; exact mu)]; exact r)
      rcases hc with rfl | hc
      · exact hbe
      · rintro rfl
        rcases he with z | z
        · exact nown c b hc z
        · rw [hc] at z; cases z; exact hb rfl
end

/-! ### kept unless tracked; of the frames at fs (the callers') the slots may change (an exception that passes writes there); of the records at ex (iterators) nothing is said -/
structure Un (fs ex : List Addr) (H H' : Hp) (h h' : Heap) : Prop where
  keep : ∀ b o, h.get? b = some o → H b = none → b ∉ fs → b ∉ ex → h'.get? b = some o
  slot : ∀ b o, h.get? b = some o → H b = none → b ∈ fs → b ∉ ex → ∃ sl, h'.get? b = some { o with slots := sl }
  free : ∀ b o, h.get? b = some o → H b = none → b ∉ ex → H' b = none
  there : ∀ b o, h.get? b = some o → b ∉ ex → ∃ o', h'.get? b = some o'
  tups : ∀ b xs, H b = some (.tup xs) → H' b = some (.tup xs)
  frzs : ∀ b o u, H b = some (.frz o u) → H' b = some (.frz o u)
  tbls : ∀ b ps, H b = some (.tbl ps) → ∃ more, H' b = some (.tbl (ps ++ more))
section
variable {fs fs' ex ex' : List Addr} {H H1 H2 : Hp} {h h1 h2 h' : Heap} {a x e : Addr} {o : HO}
theorem Un.any (u : Un fs ex H H1 h h1) {b : Addr} {ob : Obj} (q : h.get? b = some ob) (n : H b = none) (hx : b ∉ ex) : ∃ sl, h1.get? b = some { ob with slots := sl } := by
  by_cases hb : b ∈ fs
  · exact u.slot b ob q n hb hx
  · exact ⟨ob.slots, u.keep b ob q n hb hx⟩
theorem Un.trans (a : Un fs ex H H1 h h1) (b : Un fs ex H1 H2 h1 h2) : Un fs ex H H2 h h2 where
  keep := fun c ob q n hc hx => b.keep c ob (a.keep c ob q n hc hx) (a.free c ob q n hx) hc hx
  slot := fun c ob q n hc hx => by
    obtain ⟨sl, e1⟩ := a.slot c ob q n hc hx
    obtain ⟨sl', e2⟩ := b.slot c _ e1 (a.free c ob q n hx) hc hx
    exact ⟨sl', e2⟩
  free := fun c ob q n hx => by
    obtain ⟨o', e1⟩ := a.there c ob q hx
    exact b.free c o' e1 (a.free c ob q n hx) hx
  there := fun c ob q hx => by
    obtain ⟨o', e1⟩ := a.there c ob q hx
    exact b.there c o' e1 hx
  tups := fun c xs q => b.tups c xs (a.tups c xs q)
  frzs := fun c ob xs q => b.frzs c ob xs (a.frzs c ob xs q)
  tbls := fun c ps q => by
    obtain ⟨m1, e1⟩ := a.tbls c ps q
    obtain ⟨m2, e2⟩ := b.tbls c _ e1
    exact ⟨m1 ++ m2, by rw [e2, Array.append_assoc]⟩
theorem Un.kept (k : ∀ b u, h.get? b = some u → h'.get? b = some u) : Un fs ex H H h h' :=
  ⟨fun b ob q _ _ _ => k b ob q, fun b ob q _ _ _ => ⟨ob.slots, k b ob q⟩, fun _ _ _ n _ => n, fun b ob q _ => ⟨ob, k b ob q⟩, fun _ _ q => q, fun _ _ _ q => q, fun _ ps q => ⟨#[], by rw [q]; simp⟩⟩
theorem Un.refl : Un fs ex H H h h := Un.kept fun _ _ q => q
theorem Un.laid (k : ∀ b u, h.get? b = some u → h'.get? b = some u) (hp : h.objs.size ≤ a) (hn : H a = none) : Un fs ex H (upd H a o) h h' where
  keep := fun b u q _ _ _ => k b u q
  slot := fun b u q _ _ _ => ⟨u.slots, k b u q⟩
  free := fun b u q n _ => by rw [upd_ne (Nat.ne_of_lt (Nat.lt_of_lt_of_le (Heap.lt_size q) hp))]; exact n
  there := fun b u q _ => ⟨u, k b u q⟩
  tups := fun b xs q => by rw [upd_ne (ne_of_none q hn)]; exact q
  frzs := fun b u xs q => by rw [upd_ne (ne_of_none q hn)]; exact q
  tbls := fun b ps q => ⟨#[], by rw [upd_ne (ne_of_none q hn), q]; simp⟩
theorem Un.write (mu : Mut (H x)) (he : e = x ∨ H e = some (.own x)) (k : ∀ b u, b ≠ e → h.get? b = some u → h'.get? b = some u) (heo : ∃ u, h'.get? e = some u) : Un fs ex H (upd H x o) h h' := by
  have hx : ∀ b, H b = none → b ≠ x := fun b n z => by subst z; rw [n] at mu; exact mu
  have hb : ∀ b, H b = none → b ≠ e := fun b n z => by
    subst z
    rcases he with r | r
    · exact hx b n r
    · rw [n] at r; cases r
  have hm : ∀ b u, H b = some u → ¬ Mut (some u) → b ≠ x := fun b u q nm z => by subst z; rw [q] at mu; exact nm mu
  refine ⟨fun b u q n _ _ => k b u (hb b n) q, fun b u q n _ _ => ⟨u.slots, k b u (hb b n) q⟩, fun b u q n _ => by rw [upd_ne (hx b n)]; exact n, fun b u q _ => ?_,
    fun b xs q => by rw [upd_ne (hm b _ q fun z => z)]; exact q, fun b u xs q => by rw [upd_ne (hm b _ q fun z => z)]; exact q, fun b ps q => ⟨#[], by rw [upd_ne (hm b _ q fun z => z), q]; simp⟩⟩
  by_cases hbe : b = e
  · subst hbe; exact heo
  · exact ⟨u, k b u hbe q⟩
theorem Un.mono (u : Un fs ex H H1 h h1) (hs : ∀ b ∈ fs, b ∈ fs') (hx : ∀ b ∈ ex, b ∈ ex') : Un fs' ex' H H1 h h1 :=
  ⟨fun b ob q n hb he => u.keep b ob q n (fun z => hb (hs b z)) fun z => he (hx b z), fun _ _ q n _ he => u.any q n fun z => he (hx _ z), fun b ob q n he => u.free b ob q n fun z => he (hx b z), fun b ob q he => u.there b ob q fun z => he (hx b z), u.tups, u.frzs, u.tbls⟩
end

/-! ### the heap without what is tracked -/
def trk (h : Heap) (H : Hp) : List Addr := (List.range h.objs.size).filter fun a => (H a).isSome
def hidT (h : Heap) (H : Hp) : Heap := PySem.W.hideAll h (trk h H)
theorem hidT_size (h : Heap) (H : Hp) : (hidT h H).objs.size = h.objs.size := PySem.W.hideAll_size _ _
theorem hidT_get {h : Heap} {H : Hp} {b : Addr} {o : Obj} (e : h.get? b = some o) (n : H b = none) : (hidT h H).get? b = some o :=
  PySem.W.hideAll_get _ e fun hm => by
    have q : (H b).isSome = true := (List.mem_filter.mp hm).2
    rw [n] at q; simp at q
theorem of_hidT {h : Heap} {H : Hp} {b : Addr} {o : Obj} (e : (hidT h H).get? b = some o) : h.get? b = some o ∧ H b = none := by
  have e' : h.get? b = some o := PySem.W.of_hideAll (trk h H) e
  refine ⟨e', ?_⟩
  cases q : H b with
  | none => rfl
  | some x =>
    have hm : b ∈ trk h H := List.mem_filter.mpr ⟨List.mem_range.mpr (Heap.lt_size e'), by simp [q]⟩
    have z : (hidT h H).get? b = none := PySem.W.hideAll_none (trk h H) hm
    rw [z] at e; cases e

/-! ### OpenK's ledger, filled with every new object but one -/
def allNews (g h : Heap) (L : Addr) : List (Addr × Obj) := (List.range h.objs.size).filterMap fun a => if a = L ∨ (g.get? a).isSome = true then none else (h.get? a).map fun o => (a, o)
def rest (g h : Heap) (L d : Addr) : List (Addr × Obj) := (allNews g h L).filter fun p => decide (p.1 ≠ d)
end L2

namespace L2
open PySem PySem.Spec PyProof.Rows

/-- the module's facts, over the base: the heap at the law's entry without what is tracked there -/
structure Mod (K : PySem.W.Frag) (mg : Str → Option Value) (base : Heap) : Prop where
  kin : K.In base
  glob : base.Ns mainGlobals mg
  blt : ∃ mb, base.Ns builtinsNs mb ∧ ∀ x : Str, x ≠ "__name__" → mb x = bootBuiltins x
  nolimit : base.NoLimit
  bm : ∃ bm ob, mg "__builtins__" = some (.ref bm) ∧ bm ≠ builtinsNs ∧ base.get? bm = some ob ∧ ob.cls = .type "module" ∧ ob.dict = some builtinsNs ∧ ob.data = .plain

/-- the context: a def's body (or a comprehension's block) running. base: fixed through the whole law; s₀, H₀: the entry; outer: the frames whose slots others may change (a def's callers); stack: all frames that run;
   ex: iterators that were made ahead of the entry and are walked here (a comprehension's); fn: the names whose cells were made at the entry (a def: all; a comprehension's block: its own); calm: not within an except suite; pn: pins that every state bears; xe: what is wanted of an exception that leaves the code -/
structure Cx where
  prog : Program
  w : World
  K : PySem.W.Frag
  mg : Str → Option Value
  base : Heap
  A : Around
  N : List Str
  s_0 : Shared
  H_0 : Hp
  env : Env
  outer : List Env
  stack : List Env
  ex : List Addr
  fn : Str → Bool
  calm : Bool
  pn : List (Addr × Obj)
  xe : Value → Shared → Prop
/-- the callers' frames -/
def frs (l : List Env) : List Addr := l.filterMap (·.frame)
abbrev Cx.fs (X : Cx) : List Addr := frs X.outer

def Vis (sc : Scope) (x : Str) : Prop := sc.names.lookup x = some .local ∨ sc.names.lookup x = some .cell ∨ sc.names.lookup x = some .free
def Loc (sc : Scope) (x : Str) : Prop := sc.names.lookup x = some .local ∨ sc.names.lookup x = some .cell
def Look (env : Env) (h : Heap) (m : Str → Option Value) (x : Str) (u : Value) : Prop :=
  (env.kindOf x = some .local ∧ m x = some u) ∨ ((env.kindOf x = some .cell ∨ env.kindOf x = some .free) ∧ ∃ c, env.cells.lookup x = some c ∧ h.IsCell c (some u))

structure Cx.Ok (X : Cx) : Prop where
  mod : Mod X.K X.mg X.base
  kind : X.env.scope.kind = .function
  glob : X.env.globals = mainGlobals
  blt : X.env.builtins = builtinsNs
  above : X.s_0.heap.objs.size ≤ X.env.locals
  inj : ∀ x y c, X.env.cells.lookup x = some c → X.env.cells.lookup y = some c → x = y
  has : ∀ x, (X.env.kindOf x = some .cell ∨ X.env.kindOf x = some .free) → ∃ c, X.env.cells.lookup x = some c
  cab : ∀ x c, X.fn x = true → X.env.cells.lookup x = some c → X.s_0.heap.objs.size ≤ c
  hd : X.calm = true → X.A.handled = none
  frames : X.A.frames = some X.stack
  stk : X.stack = X.outer ∨ (X.stack = X.env :: X.outer ∧ X.env.frame = some X.env.locals)
  exf : ∀ b ∈ X.ex, b ≠ X.env.locals ∧ ∀ x c, X.env.cells.lookup x = some c → c ≠ b
  bs : ∀ b o, X.base.get? b = some o → X.s_0.heap.get? b = some o ∧ X.H_0 b = none
  bsz : X.base.objs.size ≤ X.s_0.heap.objs.size
  noex : ∀ b o, X.base.get? b = some o → b ∉ X.ex
  exfs : ∀ b ∈ X.ex, b ∉ X.fs
  funs : X.s_0.heap.FunFrames X.base X.outer
  frf : ∀ b ∈ X.fs, X.H_0 b = none

/-- no generator holds a cleanup, and none is dropped -/
structure GensOk (a b : Array GenState) : Prop where
  bare : AllBare b
  size : a.size ≤ b.size
theorem GensOk.self {a b : Array GenState} (x : GensOk a b) : GensOk b b := ⟨x.bare, Nat.le_refl _⟩
theorem GensOk.trans {a b c : Array GenState} (x : GensOk a b) (y : GensOk b c) : GensOk a c := ⟨y.bare, Nat.le_trans x.size y.size⟩
structure Inv (X : Cx) (pins : List (Addr × Obj)) (σ : List (Option V)) (H : Hp) (s : Shared) : Prop where
  ok : X.Ok
  os : s.os = X.s_0.os
  bare : GensOk X.s_0.gens s.gens
  base : Un X.fs X.ex X.H_0 H X.s_0.heap s.heap
  loc : ∃ m, s.heap.Ns X.env.locals m ∧ ∀ (i : Nat) (x : Str) (v : V), X.N[i]? = some x → σ[i]? = some (some v) → Vis X.env.scope x → ∃ u, RelV v u ∧ Look X.env s.heap m x u
  cell : ∀ x c, X.env.cells.lookup x = some c → ∃ v, s.heap.IsCell c v
  free : H X.env.locals = none
  freeC : ∀ x c, X.env.cells.lookup x = some c → H c = none
  pin : ∀ p ∈ X.pn ++ pins, s.heap.get? p.1 = some p.2 ∧ H p.1 = none ∧ p.1 ≠ X.env.locals ∧ p.1 ∉ X.fs ∧ ∀ v, p.2.data ≠ .cell v
  hok : HOk X.prog X.w H s.heap
  len : σ.length = X.N.length

section
variable {X : Cx} {pins : List (Addr × Obj)} {σ : List (Option V)} {H H' : Hp} {s : Shared} {h' : Heap}

theorem Cx.Ok.nofr (ok : X.Ok) {b : Addr} {o : Obj} (e : X.base.get? b = some o) : b ∉ X.fs := fun hb => by
  have := (ok.funs.mem hb).1
  rw [e] at this; cases this
theorem Inv.bs (I : Inv X pins σ H s) : ∀ b o, X.base.get? b = some o → s.heap.get? b = some o ∧ H b = none := fun b o e =>
  ⟨I.base.keep b o (I.ok.bs b o e).1 (I.ok.bs b o e).2 (I.ok.nofr e) (I.ok.noex b o e), I.base.free b o (I.ok.bs b o e).1 (I.ok.bs b o e).2 (I.ok.noex b o e)⟩
theorem Inv.bk (I : Inv X pins σ H s) : ∀ b o, X.base.get? b = some o → s.heap.get? b = some o := fun b o e => (I.bs b o e).1
theorem Inv.mod (I : Inv X pins σ H s) : Mod X.K X.mg X.base := I.ok.mod
theorem Inv.kIn (I : Inv X pins σ H s) : X.K.In s.heap := I.ok.mod.kin.keeps I.bk
theorem Inv.nolimit (I : Inv X pins σ H s) : s.heap.NoLimit := I.ok.mod.nolimit.keeps I.bk
/-- the frame over the base: for OpenK's rules (K.In X.base is I.mod.kin) -/
theorem Inv.fr (I : Inv X pins σ H s) : ∃ m, Fr X.base X.env.locals s.heap m :=
  let ⟨m, hn, _⟩ := I.loc
  ⟨m, hn, I.bk, Nat.le_trans I.ok.bsz I.ok.above⟩
theorem Inv.lt (I : Inv X pins σ H s) : X.env.locals < s.heap.objs.size := let ⟨_, hn, _⟩ := I.loc; hn.lt
theorem Inv.sz (I : Inv X pins σ H s) : X.s_0.heap.objs.size ≤ s.heap.objs.size := Nat.le_trans I.ok.above (Nat.le_of_lt I.lt)
theorem Inv.nofs (I : Inv X pins σ H s) {a : Addr} (h : s.heap.objs.size ≤ a) : a ∉ X.fs := fun hb => by
  obtain ⟨_, o, ho, _⟩ := I.ok.funs.mem hb
  exact absurd (Nat.lt_of_lt_of_le (Heap.lt_size ho) (Nat.le_trans I.sz h)) (Nat.lt_irrefl _)
theorem Inv.cne (I : Inv X pins σ H s) : ∀ x c, X.env.cells.lookup x = some c → c ≠ X.env.locals := fun x c e z => by
  obtain ⟨v, o, ho, hd⟩ := I.cell x c e
  obtain ⟨m, ⟨o', es, ep, ho', hd', _⟩, _⟩ := I.loc
  rw [z, ho'] at ho; cases ho; rw [hd'] at hd; cases hd
theorem Inv.funs (I : Inv X pins σ H s) : s.heap.FunFrames X.base X.outer := by
  have all : ∀ (l : List Env), (∀ b ∈ frs l, b ∈ X.fs) → X.s_0.heap.FunFrames X.base l → s.heap.FunFrames X.base l := by
    intro l
    induction l with
    | nil => intro _ _; trivial
    | cons env r ih =>
      intro hs hl
      obtain ⟨hk, ⟨L, o, hf, hn, ho, hd⟩, hr⟩ := hl
      have hL : L ∈ X.fs := hs L (by unfold frs; rw [List.filterMap_cons, hf]; exact List.mem_cons_self)
      obtain ⟨sl, e⟩ := I.base.slot L o ho (I.ok.frf L hL) hL fun z => I.ok.exfs L z hL
      exact ⟨hk, ⟨L, _, hf, hn, e, hd⟩, ih (fun b hb => hs b (by unfold frs; rw [List.filterMap_cons, hf]; exact List.mem_cons_of_mem _ hb)) hr⟩
  exact all X.outer (fun _ hb => hb) I.ok.funs

/-- the frames that run, for a call -/
theorem Inv.stack (I : Inv X pins σ H s) : s.heap.FunFrames X.base X.stack := by
  rcases I.ok.stk with e | ⟨e, hf⟩
  · rw [e]; exact I.funs
  · rw [e]
    obtain ⟨m, hn, _⟩ := I.loc
    refine .cons (by rw [I.ok.kind]; decide) hf hn ?_ I.funs
    exact Heap.get?_none_of_le (Nat.le_trans I.ok.bsz I.ok.above)
theorem Inv.stkSub (I : Inv X pins σ H s) : ∀ b ∈ frs X.stack, b ∈ X.env.locals :: X.fs := fun b hb => by
  rcases I.ok.stk with e | ⟨e, hf⟩
  · rw [e] at hb; exact List.mem_cons_of_mem _ hb
  · rw [e] at hb
    unfold frs at hb
    rw [List.filterMap_cons, hf] at hb
    exact hb
theorem Inv.stkFree (I : Inv X pins σ H s) : ∀ b ∈ frs X.stack, H b = none := fun b hb => by
  rcases List.mem_cons.mp (I.stkSub b hb) with e | hb
  · rw [e]; exact I.free
  · obtain ⟨_, o, ho, _⟩ := I.ok.funs.mem hb
    exact I.base.free b o ho (I.ok.frf b hb) fun z => I.ok.exfs b z hb

/-- THE STEP: the untracked objects but the frame and the records at ch are kept (the callers' frames up to slots), the frame's map is kept, the new abstract heap is held -/
theorem Inv.step {g' : Array GenState} {t' : Nat} {d' : Drawn} {ch : List Addr} (I : Inv X pins σ H s)
    (hch : ∀ b ∈ ch, (b ∈ X.ex ∨ X.s_0.heap.objs.size ≤ b) ∧ b ≠ X.env.locals ∧ (∀ x c, X.env.cells.lookup x = some c → c ≠ b) ∧ ∀ p ∈ X.pn ++ pins, p.1 ≠ b)
    (keep : ∀ b o, b ≠ X.env.locals → b ∉ X.fs → b ∉ ch → s.heap.get? b = some o → H b = none → h'.get? b = some o)
    (slot : ∀ b o, b ≠ X.env.locals → b ∈ X.fs → b ∉ ch → s.heap.get? b = some o → H b = none → ∃ sl, h'.get? b = some { o with slots := sl }) (free : ∀ b o, b ∉ ch → s.heap.get? b = some o → H b = none → H' b = none)
    (there : ∀ b o, b ∉ ch → s.heap.get? b = some o → ∃ o', h'.get? b = some o')
    (tups : ∀ b xs, H b = some (.tup xs) → H' b = some (.tup xs)) (frzs : ∀ b o u, H b = some (.frz o u) → H' b = some (.frz o u)) (tbls : ∀ b ps, H b = some (.tbl ps) → ∃ more, H' b = some (.tbl (ps ++ more)))
    (ns : ∀ m, s.heap.Ns X.env.locals m → h'.Ns X.env.locals m) (hok : HOk X.prog X.w H' h') (hg : GensOk s.gens g') :
    Inv X pins σ H' { s with heap := h', gens := g', drawn := d', toks := t' } := by
  have neL : ∀ b o, X.s_0.heap.get? b = some o → b ≠ X.env.locals := fun b o e => Nat.ne_of_lt (Nat.lt_of_lt_of_le (Heap.lt_size e) I.ok.above)
  have neC : ∀ b o, X.s_0.heap.get? b = some o → b ∉ X.ex → b ∉ ch := fun b o e hx hb => by
    rcases (hch b hb).1 with z | z
    · exact hx z
    · exact absurd (Nat.lt_of_lt_of_le (Heap.lt_size e) z) (Nat.lt_irrefl _)
  have cellK : ∀ x c, X.env.cells.lookup x = some c → ∀ v, s.heap.IsCell c v → h'.IsCell c v := fun x c e v ⟨o, ho, hd⟩ => by
    have nch : c ∉ ch := fun z => (hch c z).2.2.1 x c e rfl
    by_cases hc : c ∈ X.fs
    · obtain ⟨sl, q⟩ := slot c o (I.cne x c e) hc nch ho (I.freeC x c e)
      exact ⟨_, q, hd⟩
    · exact ⟨o, keep c o (I.cne x c e) hc nch ho (I.freeC x c e), hd⟩
  refine ⟨I.ok, I.os, I.bare.trans hg, ⟨fun b o e n hb hx => ?_, fun b o e n hb hx => ?_, fun b o e n hx => ?_, fun b o e hx => ?_, fun b xs e => tups b xs (I.base.tups b xs e), fun b o xs e => frzs b o xs (I.base.frzs b o xs e), fun b ps e => ?_⟩, ?_, fun x c e => ?_, ?_, fun x c e => ?_, fun p hp => ?_, hok, I.len⟩
  · exact keep b o (neL b o e) hb (neC b o e hx) (I.base.keep b o e n hb hx) (I.base.free b o e n hx)
  · obtain ⟨sl, e1⟩ := I.base.slot b o e n hb hx
    obtain ⟨sl', e2⟩ := slot b _ (neL b o e) hb (neC b o e hx) e1 (I.base.free b o e n hx)
    exact ⟨sl', e2⟩
  · obtain ⟨o', e1⟩ := I.base.there b o e hx
    exact free b o' (neC b o e hx) e1 (I.base.free b o e n hx)
  · obtain ⟨o', e1⟩ := I.base.there b o e hx
    exact there b o' (neC b o e hx) e1
  · obtain ⟨m1, e1⟩ := I.base.tbls b ps e
    obtain ⟨m2, e2⟩ := tbls b _ e1
    exact ⟨m1 ++ m2, by rw [e2, Array.append_assoc]⟩
  · obtain ⟨m, hn, hl⟩ := I.loc
    refine ⟨m, ns m hn, fun i x v e1 e2 e3 => ?_⟩
    obtain ⟨u, r, l⟩ := hl i x v e1 e2 e3
    refine ⟨u, r, ?_⟩
    rcases l with l | ⟨k, c, e, z⟩
    · exact .inl l
    · exact .inr ⟨k, c, e, cellK x c e _ z⟩
  · obtain ⟨v, z⟩ := I.cell x c e
    exact ⟨v, cellK x c e v z⟩
  · obtain ⟨m, ⟨o, _, _, ho, _⟩, _⟩ := I.loc
    exact free _ o (fun z => (hch _ z).2.1 rfl) ho I.free
  · obtain ⟨v, o, ho, hd⟩ := I.cell x c e
    exact free c o (fun z => (hch c z).2.2.1 x c e rfl) ho (I.freeC x c e)
  · obtain ⟨e, n, ne, nf, d⟩ := I.pin p hp
    have nch : p.1 ∉ ch := fun z => (hch p.1 z).2.2.2 p hp rfl
    exact ⟨keep p.1 p.2 ne nf nch e n, free p.1 p.2 nch e n, ne, nf, d⟩
/-- .. where the frame's own object is kept too -/
theorem Inv.un {t' : Nat} (I : Inv X pins σ H s) (u : Un X.fs [] H H' s.heap h') (hok : HOk X.prog X.w H' h') : Inv X pins σ H' { s with heap := h', toks := t' } := by
  obtain ⟨m, ⟨o, es, ep, ho, r⟩, _⟩ := id I.loc
  obtain ⟨sl, hL⟩ := u.any ho I.free (by simp)
  exact I.step (g' := s.gens) (d' := s.drawn) (ch := []) (fun _ z => nomatch z) (fun b o _ hb _ e n => u.keep b o e n hb (by simp)) (fun b o _ hb _ e n => u.slot b o e n hb (by simp)) (fun b o _ e n => u.free b o e n (by simp)) (fun b o _ e => u.there b o e (by simp)) u.tups u.frzs u.tbls (fun m' hm => by
    obtain ⟨o', es', ep', ho', r'⟩ := hm
    rw [ho] at ho'; cases ho'
    exact ⟨_, es', ep', hL, r'⟩) hok I.bare.self
/-- behind a call (or a comprehension's block): the slots of this frame may have changed too, the records at ch may have turned -/
theorem Inv.call {g' : Array GenState} {t' : Nat} {d' : Drawn} {ch : List Addr} (I : Inv X pins σ H s) (u : Un (frs X.stack) ch H H' s.heap h') (hok : HOk X.prog X.w H' h') (hg : GensOk s.gens g')
    (hch : ∀ b ∈ ch, (b ∈ X.ex ∨ X.s_0.heap.objs.size ≤ b) ∧ b ≠ X.env.locals ∧ (∀ x c, X.env.cells.lookup x = some c → c ≠ b) ∧ ∀ p ∈ X.pn ++ pins, p.1 ≠ b) :
    Inv X pins σ H' { s with heap := h', gens := g', drawn := d', toks := t' } := by
  obtain ⟨m, ⟨o, es, ep, ho, r⟩, _⟩ := id I.loc
  obtain ⟨sl, hL⟩ := u.any ho I.free fun z => (hch _ z).2.1 rfl
  exact I.step (ch := ch) hch (fun b o hL hb hc e n => u.keep b o e n (fun z => (List.mem_cons.mp (I.stkSub b z)).elim hL hb) hc) (fun b o _ _ hc e n => u.any e n hc) (fun b o hc e n => u.free b o e n hc) (fun b o hc e => u.there b o e hc) u.tups u.frzs u.tbls (fun m' hm => by
    obtain ⟨o', es', ep', ho', r'⟩ := hm
    rw [ho] at ho'; cases ho'
    exact ⟨_, es', ep', hL, r'⟩) hok hg
/-- an untracked record of ours (an iterator) has turned -/
theorem Inv.turned {t' : Nat} {it : Addr} (I : Inv X pins σ H s) (k : ∀ b o, b ≠ it → s.heap.get? b = some o → h'.get? b = some o) (hn : H it = none) (hL : it ≠ X.env.locals)
    (h1 : it ∈ X.ex ∨ X.s_0.heap.objs.size ≤ it) (h2 : ∀ x c, X.env.cells.lookup x = some c → c ≠ it) (h3 : ∀ p ∈ X.pn ++ pins, p.1 ≠ it) : Inv X pins σ H { s with heap := h', toks := t' } := by
  have nit : ∀ b u, H b = some u → b ≠ it := fun b u e z => by rw [z, hn] at e; cases e
  refine I.step (g' := s.gens) (d' := s.drawn) (ch := [it]) (fun b hb => ?_) (fun b o _ _ hc e _ => k b o (fun z => hc (by simp [z])) e) (fun b o _ _ hc e _ => ⟨o.slots, k b o (fun z => hc (by simp [z])) e⟩) (fun _ _ _ _ n => n)
    (fun b o hc e => ⟨o, k b o (fun z => hc (by simp [z])) e⟩) (fun _ _ e => e) (fun _ _ _ e => e) (fun b ps e => ⟨#[], by rw [e]; simp⟩) (fun m hm => ?_) (fun b u e => ?_) I.bare.self
  · have e : b = it := by simpa using hb
    subst e
    exact ⟨h1, hL, h2, h3⟩
  · obtain ⟨o, es, ep, ho, r⟩ := hm
    exact ⟨o, es, ep, k _ o (Ne.symm hL) ho, r⟩
  · refine (I.hok b u e).stay (fun c v hc q => k c v ?_ q) (fun _ q => q) fun _ _ q => q
    rcases hc with z | z
    · rw [z]; exact nit b u e
    · exact nit c _ z
theorem Inv.tok (I : Inv X pins σ H s) (t : Nat) : Inv X pins σ H { s with toks := t } := I.un (h' := s.heap) (t' := t) Un.refl I.hok
/-- all objects kept -/
theorem Inv.kept {t' : Nat} (I : Inv X pins σ H s) (k : ∀ b u, s.heap.get? b = some u → h'.get? b = some u) : Inv X pins σ H { s with heap := h', toks := t' } := I.un (Un.kept k) (I.hok.kept k)
/-- a new object laid and tracked -/
theorem Inv.laid {a : Addr} {o : HO} {t' : Nat} (I : Inv X pins σ H s) (k : ∀ b u, s.heap.get? b = some u → h'.get? b = some u) (hp : s.heap.objs.size ≤ a) (new : ObjOk X.prog X.w (upd H a o) h' a o) :
    Inv X pins σ (upd H a o) { s with heap := h', toks := t' } := I.un (Un.laid k hp (I.hok.fresh hp)) (I.hok.laid k hp new)
/-- an object written -/
theorem Inv.write {x e : Addr} {o : HO} {t' : Nat} (I : Inv X pins σ H s) (mu : Mut (H x)) (he : e = x ∨ H e = some (.own x)) (k : ∀ b u, b ≠ e → s.heap.get? b = some u → h'.get? b = some u) (heo : ∃ u, h'.get? e = some u)
    (new : ObjOk X.prog X.w (upd H x o) h' x o) : Inv X pins σ (upd H x o) { s with heap := h', toks := t' } := I.un (Un.write mu he k heo) (I.hok.write mu he k heo new)
/-- forgetting slots, pins -/
theorem Inv.weak {σ' : List (Option V)} (I : Inv X pins σ H s) (hl : σ'.length = σ.length) (w : ∀ (i : Nat) v, σ'[i]? = some (some v) → σ[i]? = some (some v)) : Inv X pins σ' H s :=
  ⟨I.ok, I.os, I.bare, I.base, let ⟨m, hn, hl'⟩ := I.loc; ⟨m, hn, fun i x v e1 e2 e3 => hl' i x v e1 (w i v e2) e3⟩, I.cell, I.free, I.freeC, I.pin, I.hok, hl.trans I.len⟩
theorem Inv.pins_of {pins' : List (Addr × Obj)} (I : Inv X pins σ H s) (h : ∀ p ∈ pins', s.heap.get? p.1 = some p.2 ∧ H p.1 = none ∧ p.1 ≠ X.env.locals ∧ p.1 ∉ X.fs ∧ ∀ v, p.2.data ≠ .cell v) : Inv X pins' σ H s :=
  ⟨I.ok, I.os, I.bare, I.base, I.loc, I.cell, I.free, I.freeC, fun p hp => (List.mem_append.mp hp).elim (fun z => I.pin p (List.mem_append_left _ z)) (h p), I.hok, I.len⟩

theorem nodup_ix {N : List Str} (hN : N.Nodup) {i j : Nat} {x : Str} (a : N[i]? = some x) (b : N[j]? = some x) : i = j := by
  obtain ⟨h1, e1⟩ := List.getElem?_eq_some_iff.mp a
  obtain ⟨h2, e2⟩ := List.getElem?_eq_some_iff.mp b
  exact (List.getElem_inj hN).mp (e1.trans e2.symm)

/-- a name is stored; what changed -/
theorem store_ok2 {M : Model} {A : Around} {E : Value → Shared → Prop} {i : Nat} {x : Str} {v : V} {u : Value} {Q : Unit → Shared → Prop} (I : Inv X pins σ H s) (hN : X.N.Nodup) (hi : X.N[i]? = some x) (hx : Loc X.env.scope x) (r : RelV v u)
    (h : ∀ s', Inv X pins (σ.set i (some v)) H s' → (∃ a, Heap.SameBut a s.heap s'.heap ∧ (a = X.env.locals ∨ X.env.cells.lookup x = some a)) → Q () s') (hf : X.fn x = true ∨ X.env.scope.names.lookup x = some .local := by first | exact .inl rfl | exact .inr rfl | assumption) : wpAny M A (storeName X.env x u) Q E s := by
  obtain ⟨m, hn, hl⟩ := id I.loc
  have hcls : (X.env.scope.kind == .class || (X.env.scope.kind == .module && X.env.locals != X.env.globals)) = false := by rw [I.ok.kind]; rfl
  have hiσ : i < σ.length := by rw [I.len]; exact (List.getElem?_eq_some_iff.mp hi).1
  have cne := I.cne
  have tracked : ∀ {a : Addr} {h' : Heap}, (∃ o, s.heap.get? a = some o ∧ H a = none) → Heap.SameBut a s.heap h' → HOk X.prog X.w H h' := fun {a h'} ha hs b ob e => by
    obtain ⟨_, _, hfree⟩ := ha
    refine (I.hok b ob e).stay (fun c w' hc q => (hs.2 c ?_).trans q) (fun _ q => q) fun _ _ q => q
    rintro rfl
    rcases hc with rfl | hc
    · rw [hfree] at e; cases e
    · rw [hfree] at hc; cases hc
  rcases hx with hk | hk
  · refine wpAny_storeName_local hk hn (fun h' hn' hs => ?_) hcls
    obtain ⟨oL, _, _, hoL, _⟩ := id hn
    refine h _ ⟨I.ok, I.os, I.bare, ⟨fun b o e n hb hx => ?_, fun b o e n hb hx => ?_, I.base.free, fun b o e hx => ?_, I.base.tups, I.base.frzs, I.base.tbls⟩, ⟨_, hn', fun j y v' e1 e2 e3 => ?_⟩, fun y c e => ?_, I.free, I.freeC, fun p hp => ?_, tracked ⟨oL, hoL, I.free⟩ hs, by simpa using I.len⟩ ⟨_, hs, .inl rfl⟩
    · exact (hs.2 b (Nat.ne_of_lt (Nat.lt_of_lt_of_le (Heap.lt_size e) I.ok.above))).trans (I.base.keep b o e n hb hx)
    · obtain ⟨sl, e1⟩ := I.base.slot b o e n hb hx
      exact ⟨sl, (hs.2 b (Nat.ne_of_lt (Nat.lt_of_lt_of_le (Heap.lt_size e) I.ok.above))).trans e1⟩
    · obtain ⟨o', e1⟩ := I.base.there b o e hx
      exact ⟨o', (hs.2 b (Nat.ne_of_lt (Nat.lt_of_lt_of_le (Heap.lt_size e) I.ok.above))).trans e1⟩
    · by_cases hj : j = i
      · subst hj
        rw [hi] at e1; cases e1
        rw [List.getElem?_set_self hiσ] at e2
        cases e2
        exact ⟨u, r, .inl ⟨hk, by simp⟩⟩
      · rw [List.getElem?_set_ne (Ne.symm hj)] at e2
        obtain ⟨u', r', q⟩ := hl j y v' e1 e2 e3
        refine ⟨u', r', ?_⟩
        rcases q with ⟨k, e⟩ | ⟨k, c, e, z⟩
        · refine .inl ⟨k, ?_⟩
          have : y ≠ x := fun e => hj (nodup_ix hN e1 (e ▸ hi))
          simp [this, e]
        · exact .inr ⟨k, c, e, z.sameBut hs (cne y c e)⟩
    · obtain ⟨w', z⟩ := I.cell y c e
      exact ⟨w', z.sameBut hs (cne y c e)⟩
    · obtain ⟨e, n, ne, nf, d⟩ := I.pin p hp
      exact ⟨(hs.2 p.1 ne).trans e, n, ne, nf, d⟩
  · have hfn : X.fn x = true := by
      rcases hf with z | z
      · exact z
      · rw [z] at hk; cases hk
    obtain ⟨c, hc⟩ := I.ok.has x (.inl hk)
    obtain ⟨w', z⟩ := I.cell x c hc
    refine wpAny_storeName_cell I.ok.kind hk hc z (fun h' hc' hs => ?_)
    obtain ⟨oc, hoc, hocd⟩ := id z
    refine h { s with heap := h' } ⟨I.ok, I.os, I.bare, ⟨fun b o e n hb hx => ?_, fun b o e n hb hx => ?_, I.base.free, fun b o e hx => ?_, I.base.tups, I.base.frzs, I.base.tbls⟩, ⟨m, hn.sameBut hs (Ne.symm (cne x c hc)), fun j y v' e1 e2 e3 => ?_⟩, fun y c' e => ?_, I.free, I.freeC, fun p hp => ?_, tracked ⟨oc, hoc, I.freeC x c hc⟩ hs, by simpa using I.len⟩ ⟨c, hs, .inr hc⟩
    · exact (hs.2 b (Nat.ne_of_lt (Nat.lt_of_lt_of_le (Heap.lt_size e) (I.ok.cab x c hfn hc)))).trans (I.base.keep b o e n hb hx)
    · obtain ⟨sl, e1⟩ := I.base.slot b o e n hb hx
      exact ⟨sl, (hs.2 b (Nat.ne_of_lt (Nat.lt_of_lt_of_le (Heap.lt_size e) (I.ok.cab x c hfn hc)))).trans e1⟩
    · obtain ⟨o', e1⟩ := I.base.there b o e hx
      exact ⟨o', (hs.2 b (Nat.ne_of_lt (Nat.lt_of_lt_of_le (Heap.lt_size e) (I.ok.cab x c hfn hc)))).trans e1⟩
    · by_cases hj : j = i
      · subst hj
        rw [hi] at e1; cases e1
        rw [List.getElem?_set_self hiσ] at e2
        cases e2
        exact ⟨u, r, .inr ⟨.inl hk, c, hc, hc'⟩⟩
      · rw [List.getElem?_set_ne (Ne.symm hj)] at e2
        obtain ⟨u', r', q⟩ := hl j y v' e1 e2 e3
        refine ⟨u', r', ?_⟩
        rcases q with q | ⟨k, c', e, z'⟩
        · exact .inl q
        · refine .inr ⟨k, c', e, z'.sameBut hs ?_⟩
          rintro rfl
          exact hj (nodup_ix hN e1 (I.ok.inj _ _ _ e hc ▸ hi))
    · by_cases hcc : c' = c
      · subst hcc; exact ⟨_, hc'⟩
      · obtain ⟨w2, z2⟩ := I.cell y c' e
        exact ⟨w2, z2.sameBut hs hcc⟩
    · obtain ⟨e, n, ne, nf, d⟩ := I.pin p hp
      refine ⟨(hs.2 p.1 ?_).trans e, n, ne, nf, d⟩
      intro q
      rw [q, hoc] at e
      have q' : oc = p.2 := Option.some.inj e
      exact d w' (by rw [← q']; exact hocd)
theorem store_ok {M : Model} {A : Around} {E : Value → Shared → Prop} {i : Nat} {x : Str} {v : V} {u : Value} {Q : Unit → Shared → Prop} (I : Inv X pins σ H s) (hN : X.N.Nodup) (hi : X.N[i]? = some x) (hx : Loc X.env.scope x) (r : RelV v u)
    (h : ∀ s', Inv X pins (σ.set i (some v)) H s' → Q () s') (hf : X.fn x = true ∨ X.env.scope.names.lookup x = some .local := by first | exact .inl rfl | exact .inr rfl | assumption) : wpAny M A (storeName X.env x u) Q E s :=
  store_ok2 I hN hi hx r (fun s' I' _ => h s' I') hf
/-- behind a call or a block, the state as it is -/
theorem Inv.call' {s' : Shared} {ch : List Addr} (I : Inv X pins σ H s) (ho : s'.os = s.os) (u : Un (frs X.stack) ch H H' s.heap s'.heap) (hok : HOk X.prog X.w H' s'.heap) (hg : GensOk s.gens s'.gens)
    (hch : ∀ b ∈ ch, (b ∈ X.ex ∨ X.s_0.heap.objs.size ≤ b) ∧ b ≠ X.env.locals ∧ (∀ x c, X.env.cells.lookup x = some c → c ≠ b) ∧ ∀ p ∈ X.pn ++ pins, p.1 ≠ b) : Inv X pins σ H' s' := by
  obtain ⟨h', g', d', t', o'⟩ := s'
  have e : o' = s.os := ho
  subst e
  exact I.call (g' := g') (t' := t') (d' := d') u hok hg hch
end

/-! ### the judgements -/
/-- an exception: its class, its own dict's address (where it has one), the abstract heap behind it -/
abbrev XK := Value → Option Addr → Hp → Prop
abbrev St := List (Option V)
abbrev VK := V → Hp → Prop
/-- an expression's reading; a test's; an argument list's -/
abbrev TE := St → Hp → VK → Prop
abbrev TT := St → Hp → (Bool → Hp → Prop) → Prop
abbrev TA := St → Hp → (List V → Hp → Prop) → Prop
/-- what is wanted behind a statement -/
structure Ends where
  nx : St → Hp → Prop
  rt : VK
  bk : St → Hp → Prop := fun _ _ => False
  ct : St → Hp → Prop := fun _ _ => False
abbrev TS := Ends → St → Hp → Prop

def EP (X : Cx) (pins : List (Addr × Obj)) (σ : St) (Q : VK) (u : Value) (s' : Shared) : Prop := ∃ v H', Inv X pins σ H' s' ∧ RelV v u ∧ Q v H'
def TP (X : Cx) (pins : List (Addr × Obj)) (σ : St) (Q : Bool → Hp → Prop) (b : Bool) (s' : Shared) : Prop := ∃ H', Inv X pins σ H' s' ∧ Q b H'
def AP (X : Cx) (pins : List (Addr × Obj)) (σ : St) (Q : List V → Hp → Prop) (us : List Value) (s' : Shared) : Prop := ∃ vs H', Inv X pins σ H' s' ∧ Vals vs us ∧ Q vs H'
def SP (X : Cx) (pins : List (Addr × Obj)) (D : Ends) (f : Flow) (s' : Shared) : Prop :=
  match f with
  | .next => ∃ σ' H', Inv X pins σ' H' s' ∧ D.nx σ' H'
  | .brk => ∃ σ' H', Inv X pins σ' H' s' ∧ D.bk σ' H'
  | .cont => ∃ σ' H', Inv X pins σ' H' s' ∧ D.ct σ' H'
  | .ret u => ∃ v σ' H', Inv X pins σ' H' s' ∧ RelV v u ∧ D.rt v H'

structure PE (X : Cx) (e : Expr) (t : TE) : Prop where
  run : ∀ (pins : List (Addr × Obj)) (s : Shared) (σ : St) (H : Hp) (Q : VK), Inv X pins σ H s → t σ H Q → wpAny (model X.prog X.w) X.A (eval e X.env) (EP X pins σ Q) X.xe s
instance {X : Cx} {e : Expr} {t : TE} : CoeFun (PE X e t) (fun _ => ∀ (pins : List (Addr × Obj)) (s : Shared) (σ : St) (H : Hp) (Q : VK), Inv X pins σ H s → t σ H Q → wpAny (model X.prog X.w) X.A (eval e X.env) (EP X pins σ Q) X.xe s) := ⟨PE.run⟩
structure PT (X : Cx) (e : Expr) (t : TT) : Prop where
  run : ∀ (pins : List (Addr × Obj)) (s : Shared) (σ : St) (H : Hp) (Q : Bool → Hp → Prop), Inv X pins σ H s → t σ H Q → wpAny (model X.prog X.w) X.A (isTrue e X.env (eval e X.env)) (TP X pins σ Q) X.xe s
instance {X : Cx} {e : Expr} {t : TT} : CoeFun (PT X e t) (fun _ => ∀ (pins : List (Addr × Obj)) (s : Shared) (σ : St) (H : Hp) (Q : Bool → Hp → Prop), Inv X pins σ H s → t σ H Q → wpAny (model X.prog X.w) X.A (isTrue e X.env (eval e X.env)) (TP X pins σ Q) X.xe s) := ⟨PT.run⟩
/-- a test whatever its 'whole' is (and, or) -/
structure PW (X : Cx) (e : Expr) (t : TT) : Prop where
  run : ∀ (whole : Sem Value) (pins : List (Addr × Obj)) (s : Shared) (σ : St) (H : Hp) (Q : Bool → Hp → Prop), Inv X pins σ H s → t σ H Q → wpAny (model X.prog X.w) X.A (isTrue e X.env whole) (TP X pins σ Q) X.xe s
instance {X : Cx} {e : Expr} {t : TT} : CoeFun (PW X e t) (fun _ => ∀ (whole : Sem Value) (pins : List (Addr × Obj)) (s : Shared) (σ : St) (H : Hp) (Q : Bool → Hp → Prop), Inv X pins σ H s → t σ H Q → wpAny (model X.prog X.w) X.A (isTrue e X.env whole) (TP X pins σ Q) X.xe s) := ⟨PW.run⟩
theorem PW.pt {X : Cx} {e : Expr} {t : TT} (h : PW X e t) : PT X e t := ⟨h _⟩
/-- an argument list (no star), from the left -/
structure PA (X : Cx) (es : List Expr) (t : TA) : Prop where
  run : ∀ (pos : Pos) (pins : List (Addr × Obj)) (s : Shared) (σ : St) (H : Hp) (Q : List V → Hp → Prop), Inv X pins σ H s → t σ H Q → wpAny (model X.prog X.w) X.A (spliced (backTo pos (starEach es X.env))) (AP X pins σ Q) X.xe s
instance {X : Cx} {es : List Expr} {t : TA} : CoeFun (PA X es t) (fun _ => ∀ (pos : Pos) (pins : List (Addr × Obj)) (s : Shared) (σ : St) (H : Hp) (Q : List V → Hp → Prop), Inv X pins σ H s → t σ H Q → wpAny (model X.prog X.w) X.A (spliced (backTo pos (starEach es X.env))) (AP X pins σ Q) X.xe s) := ⟨PA.run⟩
structure PS (X : Cx) (st : Stmt) (t : TS) : Prop where
  run : ∀ (pins : List (Addr × Obj)) (s : Shared) (σ : St) (H : Hp) (D : Ends), Inv X pins σ H s → t D σ H → wpAny (model X.prog X.w) X.A (exec st X.env) (SP X pins D) X.xe s
instance {X : Cx} {st : Stmt} {t : TS} : CoeFun (PS X st t) (fun _ => ∀ (pins : List (Addr × Obj)) (s : Shared) (σ : St) (H : Hp) (D : Ends), Inv X pins σ H s → t D σ H → wpAny (model X.prog X.w) X.A (exec st X.env) (SP X pins D) X.xe s) := ⟨PS.run⟩
structure PSs (X : Cx) (st : List Stmt) (t : TS) : Prop where
  run : ∀ (pins : List (Addr × Obj)) (s : Shared) (σ : St) (H : Hp) (D : Ends), Inv X pins σ H s → t D σ H → wpAny (model X.prog X.w) X.A (execs st X.env) (SP X pins D) X.xe s
instance {X : Cx} {st : List Stmt} {t : TS} : CoeFun (PSs X st t) (fun _ => ∀ (pins : List (Addr × Obj)) (s : Shared) (σ : St) (H : Hp) (D : Ends), Inv X pins σ H s → t D σ H → wpAny (model X.prog X.w) X.A (execs st X.env) (SP X pins D) X.xe s) := ⟨PSs.run⟩
/-- weaken the end -/
theorem thn {α : Type} {t : Sem α} {Q Q' : α → Shared → Prop} {M : Model} {A : Around} {E : Value → Shared → Prop} {s : Shared} (h : wpAny M A t Q E s) (hQ : ∀ a s, Q a s → Q' a s) : wpAny M A t Q' E s := wpAny_mono h hQ fun _ _ x => x
end L2

namespace L2
open PySem PySem.Spec PyProof.Rows
section
variable {X : Cx}

/-! ### names and constants -/
def tVar (i : Nat) : TE := fun σ H Q => ∃ v, σ[i]? = some (some v) ∧ Q v H
def tC (v : V) : TE := fun _ H Q => Q v H
theorem pe_var {i : Nat} {x : Str} {pos : Pos} (hN : X.N[i]? = some x) (hv : Vis X.env.scope x) (hd : (x == ("__debug__" : Str)) = false := by decide) (hcd : (x == ("__classdict__" : Str)) = false := by decide) : PE X (.Name x pos) (tVar i) := by
  constructor
  intro pins s σ H Q I h
  obtain ⟨v, e, h⟩ := h
  obtain ⟨m, hn, hl⟩ := I.loc
  obtain ⟨u, r, l⟩ := hl i x v hN e hv
  have fin : EP X pins σ Q u s := ⟨v, H, I, r, h⟩
  rcases l with ⟨hk, hm⟩ | ⟨hk, c, hc, hcell⟩
  · exact wpAny_Name (wpAny_loadName_local I.ok.kind hk hn hm fin) hd
  · rcases hk with hk | hk
    · exact wpAny_Name (wpAny_loadName_cell I.ok.kind hk hc hcell fin) hd
    · exact wpAny_Name (wpAny_loadName_free I.ok.kind hk hc hcell fin hcd) hd
theorem pe_int {i j pos} : PE X (.Constant (.int i) j pos) (tC (.int i)) := ⟨fun _ _ _ H _ I h => wpAny_Constant_int ⟨.int i, H, I.tok _, ⟨_, rfl⟩, h⟩⟩
theorem pe_bl {b j pos} : PE X (.Constant (.bool b) j pos) (tC (.bl b)) := ⟨fun _ _ _ H _ I h => Constant_bool ⟨.bl b, H, I, rfl, h⟩⟩
theorem pe_non {j pos} : PE X (.Constant .none j pos) (tC .non) := ⟨fun _ _ _ H _ I h => Constant_none ⟨.non, H, I, rfl, h⟩⟩
theorem pe_str {x j pos} : PE X (.Constant (.str x) j pos) (tC (.str x)) := ⟨fun _ _ _ H _ I h => Calls.Constant_str ⟨.str x, H, I.tok _, ⟨_, rfl⟩, h⟩⟩

/-- a global name of the def -/
def Gl (X : Cx) (x : Str) : Prop := X.env.kindOf x = some .globalImplicit
theorem ld_glob {E : Value → Shared → Prop} {pins : List (Addr × Obj)} {s : Shared} {σ : St} {H : Hp} {x : Str} {u : Value} {pos : Pos} {Q : Value → Shared → Prop} (I : Inv X pins σ H s) (hg : Gl X x) (hm : X.mg x = some u) (h : Q u s)
    (hd : (x == ("__debug__" : Str)) = false := by decide) : wpAny (model X.prog X.w) X.A (eval (.Name x pos) X.env) Q E s :=
  Calls.Name_function_global I.ok.kind hg (Calls.loadGlobal_global (by rw [I.ok.glob]; exact I.mod.glob.keeps I.bk) hm h) hd
theorem ld_blt {E : Value → Shared → Prop} {pins : List (Addr × Obj)} {s : Shared} {σ : St} {H : Hp} {x : Str} {u : Value} {pos : Pos} {Q : Value → Shared → Prop} (I : Inv X pins σ H s) (hg : Gl X x) (hm : X.mg x = none) (hv : bootBuiltins x = some u) (h : Q u s)
    (hn : x ≠ "__name__" := by decide) (hd : (x == ("__debug__" : Str)) = false := by decide) : wpAny (model X.prog X.w) X.A (eval (.Name x pos) X.env) Q E s := by
  obtain ⟨mb, h1, h2⟩ := I.mod.blt
  exact Calls.Name_function_global I.ok.kind hg (Calls.loadGlobal_builtin (by rw [I.ok.glob]; exact I.mod.glob.keeps I.bk) hm (by rw [I.ok.blt]; exact h1.keeps I.bk) ((h2 x hn).trans hv) h) hd
theorem pe_bltn {x : Str} {v : V} {u : Value} {pos : Pos} (hg : Gl X x) (hm : X.mg x = none) (hv : bootBuiltins x = some u) (r : RelV v u) (hn : x ≠ "__name__" := by decide) (hd : (x == ("__debug__" : Str)) = false := by decide) : PE X (.Name x pos) (tC v) := ⟨fun _ _ _ H _ I h => ld_blt I hg hm hv ⟨v, H, I, r, h⟩ hn hd⟩

/-! ### arithmetic -/
variable {a b : Expr} {ta tb : TE} {pos : Pos}
/-! ### comparisons -/
structure PC (X : Cx) (op : CmpOp) (a b : Expr) (t : TE) : Prop where
  run : ∀ (pins : List (Addr × Obj)) (s : Shared) (σ : St) (H : Hp) (Q : VK), Inv X pins σ H s → t σ H Q →
    wpAny (model X.prog X.w) X.A (eval a X.env) (fun v s₁ => wpAny (model X.prog X.w) X.A (eval b X.env) (fun u s₂ => wpAny (model X.prog X.w) X.A (compareOp op v u) (EP X pins σ Q) X.xe s₂) X.xe s₁) X.xe s
instance {X : Cx} {op : CmpOp} {a b : Expr} {t : TE} : CoeFun (PC X op a b t) (fun _ => ∀ (pins : List (Addr × Obj)) (s : Shared) (σ : St) (H : Hp) (Q : VK), Inv X pins σ H s → t σ H Q →
    wpAny (model X.prog X.w) X.A (eval a X.env) (fun v s₁ => wpAny (model X.prog X.w) X.A (eval b X.env) (fun u s₂ => wpAny (model X.prog X.w) X.A (compareOp op v u) (EP X pins σ Q) X.xe s₂) X.xe s₁) X.xe s) := ⟨PC.run⟩
theorem nobehind (b : Expr) {op : CmpOp} (h : op ≠ .In) (h2 : op ≠ .NotIn) : behindInMarks op b = false := by
  have e1 : (op == CmpOp.In) = false := by cases op <;> first | rfl | exact absurd rfl h
  have e2 : (op == CmpOp.NotIn) = false := by cases op <;> first | rfl | exact absurd rfl h2
  cases b <;> simp [behindInMarks, e1, e2]
/-- a comparison as a value, as a test -/
def tB (t : TE) : TT := fun σ H Q => t σ H fun x H1 => ∃ c, x = .bl c ∧ Q c H1
theorem pe_cmp {op : CmpOp} {t : TE} (h : PC X op a b t) (h1 : behindInMarks op b = false := by first | exact nobehind _ (by decide) (by decide) | rfl) : PE X (.Compare a [op] [b] pos) t := ⟨fun pins s σ H Q I hw => wpAny_Compare1 (h pins s σ H Q I hw) h1⟩
/-- an expression whose value is a bool, as a test -/
theorem pt_val {e : Expr} {t : TE} (h : PE X e t) (he : ∀ whole, isTrue e X.env whole = (do let v ← whole; standAt e.pos; holding [v] (truthy v)) := by intro _; rfl) : PT X e (tB t) := by
  constructor
  intro pins s σ H Q I hw
  refine isTrue_plain (thn (h pins s σ H _ I hw) fun v s1 ⟨x, H1, I1, r1, q1⟩ => ?_) (he _)
  obtain ⟨d, rfl, q⟩ := q1
  cases r1
  exact wpAny_truthy_bool ⟨H1, I1, q⟩

/-! ### and, or, not -/
variable {tA tB' : TT} {rest : List Expr}
def tAnd (t u : TT) : TT := fun σ H Q => t σ H fun c H1 => if c = true then u σ H1 Q else Q false H1
def tOr (t u : TT) : TT := fun σ H Q => t σ H fun c H1 => if c = true then Q true H1 else u σ H1 Q
def tNot (t : TT) : TT := fun σ H Q => t σ H fun c H1 => Q (!c) H1
theorem pw_and1 (ha : PT X a tA) : PW X (.BoolOp .And [a] pos) tA := by
  constructor
  intro wh pins s σ H Q I h
  refine isTrue_and (thn (ha pins s σ H Q I h) fun c s1 e => ?_)
  cases c with
  | true => exact isTrue_and_nil e
  | false => exact e
theorem pw_or1 (ha : PT X a tA) : PW X (.BoolOp .Or [a] pos) tA := by
  constructor
  intro wh pins s σ H Q I h
  refine isTrue_or (thn (ha pins s σ H Q I h) fun c s1 e => ?_)
  cases c with
  | false => exact isTrue_or_nil e
  | true => exact e
theorem pw_and (ha : PT X a tA) (hb : PW X (.BoolOp .And (b :: rest) pos) tB') : PW X (.BoolOp .And (a :: b :: rest) pos) (tAnd tA tB') := by
  constructor
  intro wh pins s σ H Q I h
  refine isTrue_and (thn (ha pins s σ H _ I h) fun c s1 ⟨H1, I1, q1⟩ => ?_)
  cases c with
  | true => exact hb wh pins s1 σ H1 Q I1 q1
  | false => exact ⟨H1, I1, q1⟩
theorem pw_or (ha : PT X a tA) (hb : PW X (.BoolOp .Or (b :: rest) pos) tB') : PW X (.BoolOp .Or (a :: b :: rest) pos) (tOr tA tB') := by
  constructor
  intro wh pins s σ H Q I h
  refine isTrue_or (thn (ha pins s σ H _ I h) fun c s1 ⟨H1, I1, q1⟩ => ?_)
  cases c with
  | true => exact ⟨H1, I1, q1⟩
  | false => exact hb wh pins s1 σ H1 Q I1 q1
theorem pt_not (ha : PT X a tA) : PT X (.UnaryOp .Not a pos) (tNot tA) := by
  constructor
  intro pins s σ H Q I h
  exact isTrue_not (ha pins s σ H (fun c H1 => Q (!c) H1) I h)
/-- .. as values (bools) -/
def tAndV (ta tb : TE) : TE := fun σ H Q => ta σ H fun x H1 => ∃ c, x = .bl c ∧ if c = true then tb σ H1 Q else Q (.bl false) H1
def tOrV (ta tb : TE) : TE := fun σ H Q => ta σ H fun x H1 => ∃ c, x = .bl c ∧ if c = true then Q (.bl true) H1 else tb σ H1 Q
theorem pe_one {op} {t : TE} (h : PE X a t) : PE X (.BoolOp op [a] pos) t := ⟨fun pins s σ H Q I hw => BoolOp_one (h pins s σ H Q I hw)⟩
theorem pe_and (ha : PE X a ta) (hb : PE X (.BoolOp .And (b :: rest) pos) tb) : PE X (.BoolOp .And (a :: b :: rest) pos) (tAndV ta tb) := by
  constructor
  intro pins s σ H Q I h
  refine BoolOp_and (thn (ha pins s σ H _ I h) fun v s1 ⟨x, H1, I1, r1, q1⟩ => ?_)
  obtain ⟨c, rfl, q1⟩ := q1
  cases r1
  refine wpAny_truthy_bool ?_
  cases c with
  | true => exact hb pins s1 σ H1 Q I1 q1
  | false => exact ⟨.bl false, H1, I1, rfl, q1⟩
theorem pe_or (ha : PE X a ta) (hb : PE X (.BoolOp .Or (b :: rest) pos) tb) : PE X (.BoolOp .Or (a :: b :: rest) pos) (tOrV ta tb) := by
  constructor
  intro pins s σ H Q I h
  refine BoolOp_or (thn (ha pins s σ H _ I h) fun v s1 ⟨x, H1, I1, r1, q1⟩ => ?_)
  obtain ⟨c, rfl, q1⟩ := q1
  cases r1
  refine wpAny_truthy_bool ?_
  cases c with
  | false => exact hb pins s1 σ H1 Q I1 q1
  | true => exact ⟨.bl true, H1, I1, rfl, q1⟩
/-- a if t else b -/
def tIf (t : TT) (ta tb : TE) : TE := fun σ H Q => t σ H fun c H1 => if c = true then ta σ H1 Q else tb σ H1 Q
theorem pe_ifExp {c : Expr} (hc : PT X c tA) (ha : PE X a ta) (hb : PE X b tb) : PE X (.IfExp c a b pos) (tIf tA ta tb) := by
  constructor
  intro pins s σ H Q I h
  refine wpAny_IfExp (thn (hc pins s σ H _ I h) fun d s1 ⟨H1, I1, q1⟩ => ?_)
  cases d with
  | true => exact ha pins s1 σ H1 Q I1 q1
  | false => exact hb pins s1 σ H1 Q I1 q1
end
end L2

namespace L2
open PySem PySem.Spec PyProof.Rows

/-! ### a list, a tuple that is read: tracked, frozen, or an object of the module -/
def SqL (K : PySem.W.Frag) (H : Hp) (a : Addr) (xs : List V) : Prop :=
  Rd H a (.lst xs) ∨
    ∃ (o : Obj) (its : Array Value) (n : Nat), K.lookup a = some o ∧ o.cls = .type "list" ∧ o.dict = none ∧ o.data = .seq its n ∧ its.size ≤ sizeLine ∧ Vals xs its.toList
def SqT (K : PySem.W.Frag) (H : Hp) (a : Addr) (xs : List V) : Prop :=
  Rd H a (.tup xs) ∨
    ∃ (o : Obj) (its : Array Value) (n : Nat), K.lookup a = some o ∧ o.cls = .type "tuple" ∧ o.data = .seq its n ∧ its.size ≤ sizeLine ∧ Vals xs its.toList
def absV : Value → Option V
  | .none => some .non
  | .bool b => some (.bl b)
  | .int i _ => some (.int i)
  | .str x _ => some (.str x)
  | .bytes b _ => some (.byt b)
  | .float b _ => some (.flt b)
  | .ref a => some (.ref a)
  | .type n => some (.ty n)
  | _ => none
theorem RelV.abs {x : V} {u : Value} (r : RelV x u) : absV u = some x := by
  cases x with
  | non => cases r; rfl
  | bl _ => cases r; rfl
  | int _ => obtain ⟨t, rfl⟩ := r; rfl
  | str _ => obtain ⟨t, rfl⟩ := r; rfl
  | byt _ => obtain ⟨t, rfl⟩ := r; rfl
  | flt _ => obtain ⟨t, rfl⟩ := r; rfl
  | ref _ => cases r; rfl
  | ty _ => cases r; rfl
theorem RelV.inj {x y : V} {u : Value} (r : RelV x u) (q : RelV y u) : x = y := Option.some.inj (r.abs.symm.trans q.abs)
theorem Vals.inj : ∀ {xs ys : List V} {us : List Value}, Vals xs us → Vals ys us → xs = ys
  | _, _, _, .nil, .nil => rfl
  | _, _, _, .cons r t, .cons r' t' => by rw [r.inj r', Vals.inj t t']
section
variable {X : Cx} {pins : List (Addr × Obj)} {σ : St} {H : Hp} {s : Shared} {a : Addr} {xs ys : List V}
theorem SqL.of {K : PySem.W.Frag} (h : H a = some (.lst xs)) : SqL K H a xs := .inl (.inl h)
theorem SqT.of {K : PySem.W.Frag} (h : H a = some (.tup xs)) : SqT K H a xs := .inl (.inl h)
theorem Inv.list (I : Inv X pins σ H s) (h : SqL X.K H a xs) : ∃ its : List Value, Vals xs its ∧ PlainL s.heap a its.toArray ∧ xs.length ≤ sizeLine := by
  rcases h with h | ⟨o, its, n, hk, hc, hd, hs, hz, r⟩
  · obtain ⟨z, its, n, r, e⟩ := h.ok I.hok
    exact ⟨its, r, ⟨_, n, e, rfl, rfl, rfl⟩, z⟩
  · refine ⟨its.toList, r, ⟨o, n, I.kIn a o hk, hc, hd, by simpa using hs⟩, ?_⟩
    have e := r.length
    simp only [Array.length_toList] at e
    omega
theorem Inv.tuple (I : Inv X pins σ H s) (h : SqT X.K H a xs) : ∃ its : List Value, Vals xs its ∧ IsTup s.heap a its.toArray ∧ xs.length ≤ sizeLine := by
  rcases h with h | ⟨o, its, n, hk, hc, hs, hz, r⟩
  · obtain ⟨z, its, r, p⟩ := h.ok I.hok
    exact ⟨its, r, p, z⟩
  · refine ⟨its.toList, r, ⟨o, I.kIn a o hk, hc, n, by simpa using hs⟩, ?_⟩
    have e := r.length
    simp only [Array.length_toList] at e
    omega
theorem Inv.list_inj (I : Inv X pins σ H s) (h : SqL X.K H a xs) (h' : SqL X.K H a ys) : xs = ys := by
  obtain ⟨its, r, ⟨o, n, e, _, _, d⟩, _⟩ := I.list h
  obtain ⟨its', r', ⟨o', n', e', _, _, d'⟩, _⟩ := I.list h'
  rw [e] at e'; cases e'
  rw [d] at d'
  injection d' with d1 _
  have : its = its' := by simpa using congrArg Array.toList d1
  subst this
  exact r.inj r'
theorem Inv.tuple_inj (I : Inv X pins σ H s) (h : SqT X.K H a xs) (h' : SqT X.K H a ys) : xs = ys := by
  obtain ⟨its, r, ⟨o, e, _, n, d⟩, _⟩ := I.tuple h
  obtain ⟨its', r', ⟨o', e', _, n', d'⟩, _⟩ := I.tuple h'
  rw [e] at e'; cases e'
  rw [d] at d'
  injection d' with d1 _
  have : its = its' := by simpa using congrArg Array.toList d1
  subst this
  exact r.inj r'
end

/-! ### another wish about exceptions -/
abbrev Cx.wish (X : Cx) (E : Value → Shared → Prop) : Cx := { X with xe := E }
/-- no exception leaves -/
abbrev Cx.nox (X : Cx) : Cx := X.wish fun _ _ => False
theorem Cx.Ok.wish {X : Cx} (ok : X.Ok) (E : Value → Shared → Prop) : (X.wish E).Ok :=
  ⟨ok.mod, ok.kind, ok.glob, ok.blt, ok.above, ok.inj, ok.has, ok.cab, ok.hd, ok.frames, ok.stk, ok.exf, ok.bs, ok.bsz, ok.noex, ok.exfs, ok.funs, ok.frf⟩
theorem Cx.Ok.unwish {X : Cx} {E : Value → Shared → Prop} (ok : (X.wish E).Ok) : X.Ok :=
  ⟨ok.mod, ok.kind, ok.glob, ok.blt, ok.above, ok.inj, ok.has, ok.cab, ok.hd, ok.frames, ok.stk, ok.exf, ok.bs, ok.bsz, ok.noex, ok.exfs, ok.funs, ok.frf⟩
section
variable {X : Cx} {pins : List (Addr × Obj)} {σ : St} {H : Hp} {s : Shared} {E : Value → Shared → Prop}
theorem Inv.wish (I : Inv X pins σ H s) (E : Value → Shared → Prop) : Inv (X.wish E) pins σ H s := ⟨I.ok.wish E, I.os, I.bare, I.base, I.loc, I.cell, I.free, I.freeC, I.pin, I.hok, I.len⟩
theorem Inv.unwish (I : Inv (X.wish E) pins σ H s) : Inv X pins σ H s := ⟨I.ok.unwish, I.os, I.bare, I.base, I.loc, I.cell, I.free, I.freeC, I.pin, I.hok, I.len⟩
theorem SP.unwish {D : Ends} {f : Flow} {s' : Shared} (h : SP (X.wish E) pins D f s') : SP X pins D f s' := by
  cases f with
  | next => obtain ⟨σ', H', I, q⟩ := h; exact ⟨σ', H', I.unwish, q⟩
  | brk => obtain ⟨σ', H', I, q⟩ := h; exact ⟨σ', H', I.unwish, q⟩
  | cont => obtain ⟨σ', H', I, q⟩ := h; exact ⟨σ', H', I.unwish, q⟩
  | ret u => obtain ⟨v, σ', H', I, r, q⟩ := h; exact ⟨v, σ', H', I.unwish, r, q⟩
theorem PE.nox {e : Expr} {t : TE} (h : PE X.nox e t) : PE X e t := ⟨fun pins s σ H Q I hw =>
  wpAny_mono (h pins s σ H Q (I.wish _) hw) (fun _ _ ⟨v, H', I', r, q⟩ => ⟨v, H', I'.unwish, r, q⟩) fun _ _ z => False.elim z⟩
theorem PT.nox {e : Expr} {t : TT} (h : PT X.nox e t) : PT X e t := ⟨fun pins s σ H Q I hw =>
  wpAny_mono (h pins s σ H Q (I.wish _) hw) (fun _ _ ⟨H', I', q⟩ => ⟨H', I'.unwish, q⟩) fun _ _ z => False.elim z⟩
theorem PSs.nox {st : List Stmt} {t : TS} (h : PSs X.nox st t) : PSs X st t := ⟨fun pins s σ H D I hw =>
  wpAny_mono (h pins s σ H D (I.wish _) hw) (fun _ _ q => q.unwish) fun _ _ z => False.elim z⟩
end

/-! ### blocks and small statements -/
section
variable {X : Cx} {st : Stmt} {rest : List Stmt} {t u : TS} {e : Expr} {te : TE} {pos : Pos}
def tNext : TS := fun D σ H => D.nx σ H
def tSeq (t u : TS) : TS := fun D σ H => t { D with nx := u D } σ H
theorem pss_nil : PSs X [] tNext := ⟨fun _ _ σ H _ I h => wpAny_execs_nil ⟨σ, H, I, h⟩⟩
theorem pss_cons (h1 : PS X st t) (h2 : PSs X rest u) : PSs X (st :: rest) (tSeq t u) := by
  constructor
  intro pins s σ H D I h
  refine wpAny_execs_cons (thn (h1 pins s σ H { D with nx := u D } I h) fun f s1 q => ?_)
  cases f with
  | next =>
    obtain ⟨σ', H', I', q⟩ := q
    exact h2 pins s1 σ' H' D I' q
  | ret v => exact q
  | brk => exact q
  | cont => exact q
theorem pss_one (h1 : PS X st t) : PSs X [st] t := by
  constructor
  intro pins s σ H D I h
  refine wpAny_execs_cons (thn (h1 pins s σ H D I h) fun f s1 q => ?_)
  cases f with
  | next => exact wpAny_execs_nil q
  | ret v => exact q
  | brk => exact q
  | cont => exact q
/-- in a def's body nothing is shown -/
theorem Inv.quiet {pins : List (Addr × Obj)} {σ : St} {H : Hp} {s : Shared} (I : Inv X pins σ H s) : interactive X.env = false := by simp [interactive, I.ok.kind]
/-- an expression whose value is dropped -/
def tDrop (te : TE) : TS := fun D σ H => te σ H fun _ H1 => D.nx σ H1
theorem ps_expr (he : PE X e te) (hs : swapsWith e none pos.line X.env = pure false := by rfl) : PS X (.Expr e pos) (tDrop te) := by
  constructor
  intro pins s σ H D I h
  exact wpAny_Expr_any (thn (he pins s σ H _ I h) fun v s1 ⟨x, H1, I1, r1, q1⟩ => ⟨σ, H1, I1, q1⟩) I.quiet hs
def tRet (te : TE) : TS := fun D σ H => te σ H D.rt
theorem ps_ret (he : PE X e te) : PS X (.Return (some e) pos) (tRet te) := by
  constructor
  intro pins s σ H D I h
  exact wpAny_Return_some (thn (he pins s σ H _ I h) fun v s1 ⟨x, H1, I1, r1, q1⟩ => ⟨x, σ, H1, I1, r1, q1⟩)
def tIfS (c : TT) (t u : TS) : TS := fun D σ H => c σ H fun b H1 => if b = true then t D σ H1 else u D σ H1
theorem ps_if {c : Expr} {a b : List Stmt} {tc : TT} (hc : PT X c tc) (ha : PSs X a t) (hb : PSs X b u) : PS X (.If c a b pos) (tIfS tc t u) := by
  constructor
  intro pins s σ H D I h
  refine wpAny_If (thn (hc pins s σ H _ I h) fun d s1 ⟨H1, I1, q1⟩ => ?_)
  cases d with
  | true => exact ha pins s1 σ H1 D I1 q1
  | false => exact hb pins s1 σ H1 D I1 q1
end

/-! ### targets -/
abbrev TG := V → St → Hp → (St → Hp → Prop) → Prop
abbrev TGs := List V → St → Hp → (St → Hp → Prop) → Prop
structure PG (X : Cx) (target : Expr) (t : TG) : Prop where
  run : ∀ (pins : List (Addr × Obj)) (s : Shared) (σ : St) (H : Hp) (v : V) (u : Value) (Q : St → Hp → Prop), Inv X pins σ H s → RelV v u → t v σ H Q →
    wpAny (model X.prog X.w) X.A (assign target X.env u) (fun _ s' => ∃ σ' H', Inv X pins σ' H' s' ∧ Q σ' H') X.xe s
instance {X : Cx} {target : Expr} {t : TG} : CoeFun (PG X target t) (fun _ => ∀ (pins : List (Addr × Obj)) (s : Shared) (σ : St) (H : Hp) (v : V) (u : Value) (Q : St → Hp → Prop), Inv X pins σ H s → RelV v u → t v σ H Q →
    wpAny (model X.prog X.w) X.A (assign target X.env u) (fun _ s' => ∃ σ' H', Inv X pins σ' H' s' ∧ Q σ' H') X.xe s) := ⟨PG.run⟩
/-- several targets, one after another -/
structure PGs (X : Cx) (ts : List Expr) (t : TGs) : Prop where
  run : ∀ (pins : List (Addr × Obj)) (s : Shared) (σ : St) (H : Hp) (vs : List V) (us : List Value) (Q : St → Hp → Prop), Inv X pins σ H s → Vals vs us → t vs σ H Q →
    wpAny (model X.prog X.w) X.A (assignInOrder ((assignEach ts X.env).map (·.2)) us) (fun _ s' => ∃ σ' H', Inv X pins σ' H' s' ∧ Q σ' H') X.xe s
instance {X : Cx} {ts : List Expr} {t : TGs} : CoeFun (PGs X ts t) (fun _ => ∀ (pins : List (Addr × Obj)) (s : Shared) (σ : St) (H : Hp) (vs : List V) (us : List Value) (Q : St → Hp → Prop), Inv X pins σ H s → Vals vs us → t vs σ H Q →
    wpAny (model X.prog X.w) X.A (assignInOrder ((assignEach ts X.env).map (·.2)) us) (fun _ s' => ∃ σ' H', Inv X pins σ' H' s' ∧ Q σ' H') X.xe s) := ⟨PGs.run⟩
/-- o[i] = v, by values -/
abbrev TSet := V → V → V → Hp → (Hp → Prop) → Prop
def PSet (X : Cx) (t : TSet) : Prop :=
  ∀ (pins : List (Addr × Obj)) (s : Shared) (σ : St) (H : Hp) (o i v : V) (ov iv u : Value) (Q : Hp → Prop), Inv X pins σ H s → RelV o ov → RelV i iv → RelV v u → t o i v H Q →
    wpAny (model X.prog X.w) X.A (setItem ov iv u) (fun _ s' => ∃ H', Inv X pins σ H' s' ∧ Q H') X.xe s
section
variable {X : Cx} {pos : Pos}
def gName (i : Nat) : TG := fun v σ H Q => Q (σ.set i (some v)) H
theorem pg_name {i : Nat} {x : Str} (hN : X.N.Nodup) (hi : X.N[i]? = some x) (hx : Loc X.env.scope x) (hf : X.fn x = true ∨ X.env.scope.names.lookup x = some .local := by first | exact .inl rfl | exact .inr rfl | assumption) : PG X (.Name x pos) (gName i) := by
  constructor
  intro pins s σ H v u Q I r h
  exact wpAny_assign_Name (store_ok I hN hi hx r (fun s' I' => ⟨_, H, I', h⟩) hf)
def gNil : TGs := fun vs σ H Q => vs = [] ∧ Q σ H
def gCons (t : TG) (u : TGs) : TGs := fun vs σ H Q => ∃ v r, vs = v :: r ∧ t v σ H fun σ' H' => u r σ' H' Q
theorem pgs_nil : PGs X [] gNil := by
  constructor
  intro pins s σ H vs us Q I r h
  obtain ⟨e, h⟩ := h
  subst e
  cases r
  exact assignInOrder_nil ⟨σ, H, I, h⟩
theorem pgs_cons {e : Expr} {es : List Expr} {t : TG} {u : TGs} (h1 : PG X e t) (h2 : PGs X es u)
    (hs : (assignEach (e :: es) X.env).map (·.2) = assign e X.env :: (assignEach es X.env).map (·.2) := by rfl) : PGs X (e :: es) (gCons t u) := by
  constructor
  intro pins s σ H vs us Q I r h
  obtain ⟨v, vr, e1, h⟩ := h
  subst e1
  cases r with
  | cons r rr =>
    rw [hs]
    refine assignInOrder_cons (thn (h1 pins s σ H _ _ _ I r h) fun _ s1 ⟨σ1, H1, I1, q1⟩ => ?_)
    exact h2 pins s1 σ1 H1 _ _ Q I1 rr q1
/-- (a, b, ..) = a tuple of that length -/
def gTup (K : PySem.W.Frag) (n : Nat) (t : TGs) : TG := fun v σ H Q => ∃ a xs, v = .ref a ∧ SqT K H a xs ∧ xs.length = n ∧ t xs σ H Q
theorem pg_tup {es : List Expr} {k : Nat} {t : TGs} {n : Nat} (hc : X.calm = true) (h : PGs X es t)
    (hn : (assignEach es X.env).length = n := by rfl) (hst : (assignEach es X.env).findIdx? (·.1) = none := by rfl) : PG X (.Tuple es k pos) (gTup X.K n t) := by
  constructor
  intro pins s σ H v u Q I r hw
  obtain ⟨a, xs, e1, hq, hl, hw⟩ := hw
  subst e1
  cases r
  obtain ⟨its, rv, ht, hz⟩ := I.tuple hq
  refine assign_Tuple_tuple (I.ok.hd hc) ht (by simp [hn, ← hl, rv.length]) hst fun h' hx => ?_
  have I1 : Inv X pins σ H { s with heap := h' } := I.kept (t' := s.toks) fun b o e => hx b o (Nat.ne_of_lt (Heap.lt_size e)) e
  exact h pins _ σ H xs _ Q I1 (by simpa using rv) hw
/-- o[i] = .. -/
def gSub (to ti : TE) (t : TSet) : TG := fun v σ H Q => to σ H fun o H1 => ti σ H1 fun i H2 => t o i v H2 fun H3 => Q σ H3
theorem pg_sub {o i : Expr} {to ti : TE} {t : TSet} (ho : PE X o to) (hi : PE X i ti) (hs : PSet X t)
    (ha : ∀ v, assign (.Subscript o i pos) X.env v = (do
      let ov ← holding [v] (eval o X.env)
      let iv ← holding [v, ov] (eval i X.env)
      standAt pos
      holding [v, ov, iv] (setItem ov iv v)
      release [v, ov, iv] []) := by intro _; rfl) : PG X (.Subscript o i pos) (gSub to ti t) := by
  constructor
  intro pins s σ H v u Q I r h
  rw [ha]
  refine wpAny_bind (wpAny_holding (thn (ho pins s σ H _ I h) fun ov s1 ⟨x, H1, I1, r1, q1⟩ => ?_))
  refine wpAny_bind (wpAny_holding (thn (hi pins s1 σ H1 _ I1 q1) fun iv s2 ⟨y, H2, I2, r2, q2⟩ => ?_))
  refine wpAny_bind (wpAny_standAt (wpAny_bind (wpAny_holding (thn (hs pins s2 σ H2 x y v ov iv u _ I2 r1 r2 r q2) fun _ s3 ⟨H3, I3, q3⟩ => ?_))))
  exact wpAny_release ⟨σ, H3, I3, q3⟩
/-- target = value -/
def tAsg (te : TE) (g : TG) : TS := fun D σ H => te σ H fun x H1 => g x σ H1 D.nx
theorem ps_asg {tg e : Expr} {te : TE} {g : TG} (he : PE X e te) (hg : PG X tg g) (hs : swapsWithSole [tg] e pos.line X.env = pure false := by rfl) (hw : swappedStores [tg] e X.env = pure none := by rfl)
    (h1 : (assignEach [tg] X.env).map (·.2) = [assign tg X.env] := by rfl) : PS X (.Assign [tg] e pos) (tAsg te g) := by
  constructor
  intro pins s σ H D I h
  refine wpAny_Assign_stores (thn (he pins s σ H _ I h) fun v s1 ⟨x, H1, I1, r1, q1⟩ => ?_) hs hw
  rw [h1]
  exact thn (hg pins s1 σ H1 x v _ I1 r1 q1) fun _ s2 q => q
/-- name = value -/
theorem ps_set {i : Nat} {x : Str} {e : Expr} {te : TE} {pos' : Pos} (hN : X.N.Nodup) (hi : X.N[i]? = some x) (hx : Loc X.env.scope x) (he : PE X e te) (hs : swapsWith e (some (.Name x pos')) pos.line X.env = pure false := by rfl) (hf : X.fn x = true ∨ X.env.scope.names.lookup x = some .local := by first | exact .inl rfl | exact .inr rfl | assumption) :
    PS X (.Assign [.Name x pos'] e pos) (tAsg te (gName i)) := by
  constructor
  intro pins s σ H D I h
  refine wpAny_Assign_Name (thn (he pins s σ H _ I h) fun v s1 ⟨y, H1, I1, r1, q1⟩ => ?_) hs
  exact store_ok I1 hN hi hx r1 (fun s2 I2 => ⟨_, H1, I2, q1⟩) hf
end

/-! ### while -/
section
variable {X : Cx} {pos : Pos}
/-- the invariant W with its measure -/
def tWhile (c : TT) (tb : TS) : TS := fun D σ H => ∃ W : Nat → St → Hp → Prop, (∃ m, W m σ H) ∧ ∀ m σ H, W m σ H →
  c σ H fun b H1 => if b = true then ∃ N : St → Hp → Prop, (∀ σ' H', N σ' H' → ∃ m', m' < m ∧ W m' σ' H') ∧ tb { D with nx := N, ct := N, bk := D.nx } σ H1 else D.nx σ H1
theorem ps_while {c : Expr} {body : List Stmt} {tc : TT} {tb : TS} (hp : PassesOwn (model X.prog X.w) X.A X.env X.xe) (hc : PT X c tc) (hb : PSs X body tb) : PS X (.While c body [] pos) (tWhile tc tb) := by
  constructor
  intro pins s σ H D I h
  obtain ⟨W, ⟨m0, w0⟩, turn⟩ := h
  refine wpAny_While (codeAny_whileLoop (fun n s' => ∃ σ' H', Inv X pins σ' H' s' ∧ W n σ' H') ?_ m0 ⟨σ, H, I, w0⟩)
  rintro n s1 ⟨σ1, H1, I1, w1⟩
  refine wpAny_passesOwn hp (thn (hc pins s1 σ1 H1 _ I1 (turn n σ1 H1 w1)) fun b s2 ⟨H2, I2, q2⟩ => ?_)
  cases b with
  | true =>
    obtain ⟨N, hN, q2⟩ := q2
    rw [if_pos rfl]
    refine wpAny_passesOwn hp (thn (hb pins s2 σ1 H2 _ I2 q2) fun f s3 q3 => ?_)
    cases f with
    | next =>
      obtain ⟨σ3, H3, I3, n3⟩ := q3
      obtain ⟨m', hm, w3⟩ := hN σ3 H3 n3
      exact ⟨m', hm, σ3, H3, I3, w3⟩
    | cont =>
      obtain ⟨σ3, H3, I3, n3⟩ := q3
      obtain ⟨m', hm, w3⟩ := hN σ3 H3 n3
      exact ⟨m', hm, σ3, H3, I3, w3⟩
    | brk => exact q3
    | ret v => exact q3
  | false =>
    rw [if_neg Bool.false_ne_true]
    exact wpAny_execs_nil ⟨σ1, H2, I2, q2⟩
end

/-! ### what a loop or a comprehension walks -/
/-- at turn i: it yields x (the heap may grow), or it stops -/
structure It where
  go : Nat → Hp → Prop
  yld : Nat → Hp → V → Hp → Prop
  stop : Nat → Hp → Prop
/-- the iterator's own objects may turn: they are not the frame's, not pinned, younger than the entry (or a comprehension's own) -/
def FpOk (X : Cx) (pins : List (Addr × Obj)) (H : Hp) (b : Addr) : Prop :=
  H b = none ∧ b ≠ X.env.locals ∧ b ∉ X.fs ∧ (b ∈ X.ex ∨ X.s_0.heap.objs.size ≤ b) ∧ (∀ x c, X.env.cells.lookup x = some c → c ≠ b) ∧ ∀ p ∈ X.pn ++ pins, p.1 ≠ b
theorem Inv.fpOk {X : Cx} {pins : List (Addr × Obj)} {σ : St} {H H' : Hp} {s : Shared} {b : Addr} (I : Inv X pins σ H s) (hb : s.heap.objs.size ≤ b) (hn : H' b = none) : FpOk X pins H' b := by
  refine ⟨hn, Nat.ne_of_gt (Nat.lt_of_lt_of_le I.lt hb), I.nofs hb, .inr (Nat.le_trans I.sz hb), fun x c e z => ?_, fun p hp z => ?_⟩
  · obtain ⟨v, q⟩ := I.cell x c e
    exact absurd (Nat.lt_of_lt_of_le q.lt (by rw [z]; exact hb)) (Nat.lt_irrefl _)
  · exact absurd (Nat.lt_of_lt_of_le (Heap.lt_size (I.pin p hp).1) (by rw [z]; exact hb)) (Nat.lt_irrefl _)
structure Turn (P : Program) (w : World) (K : PySem.W.Frag) (tg : Expr) (J : It) (fp : List Addr) (it : Addr) (tn : Nat → Heap → Prop) : Prop where
  mem : it ∈ fp
  obj : ∀ i h, tn i h → ∀ b ∈ fp, ∃ o, h.get? b = some o ∧ ∀ v, o.data ≠ .cell v
  keep : ∀ i h h', tn i h → (∀ b ∈ fp, ∀ o, h.get? b = some o → h'.get? b = some o) → tn i h'
  item : ∀ (X : Cx), X.prog = P → X.w = w → X.K = K → X.calm = true → ∀ (i : Nat) (pins : List (Addr × Obj)) (s : Shared) (σ : St) (H : Hp) (E : Value → Shared → Prop), Inv X pins σ H s → (∀ b ∈ fp, FpOk X pins H b) → tn i s.heap → J.go i H →
    wpAny (model P w) X.A (pyNext (.ref it)) (fun r s1 => ∃ u, r = some u ∧
      wpAny (model P w) X.A (letOwnedTupleGo tg (.ref it) u) (fun _ s2 => ∃ x H', Inv X pins σ H' s2 ∧ RelV x u ∧ J.yld i H x H' ∧ tn (i + 1) s2.heap ∧ ∀ b ∈ fp, H' b = none) E s1) E s
  done : ∀ (X : Cx), X.prog = P → X.w = w → X.K = K → X.calm = true → ∀ (i : Nat) (pins : List (Addr × Obj)) (s : Shared) (σ : St) (H : Hp) (E : Value → Shared → Prop), Inv X pins σ H s → (∀ b ∈ fp, FpOk X pins H b) → tn i s.heap → J.stop i H →
    wpAny (model P w) X.A (pyNext (.ref it)) (fun r s1 => r = none ∧ Inv X pins σ H s1) E s
  self : ∀ (A : Around) (i : Nat) (s : Shared) (Q : Value → Shared → Prop) (E : Value → Shared → Prop), tn i s.heap → Q (.ref it) s → wpAny (model P w) A (pyIter (.ref it)) Q E s
abbrev TI := St → Hp → (It → Hp → Prop) → Prop
/-- an iterator has come -/
def PIE (X : Cx) (pins : List (Addr × Obj)) (σ : St) (tg : Expr) (R : It → Hp → Prop) (itv : Value) (s2 : Shared) : Prop :=
  ∃ (it : Addr) (fp : List Addr) (tn : Nat → Heap → Prop) (J : It) (H' : Hp), itv = .ref it ∧ Inv X pins σ H' s2 ∧ Turn X.prog X.w X.K tg J fp it tn ∧ tn 0 s2.heap ∧ (∀ b ∈ fp, FpOk X pins H' b) ∧ R J H'
structure PI (X : Cx) (tg iter : Expr) (wi : TI) : Prop where
  run : ∀ (pins : List (Addr × Obj)) (s : Shared) (σ : St) (H : Hp) (R : It → Hp → Prop), Inv X pins σ H s → wi σ H R →
    wpAny (model X.prog X.w) X.A (eval iter X.env) (fun v s1 => wpAny (model X.prog X.w) X.A (pyIter v) (PIE X pins σ tg R) X.xe s1) X.xe s
instance {X : Cx} {tg iter : Expr} {wi : TI} : CoeFun (PI X tg iter wi) (fun _ => ∀ (pins : List (Addr × Obj)) (s : Shared) (σ : St) (H : Hp) (R : It → Hp → Prop), Inv X pins σ H s → wi σ H R →
    wpAny (model X.prog X.w) X.A (eval iter X.env) (fun v s1 => wpAny (model X.prog X.w) X.A (pyIter v) (PIE X pins σ tg R) X.xe s1) X.xe s) := ⟨PI.run⟩
/-- the step ahead of the store is nothing for an iterator that keeps no tuple -/
theorem go_of {M : Model} {A : Around} {E : Value → Shared → Prop} {s : Shared} {tg : Expr} {it : Addr} {u : Value} {o : Obj} {n : String} {vs : Array Value} {Q : Unit → Shared → Prop} (ho : s.heap.get? it = some o) (hc : o.cls = .type n) (hd : o.data = .fields vs)
    (hn : ["enumerate", "zip", "dict_itemiterator", "dict_reverseitemiterator", "odict_iterator", "itertools.zip_longest", "itertools.pairwise"].contains n = false) (hQ : Q () s) : wpAny M A (letOwnedTupleGo tg (.ref it) u) Q E s := by
  unfold letOwnedTupleGo
  cases tg <;> first
    | exact wpAny_pure hQ
    | (cases u <;> first
        | exact wpAny_pure hQ
        | (refine wpAny_bind (wpAny_load ho ?_)
           rw [hc, hd]
           show wpAny M A (if (["enumerate", "zip", "dict_itemiterator", "dict_reverseitemiterator", "odict_iterator", "itertools.zip_longest", "itertools.pairwise"].contains n && vs[0]? == some (rawInt _)) = true then _ else _) Q E s
           rw [if_neg (by intro h; rw [hn, Bool.false_and] at h; cases h)]
           exact wpAny_pure hQ))

/-- the list at a, as it stands at each turn (a loop may append to it) -/
def Itl (K : PySem.W.Frag) (a : Addr) : It :=
  ⟨fun i H => ∃ xs x, SqL K H a xs ∧ xs[i]? = some x, fun i H x H' => H' = H ∧ ∀ xs, SqL K H a xs → xs[i]? = some x, fun i H => ∃ xs, SqL K H a xs ∧ xs.length ≤ i⟩
def Itt (K : PySem.W.Frag) (a : Addr) : It :=
  ⟨fun i H => ∃ xs x, SqT K H a xs ∧ xs[i]? = some x, fun i H x H' => H' = H ∧ ∀ xs, SqT K H a xs → xs[i]? = some x, fun i H => ∃ xs, SqT K H a xs ∧ xs.length ≤ i⟩
/-- lo, lo + 1, .. (n of them) -/
def Itr (lo : Int) (n : Nat) : It := ⟨fun i _ => i < n, fun i H x H' => H' = H ∧ x = .int (lo + i), fun i _ => n ≤ i⟩
theorem turn_list {P : Program} {w : World} {K : PySem.W.Frag} {tg : Expr} (a it : Addr) : Turn P w K tg (Itl K a) [it] it (fun i h => h.IsListIter it a i) where
  mem := by simp
  obj := fun i h st b hb => by
    have e : b = it := by simpa using hb
    subst e
    obtain ⟨o, e, c, d⟩ := st
    exact ⟨o, e, fun v z => by rw [d] at z; cases z⟩
  keep := fun i h h' st k => st.at fun o e => k it (by simp) o e
  item := by
    intro X hP hw hK hc i pins s σ H E I hf st hg
    subst hP hw hK
    obtain ⟨xs, x, hq, hx⟩ := hg
    obtain ⟨its, rv, p, hz⟩ := I.list hq
    obtain ⟨u, hu, ru⟩ := rv.get hx
    obtain ⟨f0, f1, f2, f3, f4, f5⟩ := hf it (by simp)
    refine wpAny_pyNext_list_item st p.isList (x := u) (by simpa using hu) fun h' st' sb => ?_
    have I1 : Inv X pins σ H { s with heap := h' } := I.turned (t' := s.toks) (fun b o hb e => (sb.2 b hb).trans e) f0 f1 f3 f4 f5
    obtain ⟨o, e, c, d⟩ := id st'
    exact ⟨u, rfl, go_of (s := { s with heap := h' }) e c d (by decide) ⟨x, H, I1, ru, ⟨rfl, fun ys hy => by rw [I.list_inj hy hq]; exact hx⟩, st', fun b hb => (hf b hb).1⟩⟩
  done := by
    intro X hP hw hK hc i pins s σ H E I hf st hg
    subst hP hw hK
    obtain ⟨xs, hq, hx⟩ := hg
    obtain ⟨its, rv, p, hz⟩ := I.list hq
    obtain ⟨f0, f1, f2, f3, f4, f5⟩ := hf it (by simp)
    have hl := rv.length
    exact wpAny_pyNext_list_end (I.ok.hd hc) st p.isList (by simp; omega) fun h' eb => ⟨rfl, I.turned (t' := s.toks) (fun b o hb e => eb b o hb e) f0 f1 f3 f4 f5⟩
  self := fun _ _ _ _ _ st h => wpAny_pyIter_listiter st h
theorem turn_tuple {P : Program} {w : World} {K : PySem.W.Frag} {tg : Expr} (a it : Addr) : Turn P w K tg (Itt K a) [it] it (fun i h => h.IsTupleIter it a i) where
  mem := by simp
  obj := fun i h st b hb => by
    have e : b = it := by simpa using hb
    subst e
    obtain ⟨o, e, c, d⟩ := st
    exact ⟨o, e, fun v z => by rw [d] at z; cases z⟩
  keep := fun i h h' st k => st.at fun o e => k it (by simp) o e
  item := by
    intro X hP hw hK hc i pins s σ H E I hf st hg
    subst hP hw hK
    obtain ⟨xs, x, hq, hx⟩ := hg
    obtain ⟨its, rv, p, hz⟩ := I.tuple hq
    obtain ⟨u, hu, ru⟩ := rv.get hx
    obtain ⟨f0, f1, f2, f3, f4, f5⟩ := hf it (by simp)
    refine wpAny_pyNext_tuple_item st (show s.heap.IsTuple a its.toArray from p) (x := u) (by simpa using hu) fun h' st' sb => ?_
    have I1 : Inv X pins σ H { s with heap := h' } := I.turned (t' := s.toks) (fun b o hb e => (sb.2 b hb).trans e) f0 f1 f3 f4 f5
    obtain ⟨o, e, c, d⟩ := id st'
    exact ⟨u, rfl, go_of (s := { s with heap := h' }) e c d (by decide) ⟨x, H, I1, ru, ⟨rfl, fun ys hy => by rw [I.tuple_inj hy hq]; exact hx⟩, st', fun b hb => (hf b hb).1⟩⟩
  done := by
    intro X hP hw hK hc i pins s σ H E I hf st hg
    subst hP hw hK
    obtain ⟨xs, hq, hx⟩ := hg
    obtain ⟨its, rv, p, hz⟩ := I.tuple hq
    obtain ⟨f0, f1, f2, f3, f4, f5⟩ := hf it (by simp)
    have hl := rv.length
    exact wpAny_pyNext_tuple_end (I.ok.hd hc) st (show s.heap.IsTuple a its.toArray from p) (by simp; omega) fun h' eb => ⟨rfl, I.turned (t' := s.toks) (fun b o hb e => eb b o hb e) f0 f1 f3 f4 f5⟩
  self := fun _ _ _ _ _ st h => wpAny_pyIter_tupleiter st h
theorem turn_range {P : Program} {w : World} {K : PySem.W.Frag} {tg : Expr} (it : Addr) (lo : Int) (n : Nat) : Turn P w K tg (Itr lo n) [it] it (fun i h => IsRangeIter h it (lo + (i : Nat) * 1) ((n : Int) - (i : Nat)) 1) where
  mem := by simp
  obj := fun i h st b hb => by
    have e : b = it := by simpa using hb
    subst e
    exact ⟨_, st, fun v z => by
      have z' : Data.fields _ = Data.cell v := z
      cases z'⟩
  keep := fun i h h' st k => k it (by simp) _ st
  item := by
    intro X hP hw hK hc i pins s σ H E I hf st hg
    subst hP hw hK
    obtain ⟨f0, f1, f2, f3, f4, f5⟩ := hf it (by simp)
    have W := Walks.range (prog := X.prog) (w := X.w) (I.ok.hd hc) it lo 1 n
    refine W.item i s _ _ hg st fun v h' tk hv st' kk => ?_
    obtain ⟨t, rfl⟩ := hv
    have I1 : Inv X pins σ H { s with heap := h', toks := tk } := I.turned (fun b o hb e => kk b o (by simpa using hb) e) f0 f1 f3 f4 f5
    refine ⟨_, rfl, go_of (s := { s with heap := h', toks := tk }) (n := "range_iterator") st' rfl rfl (by decide) ⟨.int (lo + i), H, I1, ⟨t, ?_⟩, ⟨rfl, rfl⟩, st', fun b hb => (hf b hb).1⟩⟩
    rw [Int.mul_one]
  done := by
    intro X hP hw hK hc i pins s σ H E I hf st hg
    subst hP hw hK
    obtain ⟨f0, f1, f2, f3, f4, f5⟩ := hf it (by simp)
    exact wpAny_pyNext_range_end (I.ok.hd hc) st (by have : n ≤ i := hg; omega) fun h' eb => ⟨rfl, I.turned (t' := s.toks) (fun b o hb e => eb b o hb e) f0 f1 f3 f4 f5⟩
  self := fun _ _ _ _ _ st h => wpAny_pyIter_rangeiter st h
end L2

namespace L2
open PySem PySem.Spec PyProof.Rows
section
variable {X : Cx} {tg : Expr}
def iList (K : PySem.W.Frag) (tl : TE) : TI := fun σ H R => tl σ H fun x H1 => ∃ a, x = .ref a ∧ (∃ xs, SqL K H1 a xs) ∧ R (Itl K a) H1
def iTup (K : PySem.W.Frag) (tl : TE) : TI := fun σ H R => tl σ H fun x H1 => ∃ a, x = .ref a ∧ (∃ xs, SqT K H1 a xs) ∧ R (Itt K a) H1
theorem pi_list {l : Expr} {tl : TE} (hl : PE X l tl) : PI X tg l (iList X.K tl) := by
  constructor
  intro pins s σ H R I h
  refine thn (hl pins s σ H _ I h) fun v s1 ⟨x, H1, I1, r1, q1⟩ => ?_
  obtain ⟨a, e, ⟨xs, hq⟩, q⟩ := q1
  subst e
  cases r1
  obtain ⟨its, rv, p, hz⟩ := I1.list hq
  refine wpAny_pyIter_list p.isList ?_
  refine ⟨s1.heap.objs.size, [s1.heap.objs.size], _, _, H1, rfl, I1.kept (t' := s1.toks) fun b o e => Heap.get?_push_of_some _ e, turn_list a _, ⟨_, Heap.get?_push_size _ rfl, rfl, rfl⟩, fun b hb => ?_, q⟩
  have e : b = s1.heap.objs.size := by simpa using hb
  subst e
  exact I1.fpOk (Nat.le_refl _) (I1.hok.fresh (Nat.le_refl _))
theorem pi_tup {l : Expr} {tl : TE} (hl : PE X l tl) : PI X tg l (iTup X.K tl) := by
  constructor
  intro pins s σ H R I h
  refine thn (hl pins s σ H _ I h) fun v s1 ⟨x, H1, I1, r1, q1⟩ => ?_
  obtain ⟨a, e, ⟨xs, hq⟩, q⟩ := q1
  subst e
  cases r1
  obtain ⟨its, rv, p, hz⟩ := I1.tuple hq
  refine wpAny_pyIter_tuple (show s1.heap.IsTuple a its.toArray from p) ?_
  refine ⟨s1.heap.objs.size, [s1.heap.objs.size], _, _, H1, rfl, I1.kept (t' := s1.toks) fun b o e => Heap.get?_push_of_some _ e, turn_tuple a _, ⟨_, Heap.get?_push_size _ rfl, rfl, rfl⟩, fun b hb => ?_, q⟩
  have e : b = s1.heap.objs.size := by simpa using hb
  subst e
  exact I1.fpOk (Nat.le_refl _) (I1.hok.fresh (Nat.le_refl _))
/-- a range object just made, walked -/
theorem range_it {pins : List (Addr × Obj)} {σ : St} {H : Hp} {s : Shared} {R : It → Hp → Prop} {E : Value → Shared → Prop} {lo hi : Int} {t u v : Tok} {tk : Nat} (I : Inv X pins σ H s) (h1 : -(2 ^ 62) ≤ lo) (h2 : lo < 2 ^ 62) (h3 : -(2 ^ 62) ≤ hi) (h4 : hi < 2 ^ 62)
    (q : R (Itr lo (hi - lo).toNat) H) : wpAny (model X.prog X.w) X.A (pyIter (.ref s.heap.objs.size)) (PIE X pins σ tg R) E { s with heap := s.heap.push { cls := .type "range", data := .fields #[.int lo t, .int hi u, .int 1 v] }, toks := tk } := by
  refine wpAny_pyIter_range (IsRange.new ..) (small_one h1 h2 h3 h4) ?_
  have I1 : Inv X pins σ H { s with heap := s.heap.push { cls := .type "range", data := .fields #[.int lo t, .int hi u, .int 1 v] }, toks := tk } := I.kept fun b o e => Heap.get?_push_of_some _ e
  refine ⟨(s.heap.push { cls := .type "range", data := .fields #[.int lo t, .int hi u, .int 1 v] }).objs.size, [(s.heap.push { cls := .type "range", data := .fields #[.int lo t, .int hi u, .int 1 v] }).objs.size], _, _, H, rfl,
    I1.kept (t' := tk) fun b o e => Heap.get?_push_of_some _ e, turn_range _ lo (hi - lo).toNat, ?_, fun b hb => ?_, q⟩
  · have e1 : lo + ((0 : Nat) : Int) * 1 = lo := by simp
    have e2 : (((hi - lo).toNat : Nat) : Int) - ((0 : Nat) : Int) = Builtin.Range.rangeSize lo hi 1 := by rw [rangeSize_one]; split <;> omega
    show IsRangeIter _ _ (lo + ((0 : Nat) : Int) * 1) ((((hi - lo).toNat : Nat) : Int) - ((0 : Nat) : Int)) 1
    rw [e1, e2]
    exact Heap.get?_push_size _ rfl
  · have e : b = (s.heap.push { cls := .type "range", data := .fields #[.int lo t, .int hi u, .int 1 v] }).objs.size := by simpa using hb
    subst e
    exact I1.fpOk (Nat.le_refl _) (I1.hok.fresh (Nat.le_refl _))
def iRng1 (ta : TA) : TI := fun σ H R => ta σ H fun vs H1 => ∃ j : Int, vs = [.int j] ∧ -(2 ^ 62) ≤ j ∧ j < 2 ^ 62 ∧ R (Itr 0 j.toNat) H1
def iRng2 (ta : TA) : TI := fun σ H R => ta σ H fun vs H1 => ∃ i j : Int, vs = [.int i, .int j] ∧ (-(2 ^ 62) ≤ i ∧ i < 2 ^ 62 ∧ -(2 ^ 62) ≤ j ∧ j < 2 ^ 62) ∧ R (Itr i (j - i).toNat) H1
theorem pi_range1 {a : Expr} {ta : TA} {p pos : Pos} (hg : Gl X "range") (hm : X.mg "range" = none) (ha : PA X [a] ta) (hs : starEach [a] X.env = [(false, eval a X.env)] := by rfl) : PI X tg (.Call (.Name "range" p) [a] [] pos) (iRng1 ta) := by
  constructor
  intro pins s σ H R I h
  refine Call_ (ld_blt I hg hm boot_range (PyProof.Rows.callWith_type1 (thn (ha pos pins s σ H _ I h) fun us s1 ⟨vs, H1, I1, r1, q1⟩ => ?_) hs rfl))
  obtain ⟨j, e, q1, q2, q⟩ := q1
  subst e
  cases r1 with
  | cons r rr =>
    cases rr
    obtain ⟨t, rfl⟩ := r
    exact call_range_1 (range_it I1 (by omega) (by omega) q1 q2 (by simpa using q))
theorem pi_range2 {a b : Expr} {ta : TA} {p pos : Pos} (hg : Gl X "range") (hm : X.mg "range" = none) (ha : PA X [a, b] ta) (hs : starEach [a, b] X.env = [(false, eval a X.env), (false, eval b X.env)] := by rfl) (hs2 : starEach [b] X.env = [(false, eval b X.env)] := by rfl) :
    PI X tg (.Call (.Name "range" p) [a, b] [] pos) (iRng2 ta) := by
  constructor
  intro pins s σ H R I h
  refine Call_ (ld_blt I hg hm boot_range (PyProof.Rows.callWith_type1 (thn (ha pos pins s σ H _ I h) fun us s1 ⟨vs, H1, I1, r1, q1⟩ => ?_) (by rw [hs, hs2]) (by rw [hs2]; rfl)))
  obtain ⟨i, j, e, ⟨q1, q2, q3, q4⟩, q⟩ := q1
  subst e
  cases r1 with
  | cons r rr =>
    cases rr with
    | cons r' rr =>
      cases rr
      obtain ⟨t, rfl⟩ := r
      obtain ⟨t', rfl⟩ := r'
      exact call_range_2 (range_it I1 q1 q2 q3 q4 q)

/-! ### for -/
/-- W: the invariant by the turn and a measure; N: what the body is to reach -/
def tFor (wi : TI) (g : TG) (tb : TS) : TS := fun D σ H => wi σ H fun J H1 => ∃ W : Nat → Nat → St → Hp → Prop, (∃ m, W 0 m σ H1) ∧ ∀ i m σ H, W i m σ H →
  (J.stop i H ∧ D.nx σ H) ∨ (J.go i H ∧ ∃ N : St → Hp → Prop, (∀ σ' H', N σ' H' → ∃ m', m' < m ∧ W (i + 1) m' σ' H') ∧ ∀ x H', J.yld i H x H' → g x σ H' fun σ2 H2 => tb { D with nx := N, ct := N, bk := D.nx } σ2 H2)
/-- the records at fp as they stand -/
def pinsAt (fp : List Addr) (h : Heap) : List (Addr × Obj) := fp.filterMap fun b => (h.get? b).map fun o => (b, o)
theorem mem_pinsAt {fp : List Addr} {h : Heap} {b : Addr} {o : Obj} (hb : b ∈ fp) (e : h.get? b = some o) : (b, o) ∈ pinsAt fp h := List.mem_filterMap.mpr ⟨b, hb, by rw [e]; rfl⟩
theorem of_pinsAt {fp : List Addr} {h : Heap} {p : Addr × Obj} (hp : p ∈ pinsAt fp h) : p.1 ∈ fp ∧ h.get? p.1 = some p.2 := by
  obtain ⟨b, hb, e⟩ := List.mem_filterMap.mp hp
  cases q : h.get? b with
  | none => rw [q] at e; cases e
  | some o =>
    rw [q] at e
    have e' : (b, o) = p := Option.some.inj e
    subst e'
    exact ⟨hb, q⟩
theorem Inv.pinned {pins : List (Addr × Obj)} {σ : St} {H : Hp} {s : Shared} {fp : List Addr} (I : Inv X pins σ H s) (hf : ∀ b ∈ fp, FpOk X pins H b) (ho : ∀ b ∈ fp, ∃ o, s.heap.get? b = some o ∧ ∀ v, o.data ≠ .cell v) : Inv X (pins ++ pinsAt fp s.heap) σ H s :=
  I.pins_of fun p hp => (List.mem_append.mp hp).elim (fun z => I.pin p (List.mem_append_right _ z)) fun z => by
    obtain ⟨hb, e⟩ := of_pinsAt z
    obtain ⟨f0, f1, f2, _⟩ := hf p.1 hb
    obtain ⟨o, e', d⟩ := ho p.1 hb
    rw [e] at e'; cases e'
    exact ⟨e, f0, f1, f2, d⟩
theorem Inv.unpinned {pins pl : List (Addr × Obj)} {σ : St} {H : Hp} {s : Shared} (I : Inv X (pins ++ pl) σ H s) : Inv X pins σ H s := I.pins_of fun p hp => I.pin p (List.mem_append_right _ (List.mem_append_left _ hp))
theorem ps_for {iter : Expr} {body : List Stmt} {wi : TI} {g : TG} {tb : TS} {pos : Pos} (hp : PassesOwn (model X.prog X.w) X.A X.env X.xe) (hc : X.calm = true) (hi : PI X tg iter wi) (hg : PG X tg g) (hb : PSs X body tb)
    (hs : ∀ x, foldedSetIterable iter X.env x = pure x := by intro _; rfl) : PS X (.For tg iter body [] pos) (tFor wi g tb) := by
  constructor
  intro pins s σ H D I h
  refine wpAny_For (thn (hi pins s σ H _ I h) fun v s1 h1 => thn h1 fun itv s2 h2 => ?_) hs
  obtain ⟨it, fp, tn, J, H2, e, I2, T, st2, f2, W, ⟨m0, w0⟩, turn⟩ := h2
  subst e
  -- what stays true of the iterator's objects through the loop
  have stat : ∀ {H' : Hp}, (∀ b ∈ fp, H' b = none) → ∀ b ∈ fp, FpOk X pins H' b := fun hn b hb => ⟨hn b hb, (f2 b hb).2⟩
  refine codeAny_forLoop_any (fun n s' => ∃ i σ' H', Inv X pins σ' H' s' ∧ tn i s'.heap ∧ (∀ b ∈ fp, H' b = none) ∧ W i n σ' H') ?_ m0 ⟨0, σ, H2, I2, st2, fun b hb => (f2 b hb).1, w0⟩
  rintro n s3 ⟨i, σ3, H3, I3, st3, fr3, w3⟩
  rcases turn i n σ3 H3 w3 with ⟨stop, qn⟩ | ⟨go, N, hN, step⟩
  · refine wpAny_passesOwn hp (thn (T.done X rfl rfl rfl hc i pins s3 σ3 H3 X.xe I3 (stat fr3) st3 stop) fun r s4 ⟨hr, I4⟩ => ?_)
    subst hr
    exact wpAny_execs_nil ⟨σ3, H3, I4, qn⟩
  · refine wpAny_passesOwn hp (thn (T.item X rfl rfl rfl hc i pins s3 σ3 H3 X.xe I3 (stat fr3) st3 go) fun r s4 ⟨u, hr, h4⟩ => ?_)
    subst hr
    refine wpAny_passesOwn hp (thn h4 fun _ s5 ⟨x, H5, I5, r5, y5, st5, fr5⟩ => ?_)
    have I5' := I5.pinned (stat fr5) (T.obj _ _ st5)
    refine wpAny_passesOwn hp (thn (hg _ s5 σ3 H5 x u _ I5' r5 (step x H5 y5)) fun _ s6 ⟨σ6, H6, I6, q6⟩ => ?_)
    refine wpAny_passesOwn hp (thn (hb _ s6 σ6 H6 _ I6 q6) fun f s7 q7 => ?_)
    have again : ∀ {σ7 : St} {H7 : Hp}, Inv X (pins ++ pinsAt fp s5.heap) σ7 H7 s7 → N σ7 H7 → ∃ m, m < n ∧ ∃ i σ' H', Inv X pins σ' H' s7 ∧ tn i s7.heap ∧ (∀ b ∈ fp, H' b = none) ∧ W i m σ' H' := fun {σ7 H7} I7 n7 => by
      obtain ⟨m', hm, w7⟩ := hN σ7 H7 n7
      refine ⟨m', hm, i + 1, σ7, H7, I7.unpinned, T.keep _ _ _ st5 fun b hb o e => (I7.pin (b, o) (List.mem_append_right _ (List.mem_append_right _ (mem_pinsAt hb e)))).1, fun b hb => ?_, w7⟩
      obtain ⟨o, e, d⟩ := T.obj _ _ st5 b hb
      exact (I7.pin (b, o) (List.mem_append_right _ (List.mem_append_right _ (mem_pinsAt hb e)))).2.1
    cases f with
    | next => obtain ⟨σ7, H7, I7, n7⟩ := q7; exact again I7 n7
    | cont => obtain ⟨σ7, H7, I7, n7⟩ := q7; exact again I7 n7
    | brk => obtain ⟨σ7, H7, I7, q7⟩ := q7; exact ⟨σ7, H7, I7.unpinned, q7⟩
    | ret v => obtain ⟨x7, σ7, H7, I7, r7, q7⟩ := q7; exact ⟨x7, σ7, H7, I7.unpinned, r7, q7⟩
end

/-! ### the forms one uses -/
/-- over a list that the body leaves as it is -/
theorem for_list {K : PySem.W.Frag} {a : Addr} {xs : List V} {g : TG} {tb : TS} {D : Ends} {σ : St} {H : Hp} (Pv : Nat → St → Hp → Prop) (h0 : Pv 0 σ H) (hl : ∀ i σ H, i ≤ xs.length → Pv i σ H → SqL K H a xs)
    (hs : ∀ i x σ H, xs[i]? = some x → Pv i σ H → g x σ H fun σ2 H2 => tb { D with nx := Pv (i + 1), ct := Pv (i + 1), bk := D.nx } σ2 H2) (hd : ∀ σ H, Pv xs.length σ H → D.nx σ H) :
    ∃ W : Nat → Nat → St → Hp → Prop, (∃ m, W 0 m σ H) ∧ ∀ i m σ H, W i m σ H →
      ((Itl K a).stop i H ∧ D.nx σ H) ∨ ((Itl K a).go i H ∧ ∃ N : St → Hp → Prop, (∀ σ' H', N σ' H' → ∃ m', m' < m ∧ W (i + 1) m' σ' H') ∧ ∀ x H', (Itl K a).yld i H x H' → g x σ H' fun σ2 H2 => tb { D with nx := N, ct := N, bk := D.nx } σ2 H2) := by
  refine ⟨fun i m σ H => m = xs.length - i ∧ i ≤ xs.length ∧ Pv i σ H, ⟨xs.length, by simp, Nat.zero_le _, h0⟩, ?_⟩
  rintro i m σ H ⟨rfl, hi, p⟩
  have q := hl i σ H hi p
  by_cases hlt : i < xs.length
  · refine .inr ⟨⟨xs, xs[i], q, by simp [hlt]⟩, Pv (i + 1), fun σ' H' p' => ⟨xs.length - (i + 1), by omega, rfl, hlt, p'⟩, fun x H' y => ?_⟩
    obtain ⟨e, y⟩ := y
    subst e
    exact hs i x σ _ (y xs q) p
  · have e : i = xs.length := by omega
    subst e
    exact .inl ⟨⟨xs, q, Nat.le_refl _⟩, hd σ H p⟩
theorem for_tup {K : PySem.W.Frag} {a : Addr} {xs : List V} {g : TG} {tb : TS} {D : Ends} {σ : St} {H : Hp} (Pv : Nat → St → Hp → Prop) (h0 : Pv 0 σ H) (hl : ∀ i σ H, i ≤ xs.length → Pv i σ H → SqT K H a xs)
    (hs : ∀ i x σ H, xs[i]? = some x → Pv i σ H → g x σ H fun σ2 H2 => tb { D with nx := Pv (i + 1), ct := Pv (i + 1), bk := D.nx } σ2 H2) (hd : ∀ σ H, Pv xs.length σ H → D.nx σ H) :
    ∃ W : Nat → Nat → St → Hp → Prop, (∃ m, W 0 m σ H) ∧ ∀ i m σ H, W i m σ H →
      ((Itt K a).stop i H ∧ D.nx σ H) ∨ ((Itt K a).go i H ∧ ∃ N : St → Hp → Prop, (∀ σ' H', N σ' H' → ∃ m', m' < m ∧ W (i + 1) m' σ' H') ∧ ∀ x H', (Itt K a).yld i H x H' → g x σ H' fun σ2 H2 => tb { D with nx := N, ct := N, bk := D.nx } σ2 H2) := by
  refine ⟨fun i m σ H => m = xs.length - i ∧ i ≤ xs.length ∧ Pv i σ H, ⟨xs.length, by simp, Nat.zero_le _, h0⟩, ?_⟩
  rintro i m σ H ⟨rfl, hi, p⟩
  have q := hl i σ H hi p
  by_cases hlt : i < xs.length
  · refine .inr ⟨⟨xs, xs[i], q, by simp [hlt]⟩, Pv (i + 1), fun σ' H' p' => ⟨xs.length - (i + 1), by omega, rfl, hlt, p'⟩, fun x H' y => ?_⟩
    obtain ⟨e, y⟩ := y
    subst e
    exact hs i x σ _ (y xs q) p
  · have e : i = xs.length := by omega
    subst e
    exact .inl ⟨⟨xs, q, Nat.le_refl _⟩, hd σ H p⟩
theorem for_range {lo : Int} {n : Nat} {g : TG} {tb : TS} {D : Ends} {σ : St} {H : Hp} (Pv : Nat → St → Hp → Prop) (h0 : Pv 0 σ H)
    (hs : ∀ i σ H, i < n → Pv i σ H → g (.int (lo + i)) σ H fun σ2 H2 => tb { D with nx := Pv (i + 1), ct := Pv (i + 1), bk := D.nx } σ2 H2) (hd : ∀ σ H, Pv n σ H → D.nx σ H) :
    ∃ W : Nat → Nat → St → Hp → Prop, (∃ m, W 0 m σ H) ∧ ∀ i m σ H, W i m σ H →
      ((Itr lo n).stop i H ∧ D.nx σ H) ∨ ((Itr lo n).go i H ∧ ∃ N : St → Hp → Prop, (∀ σ' H', N σ' H' → ∃ m', m' < m ∧ W (i + 1) m' σ' H') ∧ ∀ x H', (Itr lo n).yld i H x H' → g x σ H' fun σ2 H2 => tb { D with nx := N, ct := N, bk := D.nx } σ2 H2) := by
  refine ⟨fun i m σ H => m = n - i ∧ i ≤ n ∧ Pv i σ H, ⟨n, by simp, Nat.zero_le _, h0⟩, ?_⟩
  rintro i m σ H ⟨rfl, hi, p⟩
  by_cases hlt : i < n
  · refine .inr ⟨hlt, Pv (i + 1), fun σ' H' p' => ⟨n - (i + 1), by omega, rfl, hlt, p'⟩, fun x H' y => ?_⟩
    obtain ⟨e, y⟩ := y
    subst e y
    exact hs i σ _ hlt p
  · have e : i = n := by omega
    subst e
    exact .inl ⟨Nat.le_refl _, hd σ H p⟩
end L2

namespace L2
open PySem PySem.Spec PyProof.Rows

abbrev R2 := V → V → Hp → VK → Prop
/-- a two-place operation on values: f is binaryOp op, inplaceOp op or compareOp op -/
def OpR (X : Cx) (f : Value → Value → Sem Value) (r : R2) : Prop :=
  ∀ (pins : List (Addr × Obj)) (s : Shared) (σ : St) (H : Hp) (x y : V) (v u : Value) (Q : VK), Inv X pins σ H s → RelV x v → RelV y u → r x y H Q →
    wpAny (model X.prog X.w) X.A (f v u) (EP X pins σ Q) X.xe s
/-- a one-place operation -/
def UnR (X : Cx) (f : Value → Sem Value) (r : V → Hp → VK → Prop) : Prop :=
  ∀ (pins : List (Addr × Obj)) (s : Shared) (σ : St) (H : Hp) (x : V) (v : Value) (Q : VK), Inv X pins σ H s → RelV x v → r x H Q →
    wpAny (model X.prog X.w) X.A (f v) (EP X pins σ Q) X.xe s
/-- a call of a value that is known (a builtin, a type) with values -/
def CallR (X : Cx) (f : Value) (r : List V → Hp → VK → Prop) : Prop :=
  ∀ (pins : List (Addr × Obj)) (s : Shared) (σ : St) (H : Hp) (xs : List V) (us : List Value) (Q : VK), Inv X pins σ H s → Vals xs us → r xs H Q →
    wpAny (model X.prog X.w) X.A (call f us) (EP X pins σ Q) X.xe s
/-- a value's truth -/
def TruR (X : Cx) (r : V → Hp → (Bool → Hp → Prop) → Prop) : Prop :=
  ∀ (pins : List (Addr × Obj)) (s : Shared) (σ : St) (H : Hp) (x : V) (v : Value) (Q : Bool → Hp → Prop), Inv X pins σ H s → RelV x v → r x H Q →
    wpAny (model X.prog X.w) X.A (truthy v) (TP X pins σ Q) X.xe s

def tOp (r : R2) (ta tb : TE) : TE := fun σ H Q => ta σ H fun x H1 => tb σ H1 fun y H2 => r x y H2 Q
def tUn (r : V → Hp → VK → Prop) (ta : TE) : TE := fun σ H Q => ta σ H fun x H1 => r x H1 Q
/-- ints in, under C, and a value out -/
def rI (C : Int → Int → Prop) (g : Int → Int → V) : R2 := fun x y H Q => ∃ i j, x = .int i ∧ y = .int j ∧ C i j ∧ Q (g i j) H
def rI0 (g : Int → Int → V) : R2 := fun x y H Q => ∃ i j, x = .int i ∧ y = .int j ∧ Q (g i j) H
def rU (g : Int → V) : V → Hp → VK → Prop := fun x H Q => ∃ i, x = .int i ∧ Q (g i) H

section
variable {X : Cx} {a b c : Expr} {ta tb tc : TE} {pos : Pos}

theorem binT (ha : PE X a ta) (hb : PE X b tb) {pins : List (Addr × Obj)} {s : Shared} {σ : St} {H : Hp} {R : V → V → Hp → Prop} (I : Inv X pins σ H s)
    (h : ta σ H fun x H1 => tb σ H1 fun y H2 => R x y H2) {Q : Value → Shared → Prop} {f : Value → Value → Sem Value}
    (hf : ∀ v u s2 x y H2, Inv X pins σ H2 s2 → RelV x v → RelV y u → R x y H2 → wpAny (model X.prog X.w) X.A (f v u) Q X.xe s2) :
    wpAny (model X.prog X.w) X.A (eval a X.env) (fun v s₁ => wpAny (model X.prog X.w) X.A (eval b X.env) (fun u s₂ => wpAny (model X.prog X.w) X.A (f v u) Q X.xe s₂) X.xe s₁) X.xe s := by
  refine thn (ha pins s σ H _ I h) fun v s1 ⟨x, H1, I1, r1, q1⟩ => ?_
  refine thn (hb pins s1 σ H1 _ I1 q1) fun u s2 ⟨y, H2, I2, r2, q2⟩ => ?_
  exact hf v u s2 x y H2 I2 r1 r2 q2

theorem pe_op {op : Operator} {r : R2} (ho : OpR X (binaryOp op) r) (ha : PE X a ta) (hb : PE X b tb) : PE X (.BinOp a op b pos) (tOp r ta tb) := by
  constructor
  intro pins s σ H Q I h
  exact wpAny_BinOp (binT ha hb I h fun v u s2 x y H2 I2 rx ry q => ho pins s2 σ H2 x y v u Q I2 rx ry q)
theorem pe_un {op : UnaryOp} {r : V → Hp → VK → Prop} (ho : UnR X (unaryOp op) r) (ha : PE X a ta) : PE X (.UnaryOp op a pos) (tUn r ta) := by
  constructor
  intro pins s σ H Q I h
  exact UnaryOp_ (thn (ha pins s σ H _ I h) fun v s1 ⟨x, H1, I1, r1, q1⟩ => ho pins s1 σ H1 x v Q I1 r1 q1)
/-! ### ints -/
theorem opI {f : Value → Value → Sem Value} {C : Int → Int → Prop} {g : Int → Int → Int}
    (rule : ∀ (i j : Int) (t u : Tok) (s : Shared) (Q : Value → Shared → Prop) (E : Value → Shared → Prop), C i j → Q (.int (g i j) s.toks) { s with toks := s.toks + 1 } → wpAny (model X.prog X.w) X.A (f (.int i t) (.int j u)) Q E s) :
    OpR X f (rI C fun i j => .int (g i j)) := by
  intro pins s σ H x y v u Q I rx ry h
  obtain ⟨i, j, rfl, rfl, hc, q⟩ := h
  obtain ⟨t, rfl⟩ := rx
  obtain ⟨t', rfl⟩ := ry
  exact rule i j t t' s _ _ hc ⟨.int (g i j), H, I.tok _, ⟨_, rfl⟩, q⟩
theorem opI0 {f : Value → Value → Sem Value} {g : Int → Int → Int}
    (rule : ∀ (i j : Int) (t u : Tok) (s : Shared) (Q : Value → Shared → Prop) (E : Value → Shared → Prop), Q (.int (g i j) s.toks) { s with toks := s.toks + 1 } → wpAny (model X.prog X.w) X.A (f (.int i t) (.int j u)) Q E s) :
    OpR X f (rI0 fun i j => .int (g i j)) := by
  intro pins s σ H x y v u Q I rx ry h
  obtain ⟨i, j, rfl, rfl, q⟩ := h
  obtain ⟨t, rfl⟩ := rx
  obtain ⟨t', rfl⟩ := ry
  exact rule i j t t' s _ _ ⟨.int (g i j), H, I.tok _, ⟨_, rfl⟩, q⟩
theorem opB0 {f : Value → Value → Sem Value} {g : Int → Int → Bool}
    (rule : ∀ (i j : Int) (t u : Tok) (s : Shared) (Q : Value → Shared → Prop) (E : Value → Shared → Prop), Q (.bool (g i j)) s → wpAny (model X.prog X.w) X.A (f (.int i t) (.int j u)) Q E s) :
    OpR X f (rI0 fun i j => .bl (g i j)) := by
  intro pins s σ H x y v u Q I rx ry h
  obtain ⟨i, j, rfl, rfl, q⟩ := h
  obtain ⟨t, rfl⟩ := rx
  obtain ⟨t', rfl⟩ := ry
  exact rule i j t t' s _ _ ⟨.bl (g i j), H, I, rfl, q⟩

def CPow (i j : Int) : Prop := 0 ≤ j ∧ j ≤ 1000000 ∧ i.natAbs < 2 ^ 64
def CMul (i j : Int) : Prop := (-(2 ^ 64) < i ∧ i < 2 ^ 64) ∨ (-(2 ^ 64) < j ∧ j < 2 ^ 64)
theorem CMul.ok {i j : Int} (h : CMul i j) : IntMulOk i j := by
  rcases h with ⟨h1, h2⟩ | ⟨h1, h2⟩
  · exact .of_left (intBits_le_64 h1 h2)
  · exact .of_right (intBits_le_64 h1 h2)
theorem op_add : OpR X (binaryOp .Add) (rI0 fun i j => .int (i + j)) := opI0 fun _ _ _ _ _ _ _ q => add_int q
theorem op_sub : OpR X (binaryOp .Sub) (rI0 fun i j => .int (i - j)) := opI0 fun _ _ _ _ _ _ _ q => sub_int q
theorem op_mul : OpR X (binaryOp .Mult) (rI CMul fun i j => .int (i * j)) := opI fun _ _ _ _ _ _ _ hc q => mul_int q hc.ok
/-- % by a positive divisor of any size -/
theorem op_mod : OpR X (binaryOp .Mod) (rI (fun _ j => 0 < j) fun i j => .int (i % j)) := opI fun i j _ _ _ _ _ hc q => by
  have h1 : (0 : Int) < j := hc
  exact mod_int' (by omega) (by rw [Int.fmod_eq_emod_of_nonneg i (by omega)]; exact q)
theorem op_pow : OpR X (binaryOp .Pow) (rI CPow fun i j => .int (i ^ j.toNat)) := opI fun _ _ _ _ _ _ _ hc q => pow_int_small hc.1 hc.2.1 hc.2.2 q
theorem unI {f : Value → Sem Value} {g : Int → Int}
    (rule : ∀ (i : Int) (t : Tok) (s : Shared) (Q : Value → Shared → Prop) (E : Value → Shared → Prop), Q (.int (g i) s.toks) { s with toks := s.toks + 1 } → wpAny (model X.prog X.w) X.A (f (.int i t)) Q E s) :
    UnR X f (rU fun i => .int (g i)) := by
  intro pins s σ H x v Q I rx h
  obtain ⟨i, rfl, q⟩ := h
  obtain ⟨t, rfl⟩ := rx
  exact rule i t s _ _ ⟨.int (g i), H, I.tok _, ⟨_, rfl⟩, q⟩
theorem un_neg : UnR X (unaryOp .USub) (rU fun i => .int (-i)) := unI fun _ _ _ _ _ q => neg_int q
/-! ### bools among ints: n += (a < b) -/
end

/-! ### comparisons -/
/-- the scalars that == tells apart as data does -/
def scal : V → V → Bool
  | .non, .non => true | .non, .int _ => true | .int _, .non => true | .non, .bl _ => true | .bl _, .non => true | .non, .str _ => true | .str _, .non => true
  | .int _, .int _ => true | .bl _, .bl _ => true | .str _, .str _ => true | .byt _, .byt _ => true
  | .int _, .str _ => true | .str _, .int _ => true | .bl _, .str _ => true | .str _, .bl _ => true
  | _, _ => false
def rEq : R2 := fun x y H Q => scal x y = true ∧ Q (.bl (decide (x = y))) H
def rNe : R2 := fun x y H Q => scal x y = true ∧ Q (.bl (!decide (x = y))) H

theorem dec_int {i j : Int} : decide (V.int i = V.int j) = (i == j) := by
  rw [Bool.eq_iff_iff]
  simp
theorem dec_bl {i j : Bool} : decide (V.bl i = V.bl j) = (i == j) := by
  rw [Bool.eq_iff_iff]
  simp
theorem dec_str {i j : Str} : decide (V.str i = V.str j) = (i == j) := by
  rw [Bool.eq_iff_iff]
  simp
theorem dec_byt {i j : Array UInt8} : decide (V.byt i = V.byt j) = (i.toList == j.toList) := by
  rw [Bool.eq_iff_iff]
  cases i
  cases j
  simp

section
variable {X : Cx} {a b c : Expr} {ta tb tc : TE} {pos : Pos}
theorem fin_bl {pins : List (Addr × Obj)} {σ : St} {H : Hp} {s : Shared} {Q : VK} {k k' : Bool} (I : Inv X pins σ H s) (q : Q (.bl k) H) (e : k = k') : EP X pins σ Q (.bool k') s := by
  subst e
  exact ⟨.bl k, H, I, rfl, q⟩
theorem op_eq : OpR X (compareOp .Eq) rEq := by
  intro pins s σ H x y v u Q I rx ry h
  obtain ⟨hs, q⟩ := h
  cases x with
  | non =>
    cases rx
    cases y with
    | non => cases ry; exact PySem.EqNone.eq_none_none (fin_bl I q (by simp))
    | bl j => cases ry; exact PySem.EqNone.eq_none_bool (fin_bl I q (by simp))
    | int j => obtain ⟨t', rfl⟩ := ry; exact PySem.EqNone.eq_none_int (fin_bl I q (by simp))
    | str j => obtain ⟨t', rfl⟩ := ry; exact PySem.EqNone.eq_none_str (fin_bl I q (by simp))
    | _ => exact absurd (show false = true from hs) Bool.false_ne_true
  | bl i =>
    cases rx
    cases y with
    | non => cases ry; exact PySem.EqNone.eq_bool_none (fin_bl I q (by simp))
    | bl j => cases ry; exact eq_bool (fin_bl I q dec_bl)
    | str j => obtain ⟨t', rfl⟩ := ry; exact PySem.EqMixed.eq_bool_str (fin_bl I q (by simp))
    | _ => exact absurd (show false = true from hs) Bool.false_ne_true
  | int i =>
    obtain ⟨t, rfl⟩ := rx
    cases y with
    | non => cases ry; exact PySem.EqNone.eq_int_none (fin_bl I q (by simp))
    | int j => obtain ⟨t', rfl⟩ := ry; exact eq_int (fin_bl I q dec_int)
    | str j => obtain ⟨t', rfl⟩ := ry; exact PySem.EqMixed.eq_int_str (fin_bl I q (by simp))
    | _ => exact absurd (show false = true from hs) Bool.false_ne_true
  | str i =>
    obtain ⟨t, rfl⟩ := rx
    cases y with
    | non => cases ry; exact PySem.EqNone.eq_str_none (fin_bl I q (by simp))
    | bl j => cases ry; exact PySem.EqMixed.eq_str_bool (fin_bl I q (by simp))
    | int j => obtain ⟨t', rfl⟩ := ry; exact PySem.EqMixed.eq_str_int (fin_bl I q (by simp))
    | str j => obtain ⟨t', rfl⟩ := ry; exact eq_str (fin_bl I q dec_str)
    | _ => exact absurd (show false = true from hs) Bool.false_ne_true
  | byt i =>
    obtain ⟨t, rfl⟩ := rx
    cases y with
    | byt j => obtain ⟨t', rfl⟩ := ry; exact PySem.W.eq_bytes (fin_bl I q dec_byt)
    | _ => exact absurd (show false = true from hs) Bool.false_ne_true
  | _ => cases y <;> exact absurd (show false = true from hs) Bool.false_ne_true
theorem op_ne : OpR X (compareOp .NotEq) rNe := by
  intro pins s σ H x y v u Q I rx ry h
  obtain ⟨hs, q⟩ := h
  cases x with
  | non =>
    cases rx
    cases y with
    | non => cases ry; exact PySem.EqNone.ne_none_none (fin_bl I q (by simp))
    | bl j => cases ry; exact PySem.EqNone.ne_none_bool (fin_bl I q (by simp))
    | int j => obtain ⟨t', rfl⟩ := ry; exact PySem.EqNone.ne_none_int (fin_bl I q (by simp))
    | str j => obtain ⟨t', rfl⟩ := ry; exact PySem.EqNone.ne_none_str (fin_bl I q (by simp))
    | _ => exact absurd (show false = true from hs) Bool.false_ne_true
  | bl i =>
    cases rx
    cases y with
    | non => cases ry; exact PySem.EqNone.ne_bool_none (fin_bl I q (by simp))
    | bl j => cases ry; exact ne_bool (fin_bl I q (congrArg not dec_bl))
    | str j => obtain ⟨t', rfl⟩ := ry; exact PySem.EqMixed.ne_bool_str (fin_bl I q (by simp))
    | _ => exact absurd (show false = true from hs) Bool.false_ne_true
  | int i =>
    obtain ⟨t, rfl⟩ := rx
    cases y with
    | non => cases ry; exact PySem.EqNone.ne_int_none (fin_bl I q (by simp))
    | int j => obtain ⟨t', rfl⟩ := ry; exact ne_int (fin_bl I q (congrArg not dec_int))
    | str j => obtain ⟨t', rfl⟩ := ry; exact PySem.EqMixed.ne_int_str (fin_bl I q (by simp))
    | _ => exact absurd (show false = true from hs) Bool.false_ne_true
  | str i =>
    obtain ⟨t, rfl⟩ := rx
    cases y with
    | non => cases ry; exact PySem.EqNone.ne_str_none (fin_bl I q (by simp))
    | bl j => cases ry; exact PySem.EqMixed.ne_str_bool (fin_bl I q (by simp))
    | int j => obtain ⟨t', rfl⟩ := ry; exact PySem.EqMixed.ne_str_int (fin_bl I q (by simp))
    | str j => obtain ⟨t', rfl⟩ := ry; exact ne_str (fin_bl I q (congrArg not dec_str))
    | _ => exact absurd (show false = true from hs) Bool.false_ne_true
  | byt i =>
    obtain ⟨t, rfl⟩ := rx
    cases y with
    | byt j => obtain ⟨t', rfl⟩ := ry; exact PySem.W.ne_bytes (fin_bl I q (congrArg not dec_byt))
    | _ => exact absurd (show false = true from hs) Bool.false_ne_true
  | _ => cases y <;> exact absurd (show false = true from hs) Bool.false_ne_true

theorem op_lt : OpR X (compareOp .Lt) (rI0 fun i j => .bl (decide (i < j))) := opB0 fun _ _ _ _ _ _ _ q => lt_int q
theorem op_le : OpR X (compareOp .LtE) (rI0 fun i j => .bl (decide (i ≤ j))) := opB0 fun _ _ _ _ _ _ _ q => le_int q
theorem op_gt : OpR X (compareOp .Gt) (rI0 fun i j => .bl (decide (j < i))) := opB0 fun _ _ _ _ _ _ _ q => gt_int q
theorem op_ge : OpR X (compareOp .GtE) (rI0 fun i j => .bl (decide (j ≤ i))) := opB0 fun _ _ _ _ _ _ _ q => ge_int q
/-- is None, is not None: the right side a value none -/
theorem op_isN : OpR X (compareOp .Is) (fun x y H Q => y = .non ∧ Q (.bl (decide (x = .non))) H) := by
  intro pins s σ H x y v u Q I rx ry h
  obtain ⟨rfl, q⟩ := h
  cases ry
  refine is_none_gen (fin_bl I q ?_)
  cases x <;> first
    | (cases rx; rfl)
    | (obtain ⟨t, rfl⟩ := rx; rfl)
/-- two rules for one operation: by cases -/
theorem OpR.or {f : Value → Value → Sem Value} {r r' : R2} (h : OpR X f r) (h' : OpR X f r') : OpR X f (fun x y H Q => r x y H Q ∨ r' x y H Q) := by
  intro pins s σ H x y v u Q I rx ry q
  rcases q with q | q
  · exact h pins s σ H x y v u Q I rx ry q
  · exact h' pins s σ H x y v u Q I rx ry q

theorem nomark (b : Expr) {op : CmpOp} (h : op ≠ .In := by decide) (h2 : op ≠ .NotIn := by decide) : behindInMarks op b = false := by
  have e1 : (op == CmpOp.In) = false := by cases op <;> first | rfl | exact absurd rfl h
  have e2 : (op == CmpOp.NotIn) = false := by cases op <;> first | rfl | exact absurd rfl h2
  cases b <;> simp [behindInMarks, e1, e2]
/-- a comparison as a value; hm: nomark b, or (for in, not in) by with_unfolding_all rfl -/
theorem pe_cmpR {op : CmpOp} {r : R2} (ho : OpR X (compareOp op) r) (ha : PE X a ta) (hb : PE X b tb) (hm : behindInMarks op b = false) : PE X (.Compare a [op] [b] pos) (tOp r ta tb) := by
  constructor
  intro pins s σ H Q I h
  exact wpAny_Compare1 (binT ha hb I h fun v u s2 x y H2 I2 rx ry q => ho pins s2 σ H2 x y v u Q I2 rx ry q) hm
/-- a reading of a value as a test -/
def tTest (t : TE) : TT := fun σ H Q => t σ H fun x H' => ∃ k, x = .bl k ∧ Q k H'
theorem pt_cmpR {op : CmpOp} {r : R2} (ho : OpR X (compareOp op) r) (ha : PE X a ta) (hb : PE X b tb) (hm : behindInMarks op b = false) : PT X (.Compare a [op] [b] pos) (tTest (tOp r ta tb)) := by
  constructor
  intro pins s σ H Q I h
  refine wpAny_isTrue_Compare1 (thn (ha pins s σ H _ I h) fun v s1 ⟨x, H1, I1, r1, q1⟩ => thn (hb pins s1 σ H1 _ I1 q1) fun u s2 ⟨y, H2, I2, r2, q2⟩ =>
    thn (ho pins s2 σ H2 x y v u _ I2 r1 r2 q2) fun c s3 ⟨z, H3, I3, r3, k, e, q3⟩ => ?_) hm
  subst e
  cases r3
  exact wpAny_truthy_bool ⟨H3, I3, q3⟩
/-! ### truth -/
/-- a value's truth by the abstract heap -/
def TruV (K : PySem.W.Frag) (x : V) (H : Hp) (k : Bool) : Prop :=
  match x with
  | .non => k = false
  | .bl b => k = b
  | .int i => k = (i != 0)
  | .str y => y.length ≤ sizeLine ∧ k = ((y.length : Int) != 0)
  | .byt y => y.size ≤ sizeLine ∧ k = ((y.size : Int) != 0)
  | .ref p => (∃ xs, SqL K H p xs ∧ k = !xs.isEmpty) ∨ (∃ xs, SqT K H p xs ∧ k = !xs.isEmpty) ∨ ∃ kvs, H p = some (.dK kvs) ∧ k = !kvs.isEmpty
  | _ => False
theorem isEmpty_kv {κ : Type} {kvs : List (κ × V)} {vs : List (κ × Value)} (r : KV kvs vs) : (!vs.isEmpty) = !kvs.isEmpty := by
  cases r <;> rfl
theorem isEmpty_of {xs : List V} {its : List Value} (r : Vals xs its) : (!its.toArray.isEmpty) = !xs.isEmpty := by
  cases r <;> simp
theorem line63 : (sizeLine : Nat) < 2 ^ 63 := by rw [sizeLine_eq]; decide
theorem tru_ok : TruR X (fun x H Q => ∃ k, TruV X.K x H k ∧ Q k H) := by
  intro pins s σ H x v Q I rx h
  obtain ⟨k, e, q⟩ := h
  have hl := line63
  have hs : sizeLine = 16777216 := sizeLine_eq
  cases x with
  | non =>
    cases rx
    have e' : k = false := e
    subst e'
    exact truthy_none ⟨H, I, q⟩
  | bl b =>
    cases rx
    have e' : k = b := e
    subst e'
    exact wpAny_truthy_bool ⟨H, I, q⟩
  | int i =>
    obtain ⟨t, rfl⟩ := rx
    have e' : k = (i != 0) := e
    subst e'
    exact PySem.P.truthy_int ⟨H, I, q⟩
  | str y =>
    obtain ⟨t, rfl⟩ := rx
    obtain ⟨hy, e'⟩ : y.length ≤ sizeLine ∧ k = ((y.length : Int) != 0) := e
    subst e'
    exact PySem.P.truthy_str (by omega) ⟨H, I.tok _, q⟩
  | byt y =>
    obtain ⟨t, rfl⟩ := rx
    obtain ⟨hy, e'⟩ : y.size ≤ sizeLine ∧ k = ((y.size : Int) != 0) := e
    subst e'
    exact PySem.W.truthy_bytes (by omega) ⟨H, I.tok _, q⟩
  | ref p =>
    cases rx
    have e' : (∃ xs, SqL X.K H p xs ∧ k = !xs.isEmpty) ∨ (∃ xs, SqT X.K H p xs ∧ k = !xs.isEmpty) ∨ ∃ kvs, H p = some (.dK kvs) ∧ k = !kvs.isEmpty := e
    rcases e' with ⟨xs, hx, e'⟩ | ⟨xs, hx, e'⟩ | ⟨kvs, hx, e'⟩
    · subst e'
      obtain ⟨its, r, pl, hz⟩ := I.list hx
      have hlen := r.length
      exact wpAny_truthy_list pl.isList (by simp only [List.size_toArray]; omega) ⟨H, I.tok _, by rw [isEmpty_of r]; exact q⟩
    · subst e'
      obtain ⟨its, r, pl, hz⟩ := I.tuple hx
      have hlen := r.length
      exact truthy_tuple pl (by simp only [List.size_toArray]; omega) ⟨H, I.tok _, by rw [isEmpty_of r]; exact q⟩
    · subst e'
      obtain ⟨hz, hS, vs, r, m⟩ : kvs.length ≤ sizeLine ∧ (p == sysModules) = false ∧ ∃ vs, KV kvs vs ∧ s.heap.DictOf (mixKind X.prog X.w) p vs := I.hok p _ hx
      have hlen : kvs.length = vs.length := Paired.length r
      exact wpAny_truthy_dict hS m (by omega) ⟨H, I.tok _, by rw [isEmpty_kv r]; exact q⟩
  | _ => exact (show False from e).elim
/-- any expression whose test is its value's truth (a name, a call, a subscript, a field ..: he by fun _ => rfl) -/
theorem pt_truth (ha : PE X a ta) (he : ∀ whole, isTrue a X.env whole = (do let v ← whole; standAt a.pos; holding [v] (truthy v))) :
    PT X a (fun σ H Q => ta σ H fun x H' => ∃ k, TruV X.K x H' k ∧ Q k H') := by
  constructor
  intro pins s σ H Q I h
  exact isTrue_plain (thn (ha pins s σ H _ I h) fun v s1 ⟨x, H1, I1, r1, q1⟩ => tru_ok pins s1 σ H1 x v Q I1 r1 q1) (he _)

/-! ### strs and bytes -/
/-! ### scalar builtins, by CallR -/
theorem vals1 {x : V} {us : List Value} (r : Vals [x] us) : ∃ u, us = [u] ∧ RelV x u := by
  cases r with
  | cons r1 r2 => cases r2; exact ⟨_, rfl, r1⟩
end
end L2

namespace L2
open PySem PySem.Spec PyProof.Rows

/-! ### an instance, its attributes a map -/
structure ObjM (h : Heap) (x dx C : Addr) (mA : Str → Option Value) : Prop where
  obj : h.get? x = some (PySem.W.instObj C dx)
  ns : h.Ns1 dx mA
  ne : dx ≠ x

theorem lookIn_ns {h : Heap} {dx : Addr} {mA : Str → Option Value} (n : h.Ns1 dx mA) : ∃ od, h.get? dx = some od ∧ ∀ name, PySem.W.lookIn name od = some (mA name) := by
  obtain ⟨o, es, ep, ho, hd, hk, _, hm⟩ := n
  refine ⟨o, ho, fun name => ?_⟩
  have e := hm name
  unfold nsFind findBy at e
  rw [← Array.find?_toList] at e
  unfold PySem.W.lookIn
  rw [hd]
  dsimp only
  split
  · rename_i y q
    rw [q] at e
    exact congrArg some e
  · rename_i q
    rw [q] at e
    have a : es.toList.any (·.refKey) = false := by
      rw [List.any_eq_false]
      intro y hy
      obtain ⟨z, t, hkey⟩ := hk y (Array.mem_toList_iff.mp hy)
      simp [DictEntry.refKey, hkey]
    have a' : ¬ es.toList.any (·.refKey) = true := by rw [a]; exact Bool.false_ne_true
    rw [if_neg a']
    exact congrArg some e

theorem ObjM.look {h : Heap} {x dx C : Addr} {mA : Str → Option Value} (I : ObjM h x dx C mA) : ∃ od, PySem.W.InstAt h x (PySem.W.instObj C dx) C (some od) ∧ ∀ name, PySem.W.lookIn name od = some (mA name) :=
  let ⟨od, ho, hl⟩ := lookIn_ns I.ns
  ⟨od, ⟨I.obj, rfl, rfl, ho⟩, hl⟩

section
variable {prog : Program} {w : World} {A : Around} {E : Value → Shared → Prop} {s : Shared} {K : PySem.W.Frag} {x dx C f : Addr} {mA : Str → Option Value} {name : Str} {v : Value}

end

/-! ### the attributes as a list of pairs -/
theorem RelO.none_of {o : Option Value} (r : RelO none o) : o = none := by
  cases o with
  | none => rfl
  | some u => exact (show False from r).elim
section
variable {P : Program} {w : World} {H H' : Hp} {h h' : Heap} {a C dx : Addr} {fs fs' : List (Str × V)}
end

/-! ### what of the text a class must have -/
structure Cls (K : PySem.W.Frag) (C : Addr) : Prop where
  pg : PySem.W.plainGet K C Str.empty = true
  hd : PySem.W.hasDictIn K C = true
  po : PySem.W.plainOver K C = true
  sa : PySem.W.findIn K (.ref C) "__setattr__" = some (some (.builtin "object.__setattr__"))
theorem Cls.get {K : PySem.W.Frag} {C : Addr} (c : Cls K C) (f : Str) : PySem.W.plainGet K C f = true := c.pg
section
variable {X : Cx} {pins : List (Addr × Obj)} {σ : St} {H : Hp} {s : Shared} {a C dx : Addr} {fs : List (Str × V)} {f : Str} {v : V} {A : Around} {E : Value → Shared → Prop}

/-- a new instance, tracked, without attributes -/
theorem Inv.made (I : Inv X pins σ H s) : Inv X pins σ (upd (upd H s.heap.objs.size (.own (s.heap.objs.size + 1))) (s.heap.objs.size + 1) (.ins C s.heap.objs.size []))
    { s with heap := (s.heap.push PySem.W.emptyDict).push (PySem.W.instObj C s.heap.objs.size) } := by
  have e1 : (s.heap.push PySem.W.emptyDict).get? s.heap.objs.size = some PySem.W.emptyDict := Heap.get?_push_size s.heap rfl
  have e2 : ((s.heap.push PySem.W.emptyDict).push (PySem.W.instObj C s.heap.objs.size)).get? (s.heap.objs.size + 1) = some (PySem.W.instObj C s.heap.objs.size) := by
    have := Heap.get?_push_size (s.heap.push PySem.W.emptyDict) (o := PySem.W.instObj C s.heap.objs.size) rfl
    rwa [Heap.size_push] at this
  have e3 : (s.heap.push PySem.W.emptyDict).Ns s.heap.objs.size (fun _ => none) := ⟨PySem.W.emptyDict, #[], _, e1, rfl, (fun e he => absurd he (by simp)), fun _ => rfl⟩
  have I1 := I.laid (a := s.heap.objs.size) (o := .own (s.heap.objs.size + 1)) (h' := s.heap.push PySem.W.emptyDict) (t' := s.toks) (fun b u q => Heap.get?_push_of_some _ q) (Nat.le_refl _) ⟨_, e1⟩
  refine I1.laid (a := s.heap.objs.size + 1) (o := .ins C s.heap.objs.size []) (t' := s.toks) (fun b u q => Heap.get?_push_of_some _ q) (Nat.le_of_eq (Heap.size_push _ _)) ?_
  have ne : s.heap.objs.size ≠ s.heap.objs.size + 1 := Nat.ne_of_lt (Nat.lt_succ_self _)
  refine ⟨by rw [upd_ne ne, upd_same], Nat.zero_le _, ne, e2, fun _ => none, (Heap.Ns1.of_empty e3).at fun o q => Heap.get?_push_of_some _ q, fun _ => True.intro, fun y hy => absurd rfl hy⟩

end

/-! ### readings and rules -/
section
variable {X : Cx} {o e value : Expr} {f : Str} {pos pos' tpos : Pos} {ta tv : TE}
end

/-! ### isinstance -/
section
variable {X : Cx} {pins : List (Addr × Obj)} {σ : St} {H : Hp} {s : Shared} {A : Around} {E : Value → Shared → Prop} {Q : Value → Shared → Prop} {c : Value} {b : Bool}
end
end L2

namespace L2
open PySem PySem.Spec PyProof.Rows

/-! ### room -/
structure Room (k : Nat) (A : Around) : Prop where
  hd : A.handled = none
  dp : A.depth + 3 * k + 5 < recursionLimit
  un : A.units + 16 * k + 200 < cLine
  gd : A.guards = some []
theorem Room.mono {j k : Nat} {A : Around} (r : Room k A) (h : j ≤ k) : Room j A := ⟨r.hd, by have := r.dp; omega, by have := r.un; omega, r.gd⟩
theorem Room.deeper {k : Nat} {A : Around} (r : Room (k + 1) A) (env : Env) : Room k (A.deeper env) :=
  ⟨r.hd, by have := r.dp; show A.depth + 1 + 3 * k + 5 < _; omega, by have := r.un; show A.units + 3 + 16 * k + 200 < _; omega, r.gd⟩
theorem Room.in1 {k : Nat} {A : Around} (r : Room (k + 1) A) : Room k A.in1 :=
  ⟨r.hd, by have := r.dp; show A.depth + 3 * k + 5 < _; omega, by have := r.un; show A.units + 1 + 16 * k + 200 < _; omega, r.gd⟩
theorem Room.depth {k : Nat} {A : Around} (r : Room k A) : A.depth < recursionLimit := by have := r.dp; omega
theorem Room.units {k : Nat} {A : Around} (r : Room k A) : A.units + 64 < cLine := by have := r.un; omega
/-! ### argument lists and displays -/
def tNil : TA := fun _ H Q => Q [] H
def tCons (ta : TE) (tr : TA) : TA := fun σ H Q => ta σ H fun x H1 => tr σ H1 fun xs H2 => Q (x :: xs) H2
section
variable {X : Cx} {e : Expr} {es : List Expr} {te : TE} {t : TA} {pos : Pos}
theorem pa_nil : PA X [] tNil := ⟨fun _ _ _ _ H Q I h => Calls.spliced_nil ⟨[], H, I, .nil, h⟩⟩
theorem pa_cons (ha : PE X e te) (hr : PA X es t) (hs : starEach (e :: es) X.env = (false, eval e X.env) :: starEach es X.env := by rfl) : PA X (e :: es) (tCons te t) := by
  constructor
  intro pos pins s σ H Q I h
  rw [hs]
  show wpAny _ _ (spliced ((false, eval e X.env) :: backTo pos (starEach es X.env))) _ _ s
  refine Calls.spliced_cons (thn (ha pins s σ H _ I h) fun u s1 ⟨x, H1, I1, r1, q1⟩ => ?_)
  exact thn (hr pos pins s1 σ H1 _ I1 q1) fun us s2 ⟨xs, H2, I2, r2, q2⟩ => ⟨x :: xs, H2, I2, .cons r1 r2, q2⟩

/-- a tuple, a list of written items -/
def tTup (t : TA) : TE := fun σ H Q => t σ H fun xs H1 => xs.length ≤ sizeLine ∧ ∀ p, H1 p = none → Q (.ref p) (upd H1 p (.tup xs))
def tLst (t : TA) : TE := fun σ H Q => t σ H fun xs H1 => xs.length ≤ sizeLine ∧ ∀ p, H1 p = none → Q (.ref p) (upd H1 p (.lst xs))
theorem pe_tup {x1} (h : PA X es t) : PE X (.Tuple es x1 pos) (tTup t) := by
  constructor
  intro pins s σ H Q I hq
  refine wpAny_Tuple_spliced (thn (h pos pins s σ H _ I hq) fun us s1 ⟨xs, H1, I1, r, z, q⟩ => ⟨by rw [← r.length]; exact z, ?_⟩)
  have hf : H1 s1.heap.objs.size = none := I1.hok.fresh (Nat.le_refl _)
  refine ⟨.ref s1.heap.objs.size, upd H1 s1.heap.objs.size (.tup xs), I1.laid (t' := s1.toks) (fun b u e => Heap.get?_push_of_some _ e) (Nat.le_refl _) ?_, rfl, q _ hf⟩
  exact ⟨z, us, r, ⟨_, Heap.get?_push_size _ rfl, rfl, _, rfl⟩⟩
theorem pe_lst (h : PA X es t) : PE X (.List es pos) (tLst t) := by
  constructor
  intro pins s σ H Q I hq
  refine wpAny_List_spliced (thn (h pos pins s σ H _ I hq) fun us s1 ⟨xs, H1, I1, r, z, q⟩ => ⟨by rw [← r.length]; exact z, ?_⟩)
  have hf : H1 s1.heap.objs.size = none := I1.hok.fresh (Nat.le_refl _)
  refine ⟨.ref s1.heap.objs.size, upd H1 s1.heap.objs.size (.lst xs), I1.laid (t' := s1.toks) (fun b u e => Heap.get?_push_of_some _ e) (Nat.le_refl _) ?_, rfl, q _ hf⟩
  exact ⟨z, us, 0, r, Heap.get?_push_size _ rfl⟩
end

/-! ### what a def promises -/
/-- a def's promise: the bound arguments in the parameters' order, the heap, the wanted end, the wanted exception -/
abbrev Sp := List V → Hp → VK → XK → Prop
/-- how an exception lies behind a call (file 08 gives it): the callers' frames, abstract heap and state ahead of the call, the wish, the exception, the state -/
abbrev CXT := List Env → Hp → Shared → XK → Value → Shared → Prop

/-- the state at a call -/
structure Env0 (P : Program) (w : World) (K : PySem.W.Frag) (mg : Str → Option Value) (base : Heap) (A : Around) (outer : List Env) (s : Shared) (H : Hp) : Prop where
  frames : A.frames = some outer
  mod : Mod K mg base
  bs : ∀ b o, base.get? b = some o → s.heap.get? b = some o ∧ H b = none
  bsz : base.objs.size ≤ s.heap.objs.size
  funs : s.heap.FunFrames base outer
  frf : ∀ b ∈ frs outer, H b = none
  hok : HOk P w H s.heap
  bare : AllBare s.gens
/-- a call's end -/
def CE (outer : List Env) (P : Program) (w : World) (H : Hp) (s : Shared) (Q : VK) (u : Value) (s' : Shared) : Prop :=
  ∃ v H', s'.os = s.os ∧ GensOk s.gens s'.gens ∧ Un (frs outer) [] H H' s.heap s'.heap ∧ HOk P w H' s'.heap ∧ RelV v u ∧ Q v H'
def CR (CX : CXT) (outer : List Env) (P : Program) (w : World) (H : Hp) (s : Shared) (Q : VK) (E : XK) (r : Result) (s' : Shared) : Prop :=
  match r with
  | .ok (.ret u) => CE outer P w H s Q u s'
  | .ok _ => False
  | .error e => CX outer H s E e s'
structure FnOk (P : Program) (w : World) (K : PySem.W.Frag) (mg : Str → Option Value) (base : Heap) (CX : CXT) (k : Nat) (f : Addr) (fd : FuncData) (ps : List Str) (sp : Sp) : Prop where
  len : ∀ vs H Q E, sp vs H Q E → vs.length = ps.length
  run : ∀ (A : Around) (outer : List Env) (s : Shared) (H : Hp) (args : Args) (us : List Value) (vs : List V) (Q : VK) (E : XK), Room k A → Env0 P w K mg base A outer s H → BindsTo s fd args (ps.zip us) → Vals vs us → sp vs H Q E →
    codeAny (model P w) A (.call (.ref f) args) (CR CX outer P w H s Q E) s
theorem FnOk.mono {P : Program} {w : World} {K : PySem.W.Frag} {mg : Str → Option Value} {base : Heap} {CX : CXT} {j k : Nat} {f : Addr} {fd : FuncData} {ps : List Str} {sp : Sp} (F : FnOk P w K mg base CX j f fd ps sp) (h : j ≤ k) :
    FnOk P w K mg base CX k f fd ps sp := ⟨F.len, fun A outer s H args us vs Q E hr => F.run A outer s H args us vs Q E (hr.mono h)⟩
/-- a weaker promise -/
theorem FnOk.imp {P : Program} {w : World} {K : PySem.W.Frag} {mg : Str → Option Value} {base : Heap} {CX : CXT} {k : Nat} {f : Addr} {fd : FuncData} {ps : List Str} {sp sp' : Sp} (F : FnOk P w K mg base CX k f fd ps sp)
    (h : ∀ vs H Q E, sp' vs H Q E → sp vs H Q E) : FnOk P w K mg base CX k f fd ps sp' :=
  ⟨fun vs H Q E q => F.len vs H Q E (h _ _ _ _ q), fun A outer s H args us vs Q E hr he hb hv hs => F.run A outer s H args us vs Q E hr he hb hv (h _ _ _ _ hs)⟩

theorem Env0.in1 {P : Program} {w : World} {K : PySem.W.Frag} {mg : Str → Option Value} {base : Heap} {A : Around} {outer : List Env} {s : Shared} {H : Hp} (e : Env0 P w K mg base A outer s H) :
    Env0 P w K mg base A.in1 outer s H := ⟨e.frames, e.mod, e.bs, e.bsz, e.funs, e.frf, e.hok, e.bare⟩

section
variable {X : Cx} {pins : List (Addr × Obj)} {σ : St} {H : Hp} {s s' : Shared}
/-- from a body: what a callee wants -/
theorem Inv.env0 (I : Inv X pins σ H s) : Env0 X.prog X.w X.K X.mg X.base X.A X.stack s H :=
  ⟨I.ok.frames, I.ok.mod, I.bs, Nat.le_trans I.ok.bsz I.sz, I.stack, I.stkFree, I.hok, I.bare.bare⟩
/-- behind a call -/
theorem Inv.after {Q : VK} {u : Value} (I : Inv X pins σ H s) (h : CE X.stack X.prog X.w H s Q u s') : EP X pins σ Q u s' := by
  obtain ⟨v, H', os, bare, un, hok, r, q⟩ := h
  obtain ⟨hh, g, d, t, os'⟩ := s'
  obtain rfl : os' = s.os := os
  exact ⟨v, H', I.call (h' := hh) (g' := g) (d' := d) (t' := t) (ch := []) un hok bare (fun b z => absurd z (by simp)), r, q⟩
end

/-! ### calls -/
/-- f(..): the written arguments, then the defaults dvs; E: what is wanted of an exception -/
def tCall (sp : Sp) (dvs : List V) (E : XK) (t : TA) : TE := fun σ H Q => t σ H fun vs H1 => sp (vs ++ dvs) H1 Q E
/-- how the parameters are bound: us the positional arguments, kw the keywords' values by name, ds the defaults that fill up -/
def Binds (K : PySem.W.Frag) (fd : FuncData) (ps : List Str) (ds : List Value) : Prop :=
  ∀ (s : Shared) (us : List Value), K.In s.heap → (us ++ ds).length = ps.length → BindsTo s fd ⟨us, []⟩ (ps.zip (us ++ ds))
/-- every parameter is given -/
theorem Binds.all {K : PySem.W.Frag} {fd : FuncData} {ps : List Str} (h : ∀ us : List Value, us.length = ps.length → bindArgs fd ⟨us, []⟩ = pure (ps.zip us)) : Binds K fd ps [] := fun s us _ hl => by
  rw [List.append_nil] at hl ⊢
  exact .of_eq (h us hl)

/-- an exception of a callee reaches what this body wants of exceptions -/
def Passes (CX : CXT) (X : Cx) (E : XK) : Prop := ∀ (pins : List (Addr × Obj)) (σ : St) (H : Hp) (s : Shared) (e : Value) (s' : Shared), Inv X pins σ H s → CX X.stack H s E e s' → X.xe e s'

section
variable {X : Cx} {CX : CXT} {k : Nat} {f C : Addr} {fd : FuncData} {ps : List Str} {sp : Sp} {dvs : List V} {ds : List Value} {E : XK} {x m : Str} {p pos apos : Pos} {e o : Expr} {es : List Expr} {ta : TE} {t : TA}

/-- the callee runs -/
theorem run_fn {pins : List (Addr × Obj)} {σ : St} {H : Hp} {s : Shared} {Q : VK} {us : List Value} {vs : List V} (F : FnOk X.prog X.w X.K X.mg X.base CX k f fd ps sp) (hr : Room k X.A) (hb : Binds X.K fd ps ds) (hd : Vals dvs ds) (hx : Passes CX X E)
    (I : Inv X pins σ H s) (r : Vals vs us) (h : sp (vs ++ dvs) H Q E) : wpAny (model X.prog X.w) X.A (call (.ref f) us) (EP X pins σ Q) X.xe s := by
  have r2 : Vals (vs ++ dvs) (us ++ ds) := r.append hd
  have hl : (us ++ ds).length = ps.length := by rw [← r2.length]; exact F.len _ _ _ _ h
  refine wpAny_call (codeAny_mono (F.run X.A X.stack s H ⟨us, []⟩ (us ++ ds) (vs ++ dvs) Q E hr I.env0 (hb s us I.kIn hl) r2 h) fun r s' hq => ?_)
  cases r with
  | error e => exact hx pins σ H s e s' I hq
  | ok fl =>
    cases fl with
    | ret u => exact I.after hq
    | next => exact False.elim hq
    | brk => exact False.elim hq
    | cont => exact False.elim hq

theorem pe_call (F : FnOk X.prog X.w X.K X.mg X.base CX k f fd ps sp) (hr : Room k X.A) (hg : Gl X x) (hm : X.mg x = some (.ref f)) (hk : PySem.W.keepIn X.K (.ref f) = true) (hb : Binds X.K fd ps ds) (hd : Vals dvs ds) (hx : Passes CX X E)
    (ha : PA X (e :: es) t) (hdb : (x == ("__debug__" : Str)) = false := by decide) (he : starEach (e :: es) X.env = (false, eval e X.env) :: starEach es X.env := by rfl) (hpl : (backTo pos (starEach es X.env)).any (·.1) = false := by rfl) :
    PE X (.Call (.Name x p) (e :: es) [] pos) (tCall sp dvs E t) := by
  constructor
  intro pins s σ H Q I h
  refine wpAny_Call_Name_kw (ld_glob I hg hm ?_ hdb)
  refine PySem.W.callWith_K (h₀ := X.base) I.ok.mod.kin hk (thn (ha pos pins s σ H _ I h) fun us s1 ⟨vs, H1, I1, r, q⟩ => ⟨I1.kIn, ?_⟩) he hpl
  exact run_fn F hr hb hd hx I1 r q
end

/-! ### keywords -/
/-- the values of the keywords, from the left -/
structure PK (X : Cx) (kws : List Keyword) (t : TA) : Prop where
  run : ∀ (pos : Pos) (pins : List (Addr × Obj)) (s : Shared) (σ : St) (H : Hp) (Q : List V → Hp → Prop), Inv X pins σ H s → t σ H Q → wpAny (model X.prog X.w) X.A (evalAll ((backToKw pos (keywordEach kws X.env)).map (·.2))) (AP X pins σ Q) X.xe s
instance {X : Cx} {kws : List Keyword} {t : TA} : CoeFun (PK X kws t) (fun _ => ∀ (pos : Pos) (pins : List (Addr × Obj)) (s : Shared) (σ : St) (H : Hp) (Q : List V → Hp → Prop), Inv X pins σ H s → t σ H Q → wpAny (model X.prog X.w) X.A (evalAll ((backToKw pos (keywordEach kws X.env)).map (·.2))) (AP X pins σ Q) X.xe s) := ⟨PK.run⟩
section
variable {X : Cx} {CX : CXT} {k : Nat} {f C : Addr} {fd : FuncData} {ps ks : List Str} {sp : Sp} {E : XK} {x m : Str} {p pos apos kpos : Pos} {e o : Expr} {es : List Expr} {kws : List Keyword} {te ta : TE} {t tk : TA} {nm : Option Str}
variable {g : List Value → List Value → List Value} {gV : List V → List V → List V}
end

/-! ### a def's body keeps its promise -/
/-- names: the parameters first -/
structure FnScope (N P : List Str) (sc : Scope) : Prop where
  kind : sc.kind = .function
  co : sc.isCoroutine = false
  gen : sc.isGenerator = false
  nd : N.Nodup
  pre : N.take P.length = P
  par : ∀ x ∈ P, sc.names.lookup x = some .local ∨ sc.names.lookup x = some .cell
  nofree : ∀ y ∈ sc.names, y.2 ≠ .free

theorem bindL_out {kindOf : Str → Option NameKind} {x : Str} : ∀ {binds : List (Str × Value)} {m : Str → Option Value}, (∀ v, (x, v) ∉ binds) → bindL kindOf binds m x = m x
  | [], _, _ => rfl
  | (n, v) :: r, m, h => by
    unfold bindL
    rw [bindL_out fun w hw => h w (List.mem_cons_of_mem _ hw)]
    split
    · have : x ≠ n := by rintro rfl; exact h v List.mem_cons_self
      simp [this]
    · rfl
theorem bindC_out {kindOf : Str → Option NameKind} {x : Str} : ∀ {binds : List (Str × Value)} {m : Str → Option Value}, (∀ v, (x, v) ∉ binds) → bindC kindOf binds m x = m x
  | [], _, _ => rfl
  | (n, v) :: r, m, h => by
    unfold bindC
    rw [bindC_out fun w hw => h w (List.mem_cons_of_mem _ hw)]
    split
    · rfl
    · have : x ≠ n := by rintro rfl; exact h v List.mem_cons_self
      simp [this]
theorem bindL_get {kindOf : Str → Option NameKind} {x : Str} {v : Value} : ∀ {P : List Str} {vs : List Value} {i : Nat} {m : Str → Option Value}, P.Nodup → P[i]? = some x → vs[i]? = some v → kindOf x = some .local →
    bindL kindOf (P.zip vs) m x = some v
  | [], _, _, _, _, h, _, _ => by simp at h
  | _ :: _, [], _, _, _, _, h, _ => by simp at h
  | p :: P, w :: vs, 0, m, nd, h1, h2, hk => by
    simp at h1 h2; subst h1; subst h2
    show bindL kindOf ((p, w) :: P.zip vs) m p = _
    unfold bindL
    rw [bindL_out fun v hv => (List.nodup_cons.mp nd).1 (List.of_mem_zip hv).1, if_pos hk]
    simp
  | p :: P, w :: vs, i + 1, m, nd, h1, h2, hk => by
    show bindL kindOf ((p, w) :: P.zip vs) m x = _
    unfold bindL
    exact bindL_get (i := i) (List.nodup_cons.mp nd).2 (by simpa using h1) (by simpa using h2) hk
theorem bindC_get {kindOf : Str → Option NameKind} {x : Str} {v : Value} : ∀ {P : List Str} {vs : List Value} {i : Nat} {m : Str → Option Value}, P.Nodup → P[i]? = some x → vs[i]? = some v → kindOf x ≠ some .local →
    bindC kindOf (P.zip vs) m x = some v
  | [], _, _, _, _, h, _, _ => by simp at h
  | _ :: _, [], _, _, _, _, h, _ => by simp at h
  | p :: P, w :: vs, 0, m, nd, h1, h2, hk => by
    simp at h1 h2; subst h1; subst h2
    show bindC kindOf ((p, w) :: P.zip vs) m p = _
    unfold bindC
    rw [bindC_out fun v hv => (List.nodup_cons.mp nd).1 (List.of_mem_zip hv).1, if_neg hk]
    simp
  | p :: P, w :: vs, i + 1, m, nd, h1, h2, hk => by
    show bindC kindOf ((p, w) :: P.zip vs) m x = _
    unfold bindC
    exact bindC_get (i := i) (List.nodup_cons.mp nd).2 (by simpa using h1) (by simpa using h2) hk

/-- the names' values at the entry -/
def start (N : List Str) (vs : List V) : St := vs.map some ++ List.replicate (N.length - vs.length) none

/-- the context of a def's body, at its entry; an exception leaves the frame, then lies as CX says -/
def cxOf (CX : CXT) (P : Program) (w : World) (K : PySem.W.Frag) (mg : Str → Option Value) (base : Heap) (N : List Str) (qual : Str) (scope : Scope) (f : Addr) (cd : Value) (A : Around) (outer : List Env) (s : Shared) (H : Hp) (E : XK) : Cx where
  prog := P
  w := w
  K := K
  mg := mg
  base := base
  A := A.deeper (envOfC qual scope s.heap.objs.size f cd)
  N := N
  s_0 := s
  H_0 := H
  env := envOfC qual scope s.heap.objs.size f cd
  outer := outer
  stack := envOfC qual scope s.heap.objs.size f cd :: outer
  ex := []
  calm := true
  fn := fun _ => true
  pn := []
  xe := fun e s' => wpAny (model P w) (A.deeper (envOfC qual scope s.heap.objs.size f cd)) (leaving (envOfC qual scope s.heap.objs.size f cd) e) (fun _ s'' => CX outer H s E e s'') (fun e' s'' => CX outer H s E e' s'') s'

theorem cell_has {sc : Scope} {n : Nat} {x : Str} (h : sc.names.lookup x = some .cell) : ∃ c, (cellsFrom n sc.names []).lookup x = some c := by
  have q := PySem.W.cellsFrom_some sc.names n [] (.inl h)
  exact Option.isSome_iff_exists.mp q

theorem inv_start {CX : CXT} {P : Program} {w : World} {K : PySem.W.Frag} {mg : Str → Option Value} {base : Heap} {N ps : List Str} {qual : Str} {scope : Scope} {f : Addr} {cd : Value} {A : Around} {outer : List Env} {s s1 : Shared} {H : Hp} {E : XK} {us : List Value} {vs : List V}
    (S : FnScope N ps scope) (hd : A.handled = none) (e0 : Env0 P w K mg base A outer s H) (hl : vs.length = ps.length) (r : Vals vs us)
    (x : InCallC s s.heap.objs.size (bindL (envOfC qual scope s.heap.objs.size f cd).kindOf (ps.zip us) fun _ => none) (cellsFrom (s.heap.objs.size + 1) scope.names []) (bindC (envOfC qual scope s.heap.objs.size f cd).kindOf (ps.zip us) fun _ => none) s1) :
    Inv (cxOf CX P w K mg base N qual scope f cd A outer s H E) [] (start N vs) H s1 := by
  have hpl : ps.length ≤ N.length := by have := congrArg List.length S.pre; rw [List.length_take] at this; omega
  obtain ⟨h1, tk, rfl, hk⟩ := x.done
  have noA : ∀ b : Addr, b ∉ (cxOf CX P w K mg base N qual scope f cd A outer s H E).ex := fun b z => absurd (show b ∈ ([] : List Addr) from z) (by simp)
  refine ⟨⟨e0.mod, S.kind, rfl, rfl, Nat.le_refl _, fun y z c h1 h2 => ?_, fun y hy => ?_, fun y c _ h => ?_, fun _ => hd, Around.frames_deeper e0.frames, .inr ⟨rfl, rfl⟩, fun b z => absurd z (noA b), e0.bs, e0.bsz, fun b _ _ => noA b, fun b z => absurd z (noA b), e0.funs, e0.frf⟩,
    rfl, ⟨e0.bare, Nat.le_refl _⟩, Un.kept hk, ⟨_, x.toInCall.ns, fun i y v h1 h2 h3 => ?_⟩, fun y c h => ⟨_, x.cell y c h⟩, e0.hok.fresh (Nat.le_refl _), fun y c h => ?_, fun p hp => absurd (show p ∈ ([] : List (Addr × Obj)) from hp) (by simp), e0.hok.kept hk, ?_⟩
  · exact name_of_addr x.apart (PySem.mem_of_lookup h1) (PySem.mem_of_lookup h2)
  · have hy : scope.names.lookup y = some .cell ∨ scope.names.lookup y = some .free := hy
    rcases hy with hy | hy
    · exact cell_has hy
    · exact absurd rfl (S.nofree _ (PySem.mem_of_lookup hy))
  · exact Nat.le_of_lt (x.above y c (PySem.mem_of_lookup h))
  · have hi : i < vs.length := by
      unfold start at h2
      by_cases hi : i < vs.length
      · exact hi
      · rw [List.getElem?_append_right (by simpa using hi)] at h2
        rw [List.getElem?_replicate] at h2
        split at h2 <;> cases h2
    have ha : vs[i]? = some v := by
      unfold start at h2
      rw [List.getElem?_append_left (by simpa using hi), List.getElem?_map] at h2
      cases e : vs[i]? with
      | none => rw [e] at h2; cases h2
      | some a => rw [e] at h2; cases h2; rfl
    obtain ⟨u, hu, rv⟩ := r.get ha
    have hp : ps[i]? = some y := by
      rw [← S.pre, List.getElem?_take_of_lt (by omega)]; exact h1
    have ndP : ps.Nodup := by rw [← S.pre]; exact S.nd.sublist (List.take_sublist _ _)
    refine ⟨u, rv, ?_⟩
    rcases S.par y (List.mem_of_getElem? hp) with k | k
    · exact .inl ⟨k, bindL_get ndP hp hu k⟩
    · obtain ⟨c, e⟩ := cell_has (n := s.heap.objs.size + 1) k
      refine .inr ⟨.inl k, c, e, ?_⟩
      have q := x.cell y c e
      rw [bindC_get ndP hp hu (by show scope.names.lookup y ≠ _; rw [k]; decide)] at q
      exact q
  · exact e0.hok.fresh (Nat.le_of_lt (x.above y c (PySem.mem_of_lookup h)))
  · unfold start
    show _ = N.length
    rw [List.length_append, List.length_map, List.length_replicate]
    omega

/-- THE RULE: a def (or a method) of the text, by its body. The body's reading t is chosen for each entry; it is run at the parameters' values -/
theorem fn_of {CX : CXT} {P : Program} {w : World} {K : PySem.W.Frag} {mg : Str → Option Value} {base : Heap} {k : Nat} {f : Addr} {name qual : Str} {params : Arguments} {body : List Stmt} {scope : Scope} {dV kV doc pm cdv ct oc : Value} {an od : Option Addr}
    {osl : Array (Option Value)} {N ps : List Str} {sp : Sp} (lk : K.lookup f = some ⟨oc, od, .func (PySem.W.fnOf name qual params body scope dV kV doc pm an cdv ct), osl⟩) (hcd : PySem.W.codeIn K cdv qual = true) (S : FnScope N ps scope)
    (len : ∀ vs H Q E, sp vs H Q E → vs.length = ps.length)
    (hbody : ∀ (A : Around) (outer : List Env) (s : Shared) (H : Hp) (vs : List V) (Q : VK) (E : XK), Room k (A.deeper (envOfC qual scope s.heap.objs.size f cdv)) → sp vs H Q E →
      ∃ t, PSs (cxOf CX P w K mg base N qual scope f cdv A outer s H E) body t ∧ t { nx := fun _ H' => Q .non H', rt := Q } (start N vs) H) :
    FnOk P w K mg base CX (k + 1) f (PySem.W.fnOf name qual params body scope dV kV doc pm an cdv ct) ps sp := by
  refine ⟨len, fun A outer s H args us vs Q E hr e0 hb r hsp => ?_⟩
  have hl := len _ _ _ _ hsp
  have KX : K.In s.heap := e0.mod.kin.keeps fun b o e => (e0.bs b o e).1
  have lim : s.heap.NoLimit := e0.mod.nolimit.keeps fun b o e => (e0.bs b o e).1
  have hkind : ∀ y ∈ ps.zip us, scope.names.lookup y.1 = some .local ∨ (scope.names.lookup y.1 = some .cell ∧ ((cellsFrom (s.heap.objs.size + 1) scope.names []).lookup y.1).isSome = true) := fun ⟨n, v⟩ hy => by
    rcases S.par n (List.of_mem_zip hy).1 with q | q
    · exact .inl q
    · exact .inr ⟨q, PySem.W.cellsFrom_some _ _ _ (.inl q)⟩
  refine codeAny_call_function hr.depth (KX _ _ lk) rfl S.co S.gen rfl (PySem.W.codeRec_of KX hcd) (hb _ _ _ _ ?_)
  refine wpAny_newFunctionEnv_cells S.kind hkind fun env he s1 x => ?_
  subst he
  refine ⟨lim.keeps x.toInCall.keep, codeAny_func ?_⟩
  obtain ⟨t, ht, hq⟩ := hbody A outer s H vs Q E (hr.deeper _) hsp
  have I : Inv (cxOf CX P w K mg base N qual scope f cdv A outer s H E) [] (start N vs) H s1 := inv_start S hr.hd e0 hl r x
  refine wpAny_mono (ht [] s1 (start N vs) H _ I hq) (fun fl s' hs => ?_) fun e s' hs => hs
  have fin : ∀ {σ' : St} {H' : Hp} {v : V} {u : Value}, Inv (cxOf CX P w K mg base N qual scope f cdv A outer s H E) [] σ' H' s' → RelV v u → Q v H' → CE outer P w H s Q u s' :=
    fun {σ' H' v u} J rv q => ⟨v, H', J.os, J.bare, J.base, J.hok, rv, q⟩
  cases fl with
  | ret u =>
    obtain ⟨v, σ', H', J, rv, q⟩ := hs
    exact fin J rv q
  | next =>
    obtain ⟨σ', H', J, q⟩ := hs
    exact fin (v := V.non) (u := Value.none) J rfl q
  | brk =>
    obtain ⟨_, _, _, q⟩ := hs
    exact False.elim q
  | cont =>
    obtain ⟨_, _, _, q⟩ := hs
    exact False.elim q
end L2

namespace L2
open PySem PySem.Spec PyProof.Rows
section
variable {X : Cx} {x : Str} {p pos : Pos} {e : Expr} {es : List Expr} {t : TA} {id T : String} {r : List V → Hp → VK → Prop}

def tCB (r : List V → Hp → VK → Prop) (t : TA) : TE := fun σ H Q => t σ H fun vs H1 => r vs H1 Q
/-- f(e, ..), f a built-in function -/
theorem pe_callB (hc : CallR X (.builtin id) r) (hg : Gl X x) (hm : X.mg x = none) (hv : bootBuiltins x = some (.builtin id)) (ha : PA X (e :: es) t) (hn : x ≠ "__name__" := by decide) (hdb : (x == ("__debug__" : Str)) = false := by decide)
    (he : starEach (e :: es) X.env = (false, eval e X.env) :: starEach es X.env := by rfl) (hpl : (backTo pos (starEach es X.env)).any (·.1) = false := by rfl) : PE X (.Call (.Name x p) (e :: es) [] pos) (tCB r t) := by
  constructor
  intro pins s σ H Q I h
  refine wpAny_Call_Name_kw (ld_blt I hg hm hv ?_ hn hdb)
  exact PyProof.Rows.callWith_builtin1 (thn (ha pos pins s σ H _ I h) fun us s1 ⟨vs, H1, I1, r1, q1⟩ => hc pins s1 σ H1 vs us Q I1 r1 q1) he hpl
/-- T(e, ..), T a built-in type -/
theorem pe_callTy (hc : CallR X (.type T) r) (hg : Gl X x) (hm : X.mg x = none) (hv : bootBuiltins x = some (.type T)) (ha : PA X (e :: es) t) (hn : x ≠ "__name__" := by decide) (hdb : (x == ("__debug__" : Str)) = false := by decide)
    (he : starEach (e :: es) X.env = (false, eval e X.env) :: starEach es X.env := by rfl) (hpl : (backTo pos (starEach es X.env)).any (·.1) = false := by rfl) : PE X (.Call (.Name x p) (e :: es) [] pos) (tCB r t) := by
  constructor
  intro pins s σ H Q I h
  refine wpAny_Call_Name_kw (ld_blt I hg hm hv ?_ hn hdb)
  exact PyProof.Rows.callWith_type1 (thn (ha pos pins s σ H _ I h) fun us s1 ⟨vs, H1, I1, r1, q1⟩ => hc pins s1 σ H1 vs us Q I1 r1 q1) he hpl
end
end L2

namespace HT
open PySem PyProof.Rows

/-- t < u of tuples of ints -/
def lexLt : List Int → List Int → Bool
  | [], [] => false
  | [], _ :: _ => true
  | _ :: _, [] => false
  | x :: xs, y :: ys => if x = y then lexLt xs ys else decide (x < y)
section
open PySem.SeqAt
open PySem.AutoSeq1 (wpAny_loadPart')
open PySem.MeetsSeq PySem.MeetsSeq2 PySem.MeetsSeq3

end

section
variable {prog : Program} {w : World} {A : Around} {E : Value → Shared → Prop} {s : Shared}

/-- t + u, t not empty -/
theorem cat_tup {t b : Addr} {vs ws : List Value} {Q : Value → Shared → Prop} (ht : IsTup s.heap t vs.toArray) (hb : IsTup s.heap b ws.toArray) (hv : vs ≠ [])
    (h1 : ws = [] → Q (.ref t) s) (h2 : ws ≠ [] → Q (.ref s.heap.objs.size) { s with heap := s.heap.push { cls := .type "tuple", data := .seq (vs ++ ws).toArray } })
    (hsz : vs.length + ws.length ≤ sizeLine) : wpAny (model prog w) A (binaryOp .Add (.ref t) (.ref b)) Q E s := by
  obtain ⟨⟨cls, dd, data, sl⟩, ho, hc, n, hd⟩ := id ht
  obtain ⟨⟨cls2, dd2, data2, sl2⟩, ho2, hc2, n2, hd2⟩ := id hb
  simp only at hc hd hc2 hd2
  subst hc hd hc2 hd2
  have e : vs.toArray ++ ws.toArray = (vs ++ ws).toArray := by simp
  by_cases hw : ws = []
  · exact concat_meets ⟨_, ho, rfl⟩ ⟨_, ho2, rfl⟩ noFill_tuple_add seq_tuple_add PySem.F.slot_tuple_add PySem.F.entry_tuple_add (PySem.F.args_tuple_add_2 _ _)
      (tuple_addW1 t b vs.toArray ws.toArray n n2 dd dd2 sl sl2 (by simpa using hv) (by simp [hw])) ⟨ho, ho2, h1 hw⟩
  · refine concat_meets ⟨_, ho, rfl⟩ ⟨_, ho2, rfl⟩ noFill_tuple_add seq_tuple_add PySem.F.slot_tuple_add PySem.F.entry_tuple_add (PySem.F.args_tuple_add_2 _ _)
      (tuple_addW2 t b vs.toArray ws.toArray n n2 dd dd2 sl sl2 (by simpa using hv) (by simpa using hw) (by rw [List.size_toArray, List.size_toArray]; exact hsz)) ⟨ho, ho2, ?_⟩
    rw [e]
    exact h2 hw

/-! ### t[a:b], not the whole -/
/-- a slice's bound as a place among n (d where it is left out) -/
def sIx (n d : Nat) : Option Int → Nat
  | none => d
  | some v => if v < 0 then (v + (n : Int)).toNat else min v.toNat n
theorem sIx_le (n d : Nat) (hd : d ≤ n) (o : Option Int) : sIx n d o ≤ n := by
  cases o with
  | none => exact hd
  | some v =>
    show (if v < 0 then (v + (n : Int)).toNat else min v.toNat n) ≤ n
    by_cases hv : v < 0
    · rw [if_pos hv]; omega
    · rw [if_neg hv]; exact Nat.min_le_right _ _
theorem clip_eq (v : Int) (n d : Nat) : (if v < 0 then max (v + (n : Int)) 0 else min v (n : Int)) = ((sIx n d (some v) : Nat) : Int) := by
  show (if v < 0 then max (v + (n : Int)) 0 else min v (n : Int)) = (((if v < 0 then (v + (n : Int)).toNat else min v.toNat n) : Nat) : Int)
  by_cases hv : v < 0
  · simp only [if_pos hv]; omega
  · simp only [if_neg hv]; omega
theorem adjust_gen (lo hi : Option Int) (n : Nat) : Builtin.Slice.sliceAdjust lo hi 1 (n : Int) = (((sIx n 0 lo : Nat) : Int), ((sIx n n hi : Nat) : Int)) := by
  have h1 : ¬ ((1 : Int) < 0) := by omega
  unfold Builtin.Slice.sliceAdjust
  simp only [h1, if_false]
  refine Prod.ext ?_ ?_
  · cases lo with
    | none => rfl
    | some v => exact clip_eq v n 0
  · cases hi with
    | none => rfl
    | some v => exact clip_eq v n n
theorem places_gen (i j : Nat) : Builtin.Slice.slicePlaces (i : Int) (j : Int) 1 = j - i := by
  unfold Builtin.Slice.slicePlaces
  have h1 : (1 : Int) > 0 := by omega
  simp only [h1, if_true, Int.ediv_one]
  split <;> omega
theorem slicePart_ {v : Value} {o : Option Int} {Q : Option Int → Shared → Prop} (p : IsPart v o) (h : Q o s) : wpAny (model prog w) A (Builtin.Slice.slicePartIndex v) Q E s := by
  cases p with
  | none => exact slicePart_none h
  | int i t => exact slicePart_int h
theorem sliceApplied_gen {sl : Addr} {vl vu : Value} {lo hi : Option Int} {n : Nat} {Q : Int × Int × Nat → Shared → Prop} (hs : s.heap.IsSliceOf sl vl vu .none) (pl : IsPart vl lo) (pu : IsPart vu hi)
    (h : Q (((sIx n 0 lo : Nat) : Int), 1, sIx n n hi - sIx n 0 lo) s) : wpAny (model prog w) A (Builtin.Slice.sliceApplied (.ref sl) (pure (n : Int))) Q E s := by
  obtain ⟨os, hos, hcs, hds⟩ := id hs
  unfold Builtin.Slice.sliceApplied Builtin.Slice.sliceFields
  refine wpAny_bind (wpAny_bind (wpAny_field hos hds (x := vl) rfl (wpAny_bind (wpAny_field hos hds (x := vu) rfl (wpAny_bind (wpAny_field hos hds (x := .none) rfl (wpAny_pure ?_)))))))
  refine wpAny_bind (slicePart_none ?_)
  show wpAny _ _ (if ((1 : Int) == 0) = true then _ else _) _ _ s
  rw [if_neg (by decide)]
  refine wpAny_bind (slicePart_ pl (wpAny_bind (slicePart_ pu (wpAny_bind (wpAny_pure ?_)))))
  show wpAny _ _ (match Builtin.Slice.sliceAdjust lo hi 1 (n : Int) with | (lo, hi) => pure (lo, (1 : Int), Builtin.Slice.slicePlaces lo hi 1)) _ _ s
  rw [adjust_gen lo hi n]
  show wpAny _ _ (pure (((sIx n 0 lo : Nat) : Int), (1 : Int), Builtin.Slice.slicePlaces ((sIx n 0 lo : Nat) : Int) ((sIx n n hi : Nat) : Int) 1)) _ _ s
  rw [places_gen]
  exact wpAny_pure h
theorem pick_gen (xs : Array Value) (i k : Nat) : ((List.range k).filterMap fun (m : Nat) => xs[((i : Int) + (m : Int) * 1).toNat]?).toArray = ((xs.toList.drop i).take k).toArray := by
  have e : (fun (m : Nat) => xs[((i : Int) + (m : Int) * 1).toNat]?) = fun m => xs[i + m]? := by
    funext m
    have : ((i : Int) + (m : Int) * 1).toNat = i + m := by omega
    rw [this]
  rw [e]
  have := pick_run xs i k
  rw [List.filterMap_map] at this
  have e2 : ((fun x => xs[x]?) ∘ fun x => i + x) = fun m => xs[i + m]? := rfl
  rw [e2] at this
  rw [this]

theorem getItem_tuple_cut {t sl : Addr} {items : Array Value} {vl vu : Value} {lo hi : Option Int} {Q : Value → Shared → Prop} (ht : IsTup s.heap t items) (hs : s.heap.IsSliceOf sl vl vu .none) (pl : IsPart vl lo) (pu : IsPart vu hi)
    (hw : ¬ (sIx items.size 0 lo = 0 ∧ sIx items.size items.size hi = items.size))
    (h : Q (.ref s.heap.objs.size) { s with heap := s.heap.push { cls := .type "tuple", data := .seq ((items.toList.drop (sIx items.size 0 lo)).take (sIx items.size items.size hi - sIx items.size 0 lo)).toArray } })
    (hsz : items.size ≤ sizeLine) : wpAny (model prog w) A (getItem (.ref t) (.ref sl)) Q E s := by
  have htake : sizeOk (.seq ((items.toList.drop (sIx items.size 0 lo)).take (sIx items.size items.size hi - sIx items.size 0 lo)).toArray) := by
    show ((items.toList.drop (sIx items.size 0 lo)).take (sIx items.size items.size hi - sIx items.size 0 lo)).toArray.size ≤ sizeLine
    rw [List.size_toArray, List.length_take, List.length_drop, Array.length_toList]
    omega
  have hj : sIx items.size items.size hi ≤ items.size := sIx_le _ _ (Nat.le_refl _) hi
  obtain ⟨os, hos, hcs, hds⟩ := id hs
  have hTs : s.TypeIs (.ref sl) "slice" := ⟨os, hos, hcs⟩
  unfold getItem
  try with_reducible refine wpAny_holding ?_
  first | refine wpAny_bind (wpAny_pure ?_) | skip
  refine wpAny_bind (wpAny_sequenceKey ht.typeIs (by decide) ?_)
  refine wpAny_bind (wpAny_callSpecial?_slot (name := Str.ofString "__getitem__") ht.typeIs PyProof.Rows.slot_tuple_getitem
    (wpAny_call_entry PyProof.Rows.slot_tuple_getitem ht.typeIs entry_tuple_getitem ?_ (args_tuple_getitem _ _)))
  show wpAny _ _ (Builtin.Tuple.tupleItemsOf (.ref t) >>= _) _ _ s
  refine wpAny_bind (tupleItemsOf_ ht ?_)
  refine wpAny_bind (wpAny_typeOf hTs ?_)
  rw [if_pos (by decide)]
  refine wpAny_bind (sliceApplied_gen hs pl pu ?_)
  have hno : ¬ ((((sIx items.size 0 lo : Nat) : Int) == 0 && (1 : Int) == 1 && (sIx items.size items.size hi - sIx items.size 0 lo) == items.size) = true) := by
    intro q
    rw [Bool.and_eq_true, Bool.and_eq_true] at q
    have q1 : ((sIx items.size 0 lo : Nat) : Int) = 0 := eq_of_beq q.1.1
    have q2 : sIx items.size items.size hi - sIx items.size 0 lo = items.size := eq_of_beq q.2
    exact hw ⟨by omega, by omega⟩
  show wpAny _ _ (if (((sIx items.size 0 lo : Nat) : Int) == 0 && (1 : Int) == 1 && (sIx items.size items.size hi - sIx items.size 0 lo) == items.size) = true then _ else _) _ _ s
  rw [if_neg hno, pick_gen]
  first
    | exact wpAny_bind (m := Builtin.Tuple.tupleExact _) (wpAny_newObj_type (wpAny_pure ⟨_, rfl, wpAny_pure h⟩) htake)
    | exact wpAny_bind (m := Builtin.Tuple.tupleExact _) (wpAny_newObj_type (wpAny_bind (wpAny_pure (wpAny_pure ⟨_, rfl, wpAny_pure h⟩))) htake)
    | exact wpAny_bind (wpAny_bind (m := Builtin.Tuple.tupleExact _) (wpAny_newObj_type (wpAny_pure (wpAny_pure ⟨_, rfl, wpAny_pure h⟩)) htake))
    | exact wpAny_bind (wpAny_bind (m := Builtin.Tuple.tupleExact _) (wpAny_newObj_type (wpAny_pure ⟨_, rfl, wpAny_pure h⟩) htake))
end
end HT

namespace L2
open PySem PySem.Spec PyProof.Rows

/-! ### the parts of a slice -/
abbrev TO := St → Hp → (Option Int → Hp → Prop) → Prop
/-- a slice's part (left out, or an int) -/
structure PO (X : Cx) (e : Option Expr) (t : TO) : Prop where
  run : ∀ (pins : List (Addr × Obj)) (s : Shared) (σ : St) (H : Hp) (Q : Option Int → Hp → Prop), Inv X pins σ H s → t σ H Q →
    wpAny (model X.prog X.w) X.A (evalPart e X.env) (fun u s' => ∃ o H', Inv X pins σ H' s' ∧ IsPart u o ∧ Q o H') X.xe s
instance {X : Cx} {e : Option Expr} {t : TO} : CoeFun (PO X e t) (fun _ => ∀ (pins : List (Addr × Obj)) (s : Shared) (σ : St) (H : Hp) (Q : Option Int → Hp → Prop), Inv X pins σ H s → t σ H Q →
    wpAny (model X.prog X.w) X.A (evalPart e X.env) (fun u s' => ∃ o H', Inv X pins σ H' s' ∧ IsPart u o ∧ Q o H') X.xe s) := ⟨PO.run⟩
def tNoPart : TO := fun _ H Q => Q none H
def tPart (t : TE) : TO := fun σ H Q => t σ H fun x H1 => ∃ i, x = .int i ∧ Q (some i) H1

section
variable {X : Cx} {e : Expr} {te : TE} {lo hi : Option Expr} {tl th : TO} {pos p2 : Pos}

theorem po_none : PO X none tNoPart := by
  constructor
  intro pins s σ H Q I h
  rw [evalPart_none]
  exact wpAny_pure ⟨none, H, I, .none, h⟩
theorem po_some (h : PE X e te) : PO X (some e) (tPart te) := by
  constructor
  intro pins s σ H Q I hw
  rw [evalPart_some]
  refine thn (h pins s σ H _ I hw) fun u s1 ⟨x, H1, I1, r1, q1⟩ => ?_
  obtain ⟨i, rfl, q⟩ := q1
  obtain ⟨t, rfl⟩ := r1
  exact ⟨some i, H1, I1, .int i t, q⟩

/-- what a slice of a value is, by values: the slice object stands at sl -/
def SlR (X : Cx) (r : V → Option Int → Option Int → Hp → VK → Prop) : Prop :=
  ∀ (pins : List (Addr × Obj)) (s : Shared) (σ : St) (H : Hp) (x : V) (v vl vu : Value) (lo hi : Option Int) (sl : Addr) (Q : VK), Inv X pins σ H s → RelV x v → s.heap.IsSliceOf sl vl vu .none → IsPart vl lo → IsPart vu hi → r x lo hi H Q →
    ∃ T id, typeLookup (.type T) "__getitem__" = pure (some (.builtin id)) ∧ s.TypeIs v T ∧ wpAny (model X.prog X.w) X.A (getItem v (.ref sl)) (EP X pins σ Q) X.xe s
theorem SlR.or {r r' : V → Option Int → Option Int → Hp → VK → Prop} (h : SlR X r) (h' : SlR X r') : SlR X (fun x lo hi H Q => r x lo hi H Q ∨ r' x lo hi H Q) := by
  intro pins s σ H x v vl vu lo hi sl Q I rx hs pl pu q
  rcases q with q | q
  · exact h pins s σ H x v vl vu lo hi sl Q I rx hs pl pu q
  · exact h' pins s σ H x v vl vu lo hi sl Q I rx hs pl pu q
def tSl (r : V → Option Int → Option Int → Hp → VK → Prop) (te : TE) (tl th : TO) : TE := fun σ H Q => te σ H fun x H1 => tl σ H1 fun l H2 => th σ H2 fun u H3 => r x l u H3 Q
/-- a[lo:hi], any a -/
theorem pe_slice {r : V → Option Int → Option Int → Hp → VK → Prop} (hr : SlR X r) (he : PE X e te) (hl : PO X lo tl) (hu : PO X hi th) : PE X (.Subscript e (.Slice lo hi none p2) pos) (tSl r te tl th) := by
  constructor
  intro pins s σ H Q I h
  refine Subscript_ (thn (he pins s σ H _ I h) fun v s1 ⟨x, H1, I1, r1, q1⟩ => ?_)
  refine wpAny_Slice (thn (hl pins s1 σ H1 _ I1 q1) fun vl s2 ⟨l, H2, I2, pl, q2⟩ => thn (hu pins s2 σ H2 _ I2 q2) fun vu s3 ⟨u, H3, I3, pu, q3⟩ => ?_)
  rw [evalPart_none]
  refine wpAny_pure ?_
  have I4 : Inv X pins σ H3 { s3 with heap := s3.heap.push { cls := .type "slice", data := .fields #[vl, vu, .none] } } := I3.kept (t' := s3.toks) fun b ob q => Heap.get?_push_of_some _ q
  obtain ⟨T, id, hT, ht, hg⟩ := hr pins { s3 with heap := s3.heap.push { cls := .type "slice", data := .fields #[vl, vu, .none] } } σ H3 x v vl vu l u s3.heap.objs.size Q I4 r1 (Heap.IsSliceOf.new ..) pl pu q3
  show wpAny (model X.prog X.w) X.A (subscriptTail e (.Slice lo hi none p2) v (.ref s3.heap.objs.size)) (EP X pins σ Q) X.xe { s3 with heap := s3.heap.push { cls := .type "slice", data := .fields #[vl, vu, .none] } }
  exact tail_any (ops := [.ref s3.heap.objs.size, v]) ht hT hg (by with_unfolding_all rfl)

/-- the items of xs[lo:hi] -/
def cutV (xs : List V) (lo hi : Option Int) : List V := (xs.drop (HT.sIx xs.length 0 lo)).take (HT.sIx xs.length xs.length hi - HT.sIx xs.length 0 lo)
theorem cutV_length (xs : List V) (lo hi : Option Int) : (cutV xs lo hi).length ≤ xs.length := by
  unfold cutV
  rw [List.length_take, List.length_drop]
  omega
/-- t[lo:hi], not the whole of it (the whole would be t itself) -/
def rSlT (K : PySem.W.Frag) : V → Option Int → Option Int → Hp → VK → Prop := fun x lo hi H Q => ∃ a xs, x = .ref a ∧ SqT K H a xs ∧
  ¬ (HT.sIx xs.length 0 lo = 0 ∧ HT.sIx xs.length xs.length hi = xs.length) ∧ ∀ p, H p = none → Q (.ref p) (upd H p (.tup (cutV xs lo hi)))
theorem sl_tup : SlR X (rSlT X.K) := by
  intro pins s σ H x v vl vu lo hi sl Q I rx hs pl pu h
  obtain ⟨a, xs, rfl, hx, hw, q⟩ := h
  cases rx
  obtain ⟨its, r, ht, hz⟩ := I.tuple hx
  have hlen : its.toArray.size = xs.length := by rw [List.size_toArray]; exact r.length.symm
  refine ⟨"tuple", _, PyProof.Rows.slot_tuple_getitem.lookup, ht.typeIs, ?_⟩
  refine HT.getItem_tuple_cut ht hs pl pu (by rw [hlen]; exact hw) ?_ (by rw [hlen]; exact hz)
  rw [hlen]
  refine ⟨.ref s.heap.objs.size, _, I.laid (t' := s.toks) (o := .tup (cutV xs lo hi)) (fun b ob q => Heap.get?_push_of_some _ q) (Nat.le_refl _) ?_, rfl, q _ (I.hok.fresh (Nat.le_refl _))⟩
  exact ⟨Nat.le_trans (cutV_length xs lo hi) hz, _, (r.drop (HT.sIx xs.length 0 lo)).take (HT.sIx xs.length xs.length hi - HT.sIx xs.length 0 lo), IsTup.new _ _⟩

/-! ### t < u, t + u -/
/-- t + u, t not empty: u empty gives t itself -/
def rCatT (K : PySem.W.Frag) : R2 := fun x y H Q => ∃ a b xs ys, x = .ref a ∧ y = .ref b ∧ SqT K H a xs ∧ SqT K H b ys ∧ xs ≠ [] ∧ xs.length + ys.length ≤ sizeLine ∧
  (ys = [] → Q (.ref a) H) ∧ (ys ≠ [] → ∀ p, H p = none → Q (.ref p) (upd H p (.tup (xs ++ ys))))
theorem Vals.nil_iff {xs : List V} {us : List Value} (r : Vals xs us) : us = [] ↔ xs = [] := by
  cases r with
  | nil => simp
  | cons _ _ => simp
theorem op_catT : OpR X (binaryOp .Add) (rCatT X.K) := by
  intro pins s σ H x y v u Q I rx ry h
  obtain ⟨a, b, xs, ys, rfl, rfl, ha, hb, hx, hz, q1, q2⟩ := h
  cases rx
  cases ry
  obtain ⟨its, r1, p1, _⟩ := I.tuple ha
  obtain ⟨its2, r2, p2, _⟩ := I.tuple hb
  refine HT.cat_tup p1 p2 (fun z => hx (r1.nil_iff.mp z)) (fun z => ⟨.ref a, H, I, rfl, q1 (r2.nil_iff.mp z)⟩) (fun z => ?_) (by rw [← r1.length, ← r2.length]; exact hz)
  refine ⟨.ref s.heap.objs.size, _, I.laid (t' := s.toks) (o := .tup (xs ++ ys)) (fun b ob q => Heap.get?_push_of_some _ q) (Nat.le_refl _) ?_, rfl, q2 (fun w => z (r2.nil_iff.mpr w)) _ (I.hok.fresh (Nat.le_refl _))⟩
  exact ⟨by rw [List.length_append]; exact hz, _, r1.append r2, IsTup.new _ _⟩
end
end L2

namespace L2
open PySem PySem.Spec PyProof.Rows

/-! ### places -/
/-- the place that an index of any sign means -/
def ixN (n : Nat) (i : Int) : Option Nat := if 0 ≤ i then (if i < n then some i.toNat else none) else if -(n : Int) ≤ i then some (i + n).toNat else none
def atI {α : Type} (xs : List α) (i : Int) : Option α := (ixN xs.length i).bind fun j => xs[j]?
theorem ixN_seq {n : Nat} {i : Int} {j : Nat} (h : ixN n i = some j) : seqIndex? i n = some j ∧ j < n ∧ -(n : Int) ≤ i ∧ i < n := by
  unfold ixN at h
  by_cases h0 : 0 ≤ i
  · rw [if_pos h0] at h
    by_cases h1 : i < n
    · rw [if_pos h1] at h
      have e : i.toNat = j := Option.some.inj h
      exact ⟨by rw [seqIndex_of h0 h1, e], by omega, by omega, h1⟩
    · rw [if_neg h1] at h; cases h
  · rw [if_neg h0] at h
    by_cases h1 : -(n : Int) ≤ i
    · rw [if_pos h1] at h
      have e : (i + n).toNat = j := Option.some.inj h
      exact ⟨by rw [seqIndex_neg (by omega) h1, e], by omega, h1, by omega⟩
    · rw [if_neg h1] at h; cases h
theorem atI_get {α : Type} {xs : List α} {i : Int} {v : α} (h : atI xs i = some v) : ∃ j, seqIndex? i xs.length = some j ∧ xs[j]? = some v ∧ j < xs.length ∧ -(xs.length : Int) ≤ i ∧ i < xs.length := by
  unfold atI at h
  cases e : ixN xs.length i with
  | none => rw [e] at h; cases h
  | some j =>
    rw [e] at h
    obtain ⟨h1, h2, h3, h4⟩ := ixN_seq e
    exact ⟨j, h1, h, h2, h3, h4⟩
theorem atI_nat {α : Type} {xs : List α} {j : Nat} {v : α} (h : xs[j]? = some v) : atI xs (j : Int) = some v := by
  have hj : j < xs.length := (List.getElem?_eq_some_iff.mp h).1
  have e : ixN xs.length (j : Int) = some j := by
    unfold ixN
    rw [if_pos (by omega), if_pos (by omega)]; simp
  unfold atI; rw [e]; exact h
/-! ### what may be subscripted -/
/-- what stands as an index of a plain subscript -/
def PlainIx (b : Expr) : Prop := ∀ o i, subscripted b false o i = operate [o, i] (getItem o i)
/-- a subscript by values -/
def IxR (X : Cx) (r : R2) : Prop :=
  ∀ (value slice : Expr) (pins : List (Addr × Obj)) (s : Shared) (σ : St) (H : Hp) (x y : V) (v u : Value) (Q : VK), Inv X pins σ H s → RelV x v → RelV y u → r x y H Q →
    subscripted slice false v u = operate [v, u] (getItem v u) → wpAny (model X.prog X.w) X.A (subscriptTail value slice v u) (EP X pins σ Q) X.xe s
/-- a call of a builtin's method by values: the receiver, the arguments -/
def MtR (X : Cx) (id : String) (r : V → List V → Hp → VK → Prop) : Prop :=
  ∀ (pins : List (Addr × Obj)) (s : Shared) (σ : St) (H : Hp) (x : V) (xs : List V) (v : Value) (us : List Value) (Q : VK), Inv X pins σ H s → RelV x v → Vals xs us → r x xs H Q →
    wpAny (model X.prog X.w) X.A (call (.builtin id) (v :: us)) (EP X pins σ Q) X.xe s
section
variable {X : Cx} {a b : Expr} {ta tb : TE} {pos : Pos}
theorem IxR.or {r r' : R2} (h : IxR X r) (h' : IxR X r') : IxR X (fun x y H Q => r x y H Q ∨ r' x y H Q) := by
  intro value slice pins s σ H x y v u Q I rx ry q hs
  rcases q with q | q
  · exact h value slice pins s σ H x y v u Q I rx ry q hs
  · exact h' value slice pins s σ H x y v u Q I rx ry q hs
theorem MtR.or {id : String} {r r' : V → List V → Hp → VK → Prop} (h : MtR X id r) (h' : MtR X id r') : MtR X id (fun x xs H Q => r x xs H Q ∨ r' x xs H Q) := by
  intro pins s σ H x xs v us Q I rx rs q
  rcases q with q | q
  · exact h pins s σ H x xs v us Q I rx rs q
  · exact h' pins s σ H x xs v us Q I rx rs q
/-- a[b] -/
theorem pe_ix {r : R2} (hr : IxR X r) (ha : PE X a ta) (hb : PE X b tb) (hs : PlainIx b) : PE X (.Subscript a b pos) (tOp r ta tb) := by
  constructor
  intro pins s σ H Q I h
  exact Subscript_ (binT ha hb I h fun v u s2 x y H2 I2 rx ry q => hr a b pins s2 σ H2 x y v u Q I2 rx ry q (hs _ _))

def rIxL (K : PySem.W.Frag) : R2 := fun x y H Q => ∃ p xs i v, x = .ref p ∧ y = .int i ∧ SqL K H p xs ∧ atI xs i = some v ∧ Q v H
def rIxT (K : PySem.W.Frag) : R2 := fun x y H Q => ∃ p xs i v, x = .ref p ∧ y = .int i ∧ SqT K H p xs ∧ atI xs i = some v ∧ Q v H
def rIxS : R2 := fun x y H Q => ∃ z i c, x = .str z ∧ y = .int i ∧ z.length ≤ sizeLine ∧ atI z.cps.toList i = some c ∧ Q (.str ⟨#[c]⟩) H
theorem ix_list : IxR X (rIxL X.K) := by
  intro value slice pins s σ H x y v u Q I rx ry h hs
  obtain ⟨p, xs, i, z, rfl, rfl, hq, he, q⟩ := h
  cases rx
  obtain ⟨t, rfl⟩ := ry
  obtain ⟨its, r, pl, hz⟩ := I.list hq
  obtain ⟨j, h1, h2, h3, h4, h5⟩ := atI_get he
  obtain ⟨w, ew, rw'⟩ := r.get h2
  have hl := r.length
  have hn := line63
  have fin : EP X pins σ Q w s := ⟨z, H, I, rw', q⟩
  by_cases h0 : 0 ≤ i
  · have hj : i.toNat = j := by
      rw [seqIndex_of h0 h5] at h1
      exact Option.some.inj h1
    exact item_listR pl.isList h0 (by omega) (by rw [hj]; simpa using ew) fin hs
  · have hj : (i + (its.toArray.size : Int)).toNat = j := by
      rw [seqIndex_neg (by omega) h4] at h1
      rw [List.size_toArray, ← hl]
      exact Option.some.inj h1
    exact subscriptTail_builtinR (x := w) pl.isList.typeIs slot_list_getitem.lookup
      (wpAny_getItem_list_neg (Q := fun r s' => r = w ∧ EP X pins σ Q r s') pl.isList (by omega) (by rw [List.size_toArray] <;> omega) (by omega) (by rw [hj]; simpa using ew) ⟨rfl, fin⟩) hs
theorem ix_tup : IxR X (rIxT X.K) := by
  intro value slice pins s σ H x y v u Q I rx ry h hs
  obtain ⟨p, xs, i, z, rfl, rfl, hq, he, q⟩ := h
  cases rx
  obtain ⟨t, rfl⟩ := ry
  obtain ⟨its, r, pl, hz⟩ := I.tuple hq
  obtain ⟨j, h1, h2, h3, h4, h5⟩ := atI_get he
  obtain ⟨w, ew, rw'⟩ := r.get h2
  have hl := r.length
  have hn := line63
  have fin : EP X pins σ Q w s := ⟨z, H, I, rw', q⟩
  exact subscriptTail_builtinR (x := w) pl.typeIs slot_tuple_getitem.lookup
    (getItem_tuple (j := j) (Q := fun r s' => r = w ∧ EP X pins σ Q r s') pl (by omega) (by omega) (by rw [List.size_toArray, ← hl]; exact h1) (by simpa using ew) ⟨rfl, fin⟩) hs
theorem ix_str : IxR X rIxS := by
  intro value slice pins s σ H x y v u Q I rx ry h hs
  obtain ⟨z, i, c, rfl, rfl, hz, he, q⟩ := h
  obtain ⟨t, rfl⟩ := rx
  obtain ⟨t', rfl⟩ := ry
  obtain ⟨j, h1, h2, h3, h4, h5⟩ := atI_get he
  have hl : z.cps.toList.length = z.length := by simp [Str.length]
  rw [hl] at h1 h4 h5
  have hn := line63
  exact tail_any (typeIs_str s z t) slot_str_getitem.lookup (getItem_str (c := c) (by
    have e1 : decide (i < -(2 ^ 63 : Int)) = false := decide_eq_false (by omega)
    have e2 : decide (i ≥ 2 ^ 63) = false := decide_eq_false (by omega)
    rw [e1, e2, Bool.or_false]) (by rw [h1]; simpa using h2) ⟨.str ⟨#[c]⟩, H, I.tok _, ⟨_, rfl⟩, q⟩) hs
/-- list, tuple or str -/
def rIx (K : PySem.W.Frag) : R2 := fun x y H Q => rIxL K x y H Q ∨ rIxT K x y H Q ∨ rIxS x y H Q
theorem ix_seq : IxR X (rIx X.K) := ix_list.or (ix_tup.or ix_str)

/-! ### xs[i] = v, any sign -/
/-- the list's object behind a store -/
theorem mapSeq_set (its : List Value) (n j : Nat) (u : Value) : Obj.mapSeq (·.setIfInBounds j u) { cls := .type "list", data := .seq its.toArray n } = { cls := .type "list", data := .seq (its.set j u).toArray n } := by
  simp [Obj.mapSeq]
theorem Inv.lst {pins : List (Addr × Obj)} {σ : St} {H : Hp} {s : Shared} {p : Addr} {xs : List V} (I : Inv X pins σ H s) (h : H p = some (.lst xs)) :
    ∃ (its : List Value) (n : Nat), Vals xs its ∧ s.heap.get? p = some { cls := .type "list", data := .seq its.toArray n } ∧ xs.length ≤ sizeLine := by
  obtain ⟨z, its, n, r, e⟩ := I.hok p _ h
  exact ⟨its, n, r, e, z⟩
/-- the list at p is written by an update of its object -/
theorem Inv.lstUpd {pins : List (Addr × Obj)} {σ : St} {H : Hp} {s : Shared} {p : Addr} {xs ys : List V} {its its' : List Value} {n n' : Nat} {f : Obj → Obj} (I : Inv X pins σ H s) (h : H p = some (.lst xs))
    (ho : s.heap.get? p = some { cls := .type "list", data := .seq its.toArray n }) (hf : f { cls := .type "list", data := .seq its.toArray n } = { cls := .type "list", data := .seq its'.toArray n' }) (r : Vals ys its') (hz : ys.length ≤ sizeLine) (t : Nat) :
    Inv X pins σ (upd H p (.lst ys)) { s with heap := s.heap.update p f, toks := t } := by
  have e : (s.heap.update p f).get? p = some { cls := .type "list", data := .seq its'.toArray n' } := by
    rw [Heap.get?_update_self f ho (by rw [hf] <;> rfl), hf]
  refine I.write (x := p) (e := p) (by rw [h]; trivial) (.inl rfl) (fun b u hb q => (Heap.get?_update_other _ _ (Ne.symm hb)).trans q) ⟨_, e⟩ ?_
  exact ⟨hz, its', n', r, e⟩
def rSetL : V → V → V → Hp → (Hp → Prop) → Prop := fun o i v H Q => ∃ p xs k j, o = .ref p ∧ i = .int k ∧ H p = some (.lst xs) ∧ ixN xs.length k = some j ∧ Q (upd H p (.lst (xs.set j v)))
theorem set_list : PSet X rSetL := by
  intro pins s σ H o i v ov iv u Q I ro ri rv h
  obtain ⟨p, xs, k, j, rfl, rfl, hp, hj, q⟩ := h
  cases ro
  obtain ⟨t, rfl⟩ := ri
  obtain ⟨its, n, r, ho, hz⟩ := I.lst hp
  obtain ⟨h1, h2, h3, h4⟩ := ixN_seq hj
  have hl := r.length
  have hn := line63
  have I' : Inv X pins σ (upd H p (.lst (xs.set j v))) { s with heap := s.heap.update p (Obj.mapSeq (·.setIfInBounds j u)) } :=
    I.lstUpd hp ho (mapSeq_set its n j u) (r.set rv j) (by rw [List.length_set]; exact hz) s.toks
  by_cases h0 : 0 ≤ k
  · have hk : k.toNat = j := by
      rw [seqIndex_of h0 h4] at h1
      exact Option.some.inj h1
    exact PySem.W.ki_setAt ho h0 (by omega) (by rw [List.size_toArray, ← hl]; exact h4) (by rw [hk]; exact ⟨_, I', q⟩)
  · have hk : (k + (its.toArray.size : Int)).toNat = j := by
      rw [seqIndex_neg (by omega) h3] at h1
      rw [List.size_toArray, ← hl]
      exact Option.some.inj h1
    exact PySem.W.ki_setBack ho (by omega) (by rw [List.size_toArray, ← hl]; exact h3) (by omega) (by rw [hk]; exact ⟨_, I', q⟩)

/-! ### slices -/
theorem slice_bounds (lo hi : Option Int) (n : Nat) : (sliceBounds lo hi none n).1 = ((HT.sIx n 0 lo : Nat) : Int) ∧ (sliceBounds lo hi none n).2.1 = ((HT.sIx n n hi : Nat) : Int) ∧ (sliceBounds lo hi none n).2.2 = 1 := by
  refine ⟨?_, ?_, rfl⟩
  · cases lo with
    | none => simp [sliceBounds, HT.sIx]
    | some i =>
      simp only [sliceBounds, HT.sIx, Option.getD_none, show (1 : Int) > 0 by decide, if_true]
      by_cases h : i < 0
      · simp only [h, if_true] <;> omega
      · simp only [h, if_false] <;> omega
  · cases hi with
    | none => simp [sliceBounds, HT.sIx]
    | some i =>
      simp only [sliceBounds, HT.sIx, Option.getD_none, show (1 : Int) > 0 by decide, if_true]
      by_cases h : i < 0
      · simp only [h, if_true] <;> omega
      · simp only [h, if_false] <;> omega
theorem slicePick_cut (its : List Value) (lo hi : Option Int) : slicePick its.toArray lo hi none = ((its.drop (HT.sIx its.length 0 lo)).take (HT.sIx its.length its.length hi - HT.sIx its.length 0 lo)).toArray := by
  obtain ⟨h1, h2, h3⟩ := slice_bounds lo hi its.toArray.size
  unfold slicePick
  rw [h1, h2, h3]
  simp only [sliceRange_one, pick_run, List.size_toArray] <;> rfl
/-- xs[lo:hi] of a list: a new list -/
def rSlL (K : PySem.W.Frag) : V → Option Int → Option Int → Hp → VK → Prop := fun x lo hi H Q => ∃ a xs, x = .ref a ∧ SqL K H a xs ∧ ∀ p, H p = none → Q (.ref p) (upd H p (.lst (cutV xs lo hi)))
theorem sl_list : SlR X (rSlL X.K) := by
  intro pins s σ H x v vl vu lo hi sl Q I rx hs pl pu h
  obtain ⟨a, xs, rfl, hx, q⟩ := h
  cases rx
  obtain ⟨its, r, ht, hz⟩ := I.list hx
  have hlen := r.length
  refine ⟨"list", _, slot_list_getitem.lookup, ht.isList.typeIs, ?_⟩
  refine wpAny_getItem_list_slice ht.isList hs pl pu .none (by simp) ?_ (by rw [List.size_toArray] <;> omega)
  rw [slicePick_cut, ← hlen]
  refine ⟨.ref s.heap.objs.size, _, I.laid (t' := s.toks) (o := .lst (cutV xs lo hi)) (fun b ob q => Heap.get?_push_of_some _ q) (Nat.le_refl _) ?_, rfl, q _ (I.hok.fresh (Nat.le_refl _))⟩
  exact ⟨Nat.le_trans (cutV_length xs lo hi) hz, _, 0, (r.drop (HT.sIx xs.length 0 lo)).take (HT.sIx xs.length xs.length hi - HT.sIx xs.length 0 lo), Heap.get?_push_size _ rfl⟩

/-! ### in, not in: flat items -/
def flatV : V → Bool
  | .non => true
  | .bl _ => true
  | .int _ => true
  | .str _ => true
  | _ => false
/-- == of flat values -/
def eqV : V → V → Bool
  | .non, .non => true
  | .bl a, .bl b => a == b
  | .bl a, .int b => (if a then 1 else 0) == b
  | .int a, .bl b => a == (if b then 1 else 0)
  | .int a, .int b => a == b
  | .str a, .str b => a == b
  | _, _ => false
theorem eqAt_V {A : Around} {s : Shared} {y x : V} {u v : Value} (ry : RelV y u) (rx : RelV x v) (fy : flatV y = true) (fx : flatV x = true) : SeqAt.EqAt A s u v (eqV y x) := by
  cases y with
  | non =>
    cases ry
    cases x with
    | non => cases rx; exact SeqAt.EqAt.same _
    | bl b => cases rx; exact SeqAt.EqAt.none_bool b
    | int b => obtain ⟨t, rfl⟩ := rx; exact SeqAt.EqAt.none_int b t
    | str b => obtain ⟨t, rfl⟩ := rx; exact SeqAt.EqAt.none_str b t
    | _ => exact absurd (show false = true from fx) Bool.false_ne_true
  | bl a =>
    cases ry
    cases x with
    | non => cases rx; exact SeqAt.EqAt.bool_none a
    | bl b => cases rx; exact SeqAt.EqAt.bool_bool a b
    | int b => obtain ⟨t, rfl⟩ := rx; exact SeqAt.EqAt.bool_int a b t
    | str b => obtain ⟨t, rfl⟩ := rx; exact SeqAt.EqAt.bool_str a b t
    | _ => exact absurd (show false = true from fx) Bool.false_ne_true
  | int a =>
    obtain ⟨t', rfl⟩ := ry
    cases x with
    | non => cases rx; exact SeqAt.EqAt.int_none a t'
    | bl b => cases rx; exact SeqAt.EqAt.int_bool a t' b
    | int b => obtain ⟨t, rfl⟩ := rx; exact SeqAt.EqAt.int_int a t' b t
    | str b => obtain ⟨t, rfl⟩ := rx; exact SeqAt.EqAt.int_str a t' b t
    | _ => exact absurd (show false = true from fx) Bool.false_ne_true
  | str a =>
    obtain ⟨t', rfl⟩ := ry
    cases x with
    | non => cases rx; exact SeqAt.EqAt.str_none a t'
    | bl b => cases rx; exact SeqAt.EqAt.str_bool a t' b
    | int b => obtain ⟨t, rfl⟩ := rx; exact SeqAt.EqAt.str_int a t' b t
    | str b => obtain ⟨t, rfl⟩ := rx; exact SeqAt.EqAt.str_str a t' b t
    | _ => exact absurd (show false = true from fx) Bool.false_ne_true
  | _ => exact absurd (show false = true from fy) Bool.false_ne_true
/-- the items' answers, read off the values (a value's own answer does not lean on its token) -/
def eqU (x : V) (u : Value) : Bool := match u with
  | .none => eqV .non x
  | .bool b => eqV (.bl b) x
  | .int i _ => eqV (.int i) x
  | .str z _ => eqV (.str z) x
  | _ => false
theorem eqU_of {x y : V} {u : Value} (r : RelV y u) (f : flatV y = true) : eqU x u = eqV y x := by
  cases y with
  | non => cases r; rfl
  | bl b => cases r; rfl
  | int i => obtain ⟨t, rfl⟩ := r; rfl
  | str z => obtain ⟨t, rfl⟩ := r; rfl
  | _ => exact absurd (show false = true from f) Bool.false_ne_true
theorem any_eqU {x : V} : ∀ {xs : List V} {us : List Value}, Vals xs us → xs.all flatV = true → us.any (eqU x) = xs.any fun y => eqV y x
  | _, _, .nil, _ => rfl
  | y :: xs, u :: us, .cons r t, f => by
    rw [List.all_cons, Bool.and_eq_true] at f
    rw [List.any_cons, List.any_cons, eqU_of r f.1, any_eqU t f.2]
theorem mem_eqAt {A : Around} {s : Shared} {x : V} {v : Value} (rx : RelV x v) (fx : flatV x = true) : ∀ {xs : List V} {us : List Value}, Vals xs us → xs.all flatV = true → ∀ u ∈ us, SeqAt.EqAt A s u v (eqU x u)
  | _, _, .nil, _ => fun u hu => by cases hu
  | y :: xs, u :: us, .cons r t, f => fun u' hu => by
    rw [List.all_cons, Bool.and_eq_true] at f
    rcases List.mem_cons.mp hu with rfl | hu
    · rw [eqU_of r f.1]; exact eqAt_V r rx f.1 fx
    · exact mem_eqAt rx fx t f.2 u' hu
def inV (x : V) (xs : List V) : Bool := xs.any fun y => eqV y x
/-- x in a list or tuple of flat items -/
def rIn (K : PySem.W.Frag) (neg : Bool) : R2 := fun x y H Q => ∃ p xs, y = .ref p ∧ (SqL K H p xs ∨ SqT K H p xs) ∧ flatV x = true ∧ xs.all flatV = true ∧ Q (.bl (if neg then !inV x xs else inV x xs)) H
theorem op_in_seq : OpR X (compareOp .In) (rIn X.K false) := by
  intro pins s σ H x y v u Q I rx ry h
  obtain ⟨p, xs, rfl, hq, fx, fs, q⟩ := h
  cases ry
  rcases hq with hq | hq
  · obtain ⟨its, r, pl, hz⟩ := I.list hq
    refine SeqAt.in_listAt (eqU x) pl.isList (fun w hw => mem_eqAt rx fx r fs w (by simpa using hw)) ⟨.bl _, H, I, rfl, ?_⟩
    rw [show its.toArray.any (eqU x) = its.any (eqU x) by simp, any_eqU r fs]
    exact q
  · obtain ⟨its, r, pl, hz⟩ := I.tuple hq
    refine SeqAt.in_tupleAt (eqU x) pl (fun w hw => mem_eqAt rx fx r fs w (by simpa using hw)) ⟨.bl _, H, I, rfl, ?_⟩
    rw [show its.toArray.any (eqU x) = its.any (eqU x) by simp, any_eqU r fs]
    exact q
theorem op_notIn_seq : OpR X (compareOp .NotIn) (rIn X.K true) := by
  intro pins s σ H x y v u Q I rx ry h
  obtain ⟨p, xs, rfl, hq, fx, fs, q⟩ := h
  cases ry
  rcases hq with hq | hq
  · obtain ⟨its, r, pl, hz⟩ := I.list hq
    refine SeqAt.notIn_listAt (eqU x) pl.isList (fun w hw => mem_eqAt rx fx r fs w (by simpa using hw)) ⟨.bl _, H, I, rfl, ?_⟩
    rw [show its.toArray.any (eqU x) = its.any (eqU x) by simp, any_eqU r fs]
    exact q
  · obtain ⟨its, r, pl, hz⟩ := I.tuple hq
    refine SeqAt.notIn_tupleAt (eqU x) pl (fun w hw => mem_eqAt rx fx r fs w (by simpa using hw)) ⟨.bl _, H, I, rfl, ?_⟩
    rw [show its.toArray.any (eqU x) = its.any (eqU x) by simp, any_eqU r fs]
    exact q
/-! ### len, list(x), tuple(x) of any list or tuple that is read -/
theorem call_len_seq : CallR X (.builtin "len") (fun xs H Q => ∃ p ys, xs = [.ref p] ∧ (SqL X.K H p ys ∨ SqT X.K H p ys) ∧ Q (.int ys.length) H) := by
  intro pins s σ H xs us Q I r h
  obtain ⟨p, ys, rfl, hq, q⟩ := h
  obtain ⟨u, rfl, rx⟩ := vals1 r
  cases rx
  have hn := line63
  rcases hq with hq | hq
  · obtain ⟨its, r', pl, hz⟩ := I.list hq
    have hlen := r'.length
    exact Calls.call_len_list pl.isList (by simp only [List.size_toArray] <;> omega) ⟨.int ys.length, H, I.tok _, ⟨s.toks + 1, by rw [List.size_toArray, hlen]⟩, q⟩
  · obtain ⟨its, r', pl, hz⟩ := I.tuple hq
    have hlen := r'.length
    exact len_tuple pl (by simp only [List.size_toArray] <;> omega) ⟨.int ys.length, H, I.tok _, ⟨s.toks + 1, by rw [List.size_toArray, hlen]⟩, q⟩
theorem CallR.or {f : Value} {r r' : List V → Hp → VK → Prop} (h : CallR X f r) (h' : CallR X f r') : CallR X f (fun xs H Q => r xs H Q ∨ r' xs H Q) := by
  intro pins s σ H xs us Q I rs q
  rcases q with q | q
  · exact h pins s σ H xs us Q I rs q
  · exact h' pins s σ H xs us Q I rs q
theorem call_list_of : CallR X (.type "list") (fun xs H Q => ∃ p ys, xs = [.ref p] ∧ (SqL X.K H p ys ∨ SqT X.K H p ys) ∧ ∀ l, H l = none → Q (.ref l) (upd H l (.lst ys))) := by
  intro pins s σ H xs us Q I r h
  obtain ⟨p, ys, rfl, hq, q⟩ := h
  obtain ⟨u, rfl, rx⟩ := vals1 r
  cases rx
  have fin : ∀ (its : List Value), Vals ys its → ys.length ≤ sizeLine → ∀ (h' : Heap) (c' : Nat), (∀ b o', s.heap.get? b = some o' → h'.get? b = some o') →
      h'.get? s.heap.objs.size = some { cls := .type "list", dict := none, data := .seq its.toArray c', slots := #[] } → EP X pins σ Q (.ref s.heap.objs.size) { s with heap := h' } := fun its r' hz h' c' kp e =>
    ⟨.ref s.heap.objs.size, _, I.laid (t' := s.toks) kp (Nat.le_refl _) (show ObjOk X.prog X.w _ h' _ (.lst ys) from ⟨hz, its, c', r', e⟩), rfl, q _ (I.hok.fresh (Nat.le_refl _))⟩
  rcases hq with hq | hq
  · obtain ⟨its, r', pl, hz⟩ := I.list hq
    have hlen := r'.length
    obtain ⟨o, ho, hc, n, hd⟩ := pl.isList
    exact call_list_seq p (.inl rfl) ho hc hd (fun h' c' kp e => fin its r' hz h' c' kp e) (by simp only [List.size_toArray] <;> omega)
  · obtain ⟨its, r', pl, hz⟩ := I.tuple hq
    have hlen := r'.length
    obtain ⟨o, ho, hc, n, hd⟩ := pl
    exact call_list_seq p (.inr rfl) ho hc hd (fun h' c' kp e => fin its r' hz h' c' kp e) (by simp only [List.size_toArray] <;> omega)
theorem call_tuple_of : CallR X (.type "tuple") (fun xs H Q => ∃ p ys, xs = [.ref p] ∧ ((SqL X.K H p ys ∧ ∀ l, H l = none → Q (.ref l) (upd H l (.tup ys))) ∨ (SqT X.K H p ys ∧ Q (.ref p) H))) := by
  intro pins s σ H xs us Q I r h
  obtain ⟨p, ys, rfl, h⟩ := h
  obtain ⟨u, rfl, rx⟩ := vals1 r
  cases rx
  rcases h with ⟨hq, q⟩ | ⟨hq, q⟩
  · obtain ⟨its, r', pl, hz⟩ := I.list hq
    have hlen := r'.length
    refine call_tuple_list pl.isList (fun h' kp => ?_) (by simp only [List.size_toArray] <;> omega)
    have I1 : Inv X pins σ H { s with heap := h' } := I.kept (t' := s.toks) kp
    have I2 : Inv X pins σ (upd H h'.objs.size (.tup ys)) { s with heap := h'.push { cls := .type "tuple", data := .seq its.toArray } } :=
      I1.laid (t' := s.toks) (fun b o e => Heap.get?_push_of_some _ e) (Nat.le_refl _) (show ObjOk X.prog X.w _ _ _ (.tup ys) from ⟨hz, its, r', IsTup.new _ _⟩)
    exact ⟨.ref h'.objs.size, _, I2, rfl, q _ (I1.hok.fresh (Nat.le_refl _))⟩
  · obtain ⟨its, r', pl, hz⟩ := I.tuple hq
    exact call_tuple_same pl ⟨.ref p, H, I, rfl, q⟩

/-! ### the call of a builtin's method: o.m(..) -/
/-- the value is of that builtin type -/
def tyV (K : PySem.W.Frag) (T : String) (x : V) (H : Hp) : Prop := match x with
  | .str _ => T = "str"
  | .int _ => T = "int"
  | .ref p => (T = "list" ∧ ∃ xs, SqL K H p xs) ∨ (T = "tuple" ∧ ∃ o, K.lookup p = some o ∧ o.cls = .type "tuple" ∧ o.dict = none) ∨
      (T = "dict" ∧ ((∃ kvs, H p = some (.dK kvs)) ∨ ∃ kvs, H p = some (.dT kvs))) ∨ (T = "set" ∧ ∃ S n, H p = some (.set S n))
  | _ => False
theorem tyV_is {pins : List (Addr × Obj)} {σ : St} {H : Hp} {s : Shared} {T : String} {x : V} {v : Value} (I : Inv X pins σ H s) (r : RelV x v) (ty : tyV X.K T x H) :
    s.TypeIs v T ∧ ∀ a, v = .ref a → ∃ ob, s.heap.get? a = some ob ∧ ob.dict = none := by
  cases x with
  | str z =>
    obtain ⟨t, rfl⟩ := r
    cases (show T = "str" from ty)
    exact ⟨typeIs_str s z t, fun _ e => nomatch e⟩
  | int i =>
    obtain ⟨t, rfl⟩ := r
    cases (show T = "int" from ty)
    exact ⟨typeIs_int s i t, fun _ e => nomatch e⟩
  | ref p =>
    cases r
    rcases ty with ⟨rfl, xs, hq⟩ | ⟨rfl, o, hk, hc, hd⟩ | ⟨rfl, hk⟩ | ⟨rfl, S, n, hk⟩
    · obtain ⟨its, _, pl, _⟩ := I.list hq
      refine ⟨pl.isList.typeIs, fun a e => ?_⟩
      cases e
      obtain ⟨o, n, e, c, hd, _⟩ := pl
      exact ⟨o, e, hd⟩
    · refine ⟨⟨o, I.kIn p o hk, hc⟩, fun a e => ?_⟩
      cases e
      exact ⟨o, I.kIn _ o hk, hd⟩
    · have z : ∃ o, s.heap.get? p = some o ∧ o.ExactDict := by
        rcases hk with ⟨kvs, hk⟩ | ⟨kvs, hk⟩
        · obtain ⟨_, _, _, _, o, _, _, e, ex, _⟩ := I.hok p _ hk
          exact ⟨o, e, ex⟩
        · obtain ⟨_, _, _, _, o, _, _, e, ex, _⟩ := I.hok p _ hk
          exact ⟨o, e, ex⟩
      obtain ⟨o, e, ex⟩ := z
      refine ⟨⟨o, e, ex.1⟩, fun a e2 => ?_⟩
      cases e2
      exact ⟨o, e, ex.2.1⟩
    · obtain ⟨o, _, _, _, e, ex, _⟩ := I.hok p _ hk
      refine ⟨⟨o, e, ex.1⟩, fun a e2 => ?_⟩
      cases e2
      exact ⟨o, e, ex.2.1⟩
  | _ => exact False.elim ty
def tBM0 (K : PySem.W.Frag) (T : String) (r : V → List V → Hp → VK → Prop) (to : TE) : TE := fun σ H Q => to σ H fun x H1 => tyV K T x H1 ∧ r x [] H1 Q
def tBM (K : PySem.W.Frag) (T : String) (r : V → List V → Hp → VK → Prop) (to : TE) (t : TA) : TE := fun σ H Q => to σ H fun x H1 => tyV K T x H1 ∧ t σ H1 fun xs H2 => r x xs H2 Q
variable {o e : Expr} {es : List Expr} {to : TE} {t : TA} {name : Str} {apos cpos : Pos} {T id : String} {r : V → List V → Hp → VK → Prop}
theorem pe_bm0 (pa : PlainAttrs T) (slot : Slot T name id) (hty : typeOf (.builtin id) = pure (.type "method_descriptor")) (hm : MtR X id r) (ho : PE X o to)
    (hbase : attributeBase o name X.env (eval o X.env) = eval o X.env := by rfl) (hline : (apos.endLine == cpos.line) = true := by rfl) : PE X (.Call (.Attribute o name apos) [] [] cpos) (tBM0 X.K T r to) := by
  constructor
  intro pins s σ H Q I h
  refine wpAny_Call_method0_late hbase hline (thn (ho pins s σ H _ I h) fun v s1 ⟨x, H1, I1, r1, ty, q1⟩ => ?_)
  obtain ⟨h1, h2⟩ := tyV_is I1 r1 ty
  exact ⟨T, id, pa, slot, hty, h1, h2, Calls.callWith_builtin rfl (PySem.evalArgs_none (hm pins s1 σ H1 x [] v [] Q I1 r1 .nil q1))⟩
theorem pe_bm (pa : PlainAttrs T) (slot : Slot T name id) (hty : typeOf (.builtin id) = pure (.type "method_descriptor")) (hm : MtR X id r) (ho : PE X o to) (ha : PA X (e :: es) t)
    (hbase : attributeBase o name X.env (eval o X.env) = eval o X.env := by rfl)
    (hfew : ((backTo cpos (starEach (e :: es) X.env)).all (fun x => !x.1) && (backToKw cpos (keywordEach [] X.env)).all (fun x => x.1.isSome)
      && decide ((e :: es).length + ([] : List Keyword).length + (if ([] : List Keyword).isEmpty then 0 else 1) < 30)) = true := by rfl)
    (hline : (apos.endLine == cpos.line) = true := by rfl) (hs : starEach (e :: es) X.env = (false, eval e X.env) :: starEach es X.env := by rfl) (hplain : (backTo cpos (starEach es X.env)).any (·.1) = false := by rfl) :
    PE X (.Call (.Attribute o name apos) (e :: es) [] cpos) (tBM X.K T r to t) := by
  constructor
  intro pins s σ H Q I h
  refine wpAny_Call_method_late hbase hfew hline rfl (thn (ho pins s σ H _ I h) fun v s1 ⟨x, H1, I1, r1, ty, q1⟩ => ?_)
  obtain ⟨h1, h2⟩ := tyV_is I1 r1 ty
  refine ⟨T, id, pa, slot, hty, h1, h2, ?_⟩
  have hA := ha cpos pins s1 σ H1 _ I1 q1
  rw [hs] at hA ⊢
  refine Calls.callWith_builtin (by show (false || (backTo cpos (starEach es X.env)).any (·.1)) = false; rw [hplain] <;> rfl) (Calls.evalArgs_plain ?_)
  exact thn hA fun us s2 ⟨vs, H2, I2, r2, q2⟩ => hm pins s2 σ H2 x vs v us Q I2 r1 r2 q2
/- xs.append(e), list.index on a module's tuple .. are MtR facts of 06m -/
end
end L2

namespace L2
open PySem PySem.Spec PyProof.Rows

def MtM (X : Cx) (id : String) (r : V → List V → Hp → VK → Prop) : Prop :=
  ∀ (pins : List (Addr × Obj)) (s : Shared) (σ : St) (H : Hp) (x : V) (xs : List V) (v : Value) (us : List Value) (Q : VK), Inv X pins σ H s → RelV x v → Vals xs us → r x xs H Q →
    wpAny (model X.prog X.w) X.A (call (.builtin id) (v :: us)) (EP X pins σ Q) X.xe s

/-! ### lists of values -/
theorem Vals.one : ∀ {x : V} {us : List Value}, Vals [x] us → ∃ u, us = [u] ∧ RelV x u
  | _, _, .cons r .nil => ⟨_, rfl, r⟩
theorem Vals.two : ∀ {x y : V} {us : List Value}, Vals [x, y] us → ∃ u v, us = [u, v] ∧ RelV x u ∧ RelV y v
  | _, _, _, .cons r (.cons q .nil) => ⟨_, _, rfl, r, q⟩
theorem Vals.zero : ∀ {us : List Value}, Vals [] us → us = []
  | _, .nil => rfl
theorem Vals.eraseIdx : ∀ {xs : List V} {us : List Value} (i : Nat), Vals xs us → Vals (xs.eraseIdx i) (us.eraseIdx i)
  | _, _, _, .nil => .nil
  | _, _, 0, .cons _ t => t
  | _, _, i + 1, .cons r t => .cons r (Vals.eraseIdx i t)
theorem Vals.reverse {xs : List V} {us : List Value} (h : Vals xs us) : Vals xs.reverse us.reverse := by
  induction h with
  | nil => exact .nil
  | cons r t ih => rw [List.reverse_cons, List.reverse_cons]; exact Vals.append ih (.cons r .nil)
theorem Vals.rep {xs : List V} {us : List Value} (h : Vals xs us) : ∀ k : Nat, Vals (List.replicate k xs).flatten (List.replicate k us).flatten
  | 0 => .nil
  | k + 1 => by
    rw [List.replicate_succ, List.replicate_succ, List.flatten_cons, List.flatten_cons]
    exact Vals.append h (Vals.rep h k)
theorem len_erase {α : Type} : ∀ (l : List α) (i : Nat), (l.eraseIdx i).length ≤ l.length
  | [], _ => Nat.le_refl _
  | _ :: _, 0 => Nat.le_succ _
  | _ :: r, i + 1 => Nat.succ_le_succ (len_erase r i)
theorem foldl_rep (its : List Value) : ∀ (k : Nat) (acc : List Value),
    List.foldl (fun x1 x2 => x1 ++ x2) acc.toArray (List.replicate k its.toArray) = (acc ++ (List.replicate k its).flatten).toArray
  | 0, acc => by simp
  | k + 1, acc => by
    have e : acc.toArray ++ its.toArray = (acc ++ its).toArray := by simp
    have e2 : (acc ++ its) ++ (List.replicate k its).flatten = acc ++ (List.replicate (k + 1) its).flatten := by
      rw [List.replicate_succ, List.flatten_cons, List.append_assoc]
    rw [← e2, ← foldl_rep its k (acc ++ its), ← e, List.replicate_succ, List.foldl_cons]

section
variable {X : Cx} {pins : List (Addr × Obj)} {σ : St} {H : Hp} {s : Shared} {l b : Addr} {xs ys zs : List V}

/-! ### the two steps: a tracked list is rewritten, a new list is laid -/
theorem Inv.lset {its its' : List Value} {n : Nat} {f : Array Value → Array Value} {t' : Nat} (I : Inv X pins σ H s) (hH : H l = some (.lst xs))
    (e : s.heap.get? l = some { cls := .type "list", data := .seq its.toArray n }) (hf : f its.toArray = its'.toArray) (hv : Vals ys its') (hz : ys.length ≤ sizeLine) :
    Inv X pins σ (upd H l (.lst ys)) { s with heap := s.heap.update l (Obj.mapSeq f), toks := t' } := by
  have q := PySem.IsL.update e f
  rw [hf] at q
  refine I.write (x := l) (e := l) (by rw [hH]; exact trivial) (.inl rfl) (fun b' u hb hu => (Heap.get?_update_other s.heap (Obj.mapSeq f) (Ne.symm hb)).trans hu) ⟨_, q⟩ ?_
  exact ⟨hz, its', _, hv, q⟩
theorem Inv.lnew {its : List Value} {t' : Nat} (I : Inv X pins σ H s) (hv : Vals ys its) (hz : ys.length ≤ sizeLine) :
    Inv X pins σ (upd H s.heap.objs.size (.lst ys)) { s with heap := s.heap.push { cls := .type "list", data := .seq its.toArray }, toks := t' } :=
  I.laid (fun _ _ q => Heap.get?_push_of_some _ q) (Nat.le_refl _) ⟨hz, its, 0, hv, Heap.get?_push_size _ rfl⟩
theorem Inv.fresh (I : Inv X pins σ H s) : H s.heap.objs.size = none := I.hok.fresh (Nat.le_refl _)
theorem Inv.lstM (I : Inv X pins σ H s) (hH : H l = some (.lst xs)) : xs.length ≤ sizeLine ∧ ∃ (its : List Value) (n : Nat), Vals xs its ∧ xs.length = its.length ∧ s.heap.get? l = some { cls := .type "list", data := .seq its.toArray n } := by
  obtain ⟨z, its, n, r, e⟩ := I.hok l _ hH
  exact ⟨z, its, n, r, r.length, e⟩

theorem notLongL {n : Nat} (h : n ≤ sizeLine) : Builtin.List.listTooLong n = false := by
  unfold Builtin.List.listTooLong
  exact decide_eq_false (by omega)
end

section
variable {X : Cx}

/-! ### methods -/
def rAppend : V → List V → Hp → VK → Prop := fun x vs H Q => ∃ l xs y, x = .ref l ∧ vs = [y] ∧ H l = some (.lst xs) ∧ xs.length < sizeLine ∧ Q .non (upd H l (.lst (xs ++ [y])))
theorem mt_append : MtM X "list.append" rAppend := by
  intro pins s σ H x vs v us Q I rx rv h
  obtain ⟨l, xs, y, rfl, rfl, hH, hz, q⟩ := h
  cases rx
  obtain ⟨u, rfl, ru⟩ := rv.one
  obtain ⟨z, its, n, r, hl, e⟩ := I.lstM hH
  refine call_meets F.slot_list_append ⟨_, e, rfl⟩ F.entry_list_append (F.args_list_append_2 _ _) (PySem.list_append l its.toArray n u (by rw [List.size_toArray]; omega)) ⟨e, ?_⟩
  refine ⟨.non, _, I.lset (its' := its ++ [u]) hH e (by simp) (r.append (.cons ru .nil)) ?_, rfl, q⟩
  rw [List.length_append, List.length_singleton]
  omega

def rExtend : V → List V → Hp → VK → Prop := fun x vs H Q => ∃ l b xs zs, x = .ref l ∧ vs = [.ref b] ∧ H l = some (.lst xs) ∧ H b = some (.lst zs) ∧ xs.length + zs.length ≤ sizeLine ∧ Q .non (upd H l (.lst (xs ++ zs)))
theorem mt_extend : MtM X "list.extend" rExtend := by
  intro pins s σ H x vs v us Q I rx rv h
  obtain ⟨l, b, xs, zs, rfl, rfl, hH, hB, hz, q⟩ := h
  cases rx
  obtain ⟨u, rfl, ru⟩ := rv.one
  cases ru
  obtain ⟨z, its, n, r, hl, e⟩ := I.lstM hH
  obtain ⟨z2, its2, n2, r2, hl2, e2⟩ := I.lstM hB
  have hsz : its.toArray.size + its2.toArray.size ≤ sizeLine := by rw [List.size_toArray, List.size_toArray]; omega
  have hlong : ¬ (!its.toArray.isEmpty && Builtin.List.listTooLong (its.toArray.size + its2.toArray.size)) = true := by
    rw [notLongL hsz, Bool.and_false]
    exact Bool.false_ne_true
  refine call_meets F.slot_list_extend ⟨_, e, rfl⟩ F.entry_list_extend (F.args_list_extend_2 _ _)
    (AutoSeq1.list_extend_list_list_0 l its.toArray n b its2.toArray n2 hlong (by rw [List.size_toArray]; omega) (by omega)) ⟨e, e2, ?_⟩
  refine ⟨.non, _, I.lset (its' := its ++ its2) hH e (by simp) (r.append r2) ?_, rfl, q⟩
  rw [List.length_append]
  omega

def rPopAt : V → List V → Hp → VK → Prop := fun x vs H Q => ∃ l xs i k y, x = .ref l ∧ vs = [.int i] ∧ H l = some (.lst xs) ∧ -(2 ^ 63) ≤ i ∧ i < 2 ^ 63 ∧ seqIndex? i xs.length = some k ∧ xs[k]? = some y ∧ Q y (upd H l (.lst (xs.eraseIdx k)))
theorem mt_popAt : MtM X "list.pop" rPopAt := by
  intro pins s σ H x vs v us Q I rx rv h
  obtain ⟨l, xs, i, k, y, rfl, rfl, hH, h1, h2, hk, hy, q⟩ := h
  cases rx
  obtain ⟨u, rfl, ru⟩ := rv.one
  obtain ⟨t, rfl⟩ := ru
  obtain ⟨z, its, n, r, hl, e⟩ := I.lstM hH
  obtain ⟨w, hw, rw'⟩ := r.get hy
  refine call_meets F.slot_list_pop ⟨_, e, rfl⟩ F.entry_list_pop (F.args_list_pop_2 _ _)
    (MeetsSeq.list_pop_at l its.toArray n i t k w (fitsIndex_both h1 h2) (by rw [List.size_toArray, ← hl]; exact hk) (by rw [← Array.getElem?_toList]; exact hw) (by rw [List.size_toArray]; omega)) ⟨e, ?_⟩
  refine ⟨y, _, I.lset (its' := its.eraseIdx k) hH e ?_ (r.eraseIdx k) ?_, rw', q⟩
  · show its.toArray.eraseIdxIfInBounds k = (its.eraseIdx k).toArray
    rw [List.eraseIdxIfInBounds_toArray]
  · have := len_erase xs k
    omega

def rClear : V → List V → Hp → VK → Prop := fun x vs H Q => ∃ l xs, x = .ref l ∧ vs = [] ∧ H l = some (.lst xs) ∧ Q .non (upd H l (.lst []))
theorem mt_clear : MtM X "list.clear" rClear := by
  intro pins s σ H x vs v us Q I rx rv h
  obtain ⟨l, xs, rfl, rfl, hH, q⟩ := h
  cases rx
  have hus := rv.zero
  subst hus
  obtain ⟨z, its, n, r, hl, e⟩ := I.lstM hH
  refine call_meets F.slot_list_clear ⟨_, e, rfl⟩ F.entry_list_clear (F.args_list_clear_1 _) (AutoSeq1.list_clear_list_0 l its.toArray n (by rw [List.size_toArray]; omega)) ⟨e, ?_⟩
  exact ⟨.non, _, I.lset (its' := []) (ys := []) hH e rfl .nil (Nat.zero_le _), rfl, q⟩

/-! ### list + list, list += list, list * int -/
def rCat : R2 := fun x y H Q => ∃ l b xs zs, x = .ref l ∧ y = .ref b ∧ H l = some (.lst xs) ∧ H b = some (.lst zs) ∧ xs.length + zs.length ≤ sizeLine ∧ ∀ p, H p = none → Q (.ref p) (upd H p (.lst (xs ++ zs)))
theorem op_cat : OpR X (binaryOp .Add) rCat := by
  intro pins s σ H x y v u Q I rx ry h
  obtain ⟨l, b, xs, zs, rfl, rfl, hH, hB, hz, q⟩ := h
  cases rx
  cases ry
  obtain ⟨z, its, n, r, hl, e⟩ := I.lstM hH
  obtain ⟨z2, its2, n2, r2, hl2, e2⟩ := I.lstM hB
  refine PySem.P.add_list e e2 ?_ (by rw [List.size_toArray, List.size_toArray]; omega)
  have ea : its.toArray ++ its2.toArray = (its ++ its2).toArray := by simp
  rw [ea]
  exact ⟨.ref _, _, I.lnew (t' := s.toks) (r.append r2) (by rw [List.length_append]; omega), rfl, q _ I.fresh⟩
/-- a list times an int (a negative one is nothing) -/
def rRep : R2 := fun x y H Q => ∃ l k xs, x = .ref l ∧ y = .int k ∧ H l = some (.lst xs) ∧ -(2 ^ 63) ≤ k ∧ k < 2 ^ 63 ∧ xs.length * k.toNat ≤ sizeLine ∧
  ∀ p, H p = none → Q (.ref p) (upd H p (.lst (List.replicate k.toNat xs).flatten))
theorem len_rep {α : Type} (xs : List α) (k : Nat) : (List.replicate k xs).flatten.length = k * xs.length := by
  induction k with
  | zero => simp
  | succ k ih => rw [List.replicate_succ, List.flatten_cons, List.length_append, ih, Nat.succ_mul, Nat.add_comm]
theorem op_rep : OpR X (binaryOp .Mult) rRep := by
  intro pins s σ H x y v u Q I rx ry h
  obtain ⟨l, k, xs, rfl, rfl, hH, h1, h2, hz, q⟩ := h
  cases rx
  obtain ⟨t, rfl⟩ := ry
  obtain ⟨z, its, n, r, hl, e⟩ := I.lstM hH
  have hlen : its.toArray.size * k.toNat ≤ sizeLine := by rw [List.size_toArray, ← hl]; exact hz
  have hcap : ¬ its.toArray.size * k.toNat > (2 ^ 63 - 1) / 8 := by
    have : (sizeLine : Nat) ≤ (2 ^ 63 - 1) / 8 := by decide
    omega
  have hfit : ¬ (!Builtin.List.listFitsIndex k) = true := by
    rw [fitsIndex_both h1 h2]
    exact Bool.false_ne_true
  have hlong : ¬ Builtin.List.listTooLong (its.toArray.size * k.toNat) = true := by
    rw [notLongL hlen]
    exact Bool.false_ne_true
  have hnew : List.foldl (fun x1 x2 => x1 ++ x2) #[] (List.replicate (if its.toArray.isEmpty = true then 0 else k.toNat) its.toArray) = (List.replicate k.toNat its).flatten.toArray := by
    have f0 : ∀ m : Nat, List.foldl (fun x1 x2 => x1 ++ x2) #[] (List.replicate m its.toArray) = (List.replicate m its).flatten.toArray := fun m => by
      have := foldl_rep its m []
      rw [List.nil_append] at this
      exact this
    rw [f0]
    cases its with
    | nil => simp
    | cons a r' => rw [if_neg (by simp)]
  refine wpAny_binaryOp_repeat_ref (T := "list") (U := "int") (by decide) ⟨_, e, rfl⟩ (fun s' => typeIs_int s' k t) noFill_list_mul F.fills_int_mul F.slot_int_rmul repeat_list F.slot_int_index.lookup
    (call_meets F.slot_int_rmul (typeIs_int s k t) F.entry_int_rmul (F.args_int_rmul_2 _ _) (int___rmul___int_list k t l its.toArray n)
      ⟨e, rfl, ⟨_, e, rfl⟩, call_meets F.slot_list_mul ⟨_, e, rfl⟩ F.entry_list_mul (F.args_list_mul_2 _ _) (AutoListH.list___mul___list_int_3 l its.toArray n k t hfit hcap hlong) ⟨e, ?_⟩⟩)
  rw [hnew]
  exact ⟨.ref _, _, I.lnew (t' := s.toks) (r.rep k.toNat) (by rw [len_rep, Nat.mul_comm]; exact hz), rfl, q _ I.fresh⟩

/-! ### del xs[i] -/
end

/-! ### xs[a:b] = ys -/
section
variable {prog : Program} {w : World} {A : Around} {E : Value → Shared → Prop} {s : Shared}
end

section
variable {X : Cx}
end
end L2

namespace L2
open PySem PySem.Spec PyProof.Rows

theorem Vals.ints : ∀ {ns : List Int} {us : List Value}, Vals (ns.map V.int) us → IntsAre us ns
  | [], us, h => by
    rw [List.map_nil] at h
    cases h
    exact IntsAre.nil
  | n :: ns, us, h => by
    rw [List.map_cons] at h
    cases h with
    | cons r t =>
      obtain ⟨k, rfl⟩ := r
      exact IntsAre.cons n k (Vals.ints t)
theorem vals_of_ints : ∀ {us : List Value} {ns : List Int}, IntsAre us ns → Vals (ns.map V.int) us
  | _, _, .nil => by rw [List.map_nil]; exact Paired.nil
  | _, _, .cons n t h => by rw [List.map_cons]; exact Paired.cons (show RelV (V.int n) (Value.int n t) from ⟨t, rfl⟩) (vals_of_ints h)
theorem Vals.strs : ∀ {xs : List Str} {us : List Value}, Vals (xs.map V.str) us → StrsAre us xs
  | [], us, h => by
    rw [List.map_nil] at h
    cases h
    exact StrsAre.nil
  | x :: xs, us, h => by
    rw [List.map_cons] at h
    cases h with
    | cons r t =>
      obtain ⟨k, rfl⟩ := r
      exact StrsAre.cons x k (Vals.strs t)
theorem Vals.bls : ∀ {bs : List Bool} {us : List Value}, Vals (bs.map V.bl) us → us = bs.map Value.bool
  | [], us, h => by
    rw [List.map_nil] at h
    cases h
    rfl
  | b :: bs, us, h => by
    rw [List.map_cons] at h
    cases h with
    | cons r t =>
      cases r
      rw [Vals.bls t, List.map_cons]
theorem Vals.ref1 {a : Addr} {us : List Value} (r : Vals [V.ref a] us) : us = [Value.ref a] := by
  cases r with
  | cons r t =>
    cases t
    cases r
    rfl
/-! ### the library's walks over a list of ints, kept objects alone -/
section
variable {prog : Program} {w : World} {A : Around} {E : Value → Shared → Prop} {s : Shared} {l : Addr} {its : List Value} {ns : List Int} {Q : Value → Shared → Prop}
end

/-! ### the calls, by values (CallR of 03t; MtR of 06l) -/
section
variable {X : Cx}
/-! sorted, sort (fewer than 64 items: the library's own bound) -/
def rSorted (K : PySem.W.Frag) : List V → Hp → VK → Prop := fun vs H Q => ∃ (a : Addr) (ns : List Int), vs = [V.ref a] ∧ SqL K H a (ns.map V.int) ∧ ns.length < 64 ∧
  ∀ (ns' : List Int) (p : Addr), ns'.Perm ns → ns'.Pairwise (· ≤ ·) → H p = none → Q (.ref p) (upd H p (.lst (ns'.map V.int)))
theorem small64 {n : Nat} (h : n < 64) : n ≤ sizeLine := by rw [sizeLine_eq]; omega
theorem cr_sorted : CallR X (.builtin "sorted") (rSorted X.K) := by
  intro pins s σ H vs us Q I r h
  obtain ⟨a, ns, rfl, hs, h64, q⟩ := h
  obtain ⟨its, rv, hl, _⟩ := I.list hs
  rw [Vals.ref1 r]
  have hi := rv.ints
  refine PyProof.Rows.sorted_ints hl.isList hi (by rw [hi.length]; exact h64) fun out ns' h1 h2 h3 => ?_
  obtain ⟨ep, he'⟩ := PyProof.Rows.sortedAll_at s.heap its out
  have hlen : (ns'.map V.int).length ≤ sizeLine := by rw [List.length_map, h2.length_eq]; exact small64 h64
  exact ⟨.ref _, upd H (s.heap.objs.size + 1) (.lst (ns'.map V.int)), I.laid (t' := s.toks) (fun _ _ => PyProof.Rows.sortedAll_old) (Nat.le_succ _) ⟨hlen, out.toList, ep, vals_of_ints h1, he'⟩, rfl, q ns' _ h2 h3 (I.hok.fresh (Nat.le_succ _))⟩
end

/-! ### list.index, flat items -/
section
variable {X : Cx}
def rIndex (K : PySem.W.Frag) : V → List V → Hp → VK → Prop := fun x xs H Q => ∃ (a : Addr) (ys : List V) (y : V) (j : Nat) (z : V), x = V.ref a ∧ xs = [y] ∧ SqL K H a ys ∧ flatV y = true ∧ ys.all flatV = true ∧ ys[j]? = some z ∧ eqV z y = true ∧
  (∀ (m : Nat) (z' : V), m < j → ys[m]? = some z' → eqV z' y = false) ∧ Q (.int (j : Nat)) H
theorem flat_at {ys : List V} (f : ys.all flatV = true) {j : Nat} {z : V} (h : ys[j]? = some z) : flatV z = true := List.all_eq_true.mp f z (List.mem_of_getElem? h)
theorem mt_index : MtR X "list.index" (rIndex X.K) := by
  intro pins s σ H x xs v us Q I rx rxs h
  obtain ⟨a, ys, y, j, z, rfl, rfl, hs, fy, fys, hz, hzj, hno, q⟩ := h
  cases rx
  cases rxs with
  | cons ry rt =>
    rename_i uy ut
    cases rt
    obtain ⟨its, rv, ⟨⟨cls, dd, data, sl⟩, n, ho, hc, hdn, hd⟩, hlen⟩ := I.list hs
    simp only at hc hd
    subst hc hd
    obtain ⟨u, hu, ru⟩ := rv.get hz
    obtain ⟨hjl, hje⟩ := List.getElem?_eq_some_iff.mp hu
    have hvl := rv.length
    have hj : j < its.toArray.size := by simpa using hjl
    have hsl := sizeLine_eq
    refine call_meets PySem.F.slot_list_index ⟨_, ho, rfl⟩ PySem.F.entry_list_index (PySem.F.args_list_index_2 _ _)
      (SeqAt.list_indexAt a its.toArray n dd sl uy (eqU y) j hj (by omega) ?_ ?_) ⟨ho, fun u' hu' => mem_eqAt ry fy rv fys u' (by simpa using hu'), ?_⟩
    · have e1 : its.toArray[j] = u := by simpa using hje
      rw [e1, eqU_of ru (flat_at fys hz)]
      exact hzj
    · intro m hm hmj
      have hml : m < its.length := by simpa using hm
      have hmy : m < ys.length := by omega
      have hy' : ys[m]? = some ys[m] := List.getElem?_eq_getElem hmy
      obtain ⟨u2, hu2, ru2⟩ := rv.get hy'
      obtain ⟨_, hme⟩ := List.getElem?_eq_some_iff.mp hu2
      have e1 : its.toArray[m] = u2 := by simpa using hme
      rw [e1, eqU_of ru2 (flat_at fys hy')]
      exact hno m _ hmj hy'
    · exact ⟨.int (j : Nat), H, I.tok _, ⟨_, rfl⟩, q⟩
end

/-! ### type(x) of an own instance; is, is not of a module's class -/
section
variable {X : Cx}
end

/-! ### any(xs), all(xs) of a list of bools -/
theorem iter_any {prog : Program} {w : World} {A : Around} {E : Value → Shared → Prop} {s : Shared} {l : Addr} {items : Array Value} {Q : Value → Shared → Prop} (hl : s.heap.IsList l items)
    (h : ∀ s₂ : Shared, s₂ = { s with heap := s.heap.push { cls := .type "list_iterator", data := .fields #[.ref l, .int 0 0] } } →
      (s₂.heap.IsListIter s.heap.objs.size l 0 ∧ s₂.heap.IsList l items) → l ≠ s.heap.objs.size → Q (.ref s.heap.objs.size) s₂) : wpAny (model prog w) A (pyIter (.ref l)) Q E s := by
  have hlt : l < s.heap.objs.size := by obtain ⟨_, e, _⟩ := hl; exact Heap.lt_size e
  exact wpAny_pyIter_list hl (h _ rfl ⟨⟨_, Heap.get?_push_size _ rfl, rfl, rfl⟩, hl.push _⟩ (Nat.ne_of_lt hlt))
theorem truth_bools {prog : Program} {w : World} {A : Around} {bs : List Bool} {its : List Value} (e : its = bs.map Value.bool) :
    TruthOf prog w A (fun i v => its.toArray[i]? = some v) (fun i => bs.getD i false) := fun i v s Q E hv hq => by
  have hv' : its[i]? = some v := by simpa using hv
  rw [e, List.getElem?_map] at hv'
  obtain ⟨b, hb, rfl⟩ := Option.map_eq_some_iff.mp hv'
  have hg : bs.getD i false = b := by rw [List.getD_eq_getElem?_getD, hb] <;> rfl
  have hq' : Q (bs.getD i false) s := hq
  rw [hg] at hq'
  exact wpAny_truthy_bool hq'
theorem all_range : ∀ bs : List Bool, (List.range bs.length).all (fun i => bs.getD i false) = bs.all id
  | [] => rfl
  | b :: bs => by
    rw [List.length_cons, List.range_succ_eq_map, List.all_cons, List.all_map, List.all_cons, ← all_range bs]
    all_goals rfl
section
variable {X : Cx}
def rAll (K : PySem.W.Frag) : List V → Hp → VK → Prop := fun vs H Q => ∃ (a : Addr) (bs : List Bool), vs = [V.ref a] ∧ SqL K H a (bs.map V.bl) ∧ Q (.bl (bs.all id)) H
theorem cr_all (hc : X.calm = true) : CallR X (.builtin "all") (rAll X.K) := by
  intro pins s σ H vs us Q I r h
  obtain ⟨a, bs, rfl, hs, q⟩ := h
  obtain ⟨its, rv, hl, _⟩ := I.list hs
  rw [Vals.ref1 r]
  have hb := rv.bls
  refine call_all_walk (iter_any hl.isList fun s₂ e2 st hne => ?_)
  subst e2
  refine ⟨_, _, _, _, _, _, _, rfl, Walks.list (A := X.A.in1) (I.ok.hd hc) _ a hne its.toArray, st, truth_bools hb, fun h' tk hk => ?_⟩
  refine ⟨.bl _, H, I.kept fun b o eo => hk b o (fun hmem => ?_) (Heap.get?_push_of_some _ eo), ?_, q⟩
  · rcases List.mem_cons.mp hmem with e1 | hmem
    · exact absurd (e1 ▸ Heap.lt_size eo) (Nat.lt_irrefl _)
    · cases hmem
  · show Value.bool _ = Value.bool _
    rw [← all_range, hb, List.size_toArray, List.length_map]
end

/-! ### == and != of data at any depth: none, bools, ints, texts, lists, tuples -/
mutual
inductive Dp (K : PySem.W.Frag) (H : Hp) : V → PyData → Prop
  | non : Dp K H .non .none
  | bl (b : Bool) : Dp K H (.bl b) (.bool b)
  | int (i : Int) : Dp K H (.int i) (.int i)
  | str (x : Str) : Dp K H (.str x) (.str x)
  | lst {a : Addr} {xs : List V} {ds : List PyData} : SqL K H a xs → DpAll K H xs ds → Dp K H (.ref a) (.list ds)
  | tup {a : Addr} {xs : List V} {ds : List PyData} : SqT K H a xs → DpAll K H xs ds → Dp K H (.ref a) (.tuple ds)
inductive DpAll (K : PySem.W.Frag) (H : Hp) : List V → List PyData → Prop
  | nil : DpAll K H [] []
  | cons {v : V} {vs : List V} {d : PyData} {ds : List PyData} : Dp K H v d → DpAll K H vs ds → DpAll K H (v :: vs) (d :: ds)
end
section
variable {X : Cx} {pins : List (Addr × Obj)} {σ : St} {H : Hp} {s : Shared}
mutual
theorem Dp.reads (I : Inv X pins σ H s) : ∀ (d : PyData) (v : V) (u : Value), Dp X.K H v d → RelV v u → ∃ as, Reads s.heap u d as
  | .none, _, _, h, r => by
    cases h
    cases r
    exact ⟨_, Reads.none⟩
  | .bool b, _, _, h, r => by
    cases h
    cases r
    exact ⟨_, Reads.bool b⟩
  | .int i, _, _, h, r => by
    cases h
    obtain ⟨t, rfl⟩ := r
    exact ⟨_, Reads.int i t⟩
  | .str x, _, _, h, r => by
    cases h
    obtain ⟨t, rfl⟩ := r
    exact ⟨_, Reads.str x t⟩
  | .list ds, _, _, h, r => by
    cases h with
    | lst hs ha =>
      cases r
      obtain ⟨its, rv, ⟨o, n, ho, hc, _, hd⟩, _⟩ := I.list hs
      obtain ⟨as, hr⟩ := Dp.readsAll I ds _ its ha rv
      exact ⟨_, Reads.list ho hc hd hr⟩
  | .tuple ds, _, _, h, r => by
    cases h with
    | tup hs ha =>
      cases r
      obtain ⟨its, rv, ⟨o, ho, hc, n, hd⟩, _⟩ := I.tuple hs
      obtain ⟨as, hr⟩ := Dp.readsAll I ds _ its ha rv
      exact ⟨_, Reads.tuple ho hc hd hr⟩
  | .dict _, _, _, h, _ => by cases h
theorem Dp.readsAll (I : Inv X pins σ H s) : ∀ (ds : List PyData) (vs : List V) (us : List Value), DpAll X.K H vs ds → Vals vs us → ∃ as, ReadsAll s.heap us ds as
  | [], _, _, h, r => by
    cases h
    cases r
    exact ⟨_, ReadsAll.nil⟩
  | d :: ds, _, _, h, r => by
    cases h with
    | cons h1 h2 =>
      cases r with
      | cons r1 r2 =>
        obtain ⟨as, q1⟩ := Dp.reads I d _ _ h1 r1
        obtain ⟨bs, q2⟩ := Dp.readsAll I ds _ _ h2 r2
        exact ⟨_, ReadsAll.cons q1 q2⟩
end
end
section
variable {X : Cx}
def rNeD (K : PySem.W.Frag) : R2 := fun x y H Q => ∃ d e, Dp K H x d ∧ Dp K H y e ∧ SeqAt.shaped d = true ∧ SeqAt.shaped e = true ∧ Q (.bl (!PyData.eqv d e)) H
theorem op_neD (hu : X.A.units + 64 < cLine) : OpR X (compareOp .NotEq) (rNeD X.K) := by
  intro pins s σ H x y v u Q I rx ry h
  obtain ⟨d, e, hd, he, sd, se, q⟩ := h
  obtain ⟨as, r1⟩ := Dp.reads I d x v hd rx
  obtain ⟨bs, r2⟩ := Dp.reads I e y u he ry
  exact SeqAt.compareNe_shaped r1 r2 sd se hu ⟨.bl _, H, I, rfl, q⟩
end
end L2

namespace L2
open PySem PySem.Spec PyProof.Rows
abbrev CellAt (h : Heap) (c : Addr) (v : Option Value) : Prop := h.IsCell c v
def relS (scope sc : Scope) : Scope :=
  { scope with names := scope.names.map fun (n, k) => if (k == .free && sc.kind == .function && sc.names.lookup n == some .cell) then (n, .cell) else (n, k) }

def cloFrom (cells : List (Str × Addr)) : List (Str × NameKind) → List (Str × Addr) → List (Str × Addr)
  | [], acc => acc
  | (n, k) :: r, acc => if k == .free then cloFrom cells r ((n, (cells.lookup n).getD 0) :: acc) else cloFrom cells r acc

theorem closure_loop (env : Env) (f : Str × NameKind → List (Str × Addr) → Sem (ForInStep (List (Str × Addr))))
    (hf : ∀ n k c, f (n, k) c = if k == .free then (do let a ← cellOf env n; pure (.yield ((n, a) :: c))) else pure (.yield c)) :
    ∀ (names : List (Str × NameKind)) (acc : List (Str × Addr)), (∀ y ∈ names, y.2 = .free → ∃ c, env.cells.lookup y.1 = some c) → forIn names acc f = pure (cloFrom env.cells names acc)
  | [], acc, _ => by rw [List.forIn_nil]; rfl
  | (n, k) :: r, acc, h => by
    rw [List.forIn_cons, hf]
    have ih := fun acc => closure_loop env f hf r acc fun y hy => h y (List.mem_cons_of_mem _ hy)
    unfold cloFrom
    by_cases hk : (k == NameKind.free) = true
    · rw [if_pos hk, if_pos hk]
      obtain ⟨c, hc⟩ := h (n, k) List.mem_cons_self (by simpa using hk)
      have e : cellOf env n = pure c := by unfold cellOf; rw [hc]
      rw [e]
      have e2 : (env.cells.lookup n).getD 0 = c := by rw [hc]; rfl
      rw [e2]
      exact ih _
    · rw [if_neg hk, if_neg hk]
      exact ih _
theorem closure_ok {scope : Scope} {env : Env} (h : ∀ y ∈ scope.names, y.2 = .free → ∃ c, env.cells.lookup y.1 = some c) : closureFor scope env = pure (cloFrom env.cells scope.names []) := by
  simp only [closureFor]
  rw [closure_loop env _ (fun n k c => rfl) scope.names [] h]
  rfl

theorem mem_lookup {α : Type} : ∀ {l : List (Str × α)} {n : Str} {c : α}, (n, c) ∈ l → ∃ c', l.lookup n = some c'
  | (k, v) :: r, n, c, h => by
    rw [List.lookup_cons]
    cases hb : n == k with
    | true => exact ⟨_, rfl⟩
    | false =>
      rcases List.mem_cons.mp h with e | h
      · cases e; simp at hb
      · exact mem_lookup h

theorem cloFrom_mem {cells : List (Str × Addr)} : ∀ {names : List (Str × NameKind)} {acc : List (Str × Addr)} {n : Str} {c : Addr}, (n, c) ∈ cloFrom cells names acc → (n, c) ∈ acc ∨ ((n, .free) ∈ names ∧ c = (cells.lookup n).getD 0)
  | [], _, _, _, h => .inl h
  | (m, k) :: r, acc, n, c, h => by
    unfold cloFrom at h
    split at h
    · rename_i hk
      have hk : k = .free := by simpa using hk
      rcases cloFrom_mem h with h | ⟨h1, h2⟩
      · rcases List.mem_cons.mp h with e | h
        · cases e; exact .inr ⟨hk ▸ List.mem_cons_self, rfl⟩
        · exact .inl h
      · exact .inr ⟨List.mem_cons_of_mem _ h1, h2⟩
    · rcases cloFrom_mem h with h | ⟨h1, h2⟩
      · exact .inl h
      · exact .inr ⟨List.mem_cons_of_mem _ h1, h2⟩
theorem cloFrom_acc {cells : List (Str × Addr)} : ∀ {names : List (Str × NameKind)} {acc : List (Str × Addr)} {p : Str × Addr}, p ∈ acc → p ∈ cloFrom cells names acc
  | [], _, _, h => h
  | (m, k) :: r, acc, p, h => by
    unfold cloFrom
    split
    · exact cloFrom_acc (List.mem_cons_of_mem _ h)
    · exact cloFrom_acc h
theorem cloFrom_has {cells : List (Str × Addr)} : ∀ {names : List (Str × NameKind)} {acc : List (Str × Addr)} {n : Str}, (n, .free) ∈ names → (n, (cells.lookup n).getD 0) ∈ cloFrom cells names acc
  | (m, k) :: r, acc, n, h => by
    unfold cloFrom
    rcases List.mem_cons.mp h with e | h
    · cases e
      exact cloFrom_acc List.mem_cons_self
    · split
      · exact cloFrom_has h
      · exact cloFrom_has h

theorem cells_mem : ∀ {names : List (Str × NameKind)} {h : Heap} {acc : List (Str × Addr)} {x : Str} {c : Addr}, (x, c) ∈ cellsFrom h.objs.size names acc →
    (x, c) ∈ acc ∨ ((x, .cell) ∈ names ∧ h.objs.size ≤ c ∧ CellAt (pushCells h names) c none)
  | [], _, _, _, _, h => .inl h
  | (n, k) :: r, h, acc, x, c, hm => by
    unfold cellsFrom at hm
    unfold pushCells
    split at hm
    · rename_i hk
      rw [if_pos hk]
      have hk : k = .cell := by simpa using hk
      rw [← Heap.size_push h { cls := .type "cell", data := .cell none }] at hm
      rcases cells_mem hm with hm | ⟨h1, h2, h3⟩
      · rcases List.mem_cons.mp hm with e | hm
        · cases e
          exact .inr ⟨hk ▸ List.mem_cons_self, Nat.le_refl _, _, pushCells_keeps r _ _ _ (Heap.get?_push_size _ rfl), rfl⟩
        · exact .inl hm
      · rw [Heap.size_push] at h2
        exact .inr ⟨List.mem_cons_of_mem _ h1, Nat.le_of_succ_le h2, h3⟩
    · rename_i hk
      rw [if_neg hk]
      rcases cells_mem hm with hm | ⟨h1, h2, h3⟩
      · exact .inl hm
      · exact .inr ⟨List.mem_cons_of_mem _ h1, h2, h3⟩
theorem cells_acc : ∀ {names : List (Str × NameKind)} {n : Nat} {acc : List (Str × Addr)} {p : Str × Addr}, p ∈ acc → p ∈ cellsFrom n names acc
  | [], _, _, _, h => h
  | (m, k) :: r, n, acc, p, h => by
    unfold cellsFrom
    split
    · exact cells_acc (List.mem_cons_of_mem _ h)
    · exact cells_acc h
theorem cells_has : ∀ {names : List (Str × NameKind)} {n : Nat} {acc : List (Str × Addr)} {x : Str}, (x, .cell) ∈ names → ∃ c, (x, c) ∈ cellsFrom n names acc
  | (m, k) :: r, n, acc, x, h => by
    unfold cellsFrom
    rcases List.mem_cons.mp h with e | h
    · cases e
      exact ⟨n, cells_acc List.mem_cons_self⟩
    · split
      · exact cells_has h
      · exact cells_has h
theorem cells_inj : ∀ {names : List (Str × NameKind)} {h : Heap} {acc : List (Str × Addr)} {x y : Str} {c : Addr}, (∀ p ∈ acc, p.2 < h.objs.size) → (∀ x y c, (x, c) ∈ acc → (y, c) ∈ acc → x = y) →
    (x, c) ∈ cellsFrom h.objs.size names acc → (y, c) ∈ cellsFrom h.objs.size names acc → x = y
  | [], _, _, _, _, _, _, hi, h1, h2 => hi _ _ _ h1 h2
  | (n, k) :: r, h, acc, x, y, c, hl, hi, h1, h2 => by
    unfold cellsFrom at h1 h2
    split at h1
    · rename_i hk
      rw [if_pos hk] at h2
      rw [← Heap.size_push h { cls := .type "cell", data := .cell none }] at h1 h2
      refine cells_inj (h := h.push _) (fun p hp => ?_) (fun x y c a b => ?_) h1 h2
      · rw [Heap.size_push]
        rcases List.mem_cons.mp hp with rfl | hp
        · exact Nat.lt_succ_self _
        · exact Nat.lt_succ_of_lt (hl p hp)
      · rcases List.mem_cons.mp a with e | a <;> rcases List.mem_cons.mp b with e' | b
        · cases e; cases e'; rfl
        · cases e; exact absurd (hl _ b) (Nat.lt_irrefl _)
        · cases e'; exact absurd (hl _ a) (Nat.lt_irrefl _)
        · exact hi _ _ _ a b
    · rename_i hk
      rw [if_neg hk] at h2
      exact cells_inj hl hi h1 h2

theorem newEnv_comp {M : Model} {A : Around} {E : Value → Shared → Prop} {s : Shared} {scope : Scope} {globals : Addr} {closure : List (Str × Addr)} {qual : Str} {func : Option Addr} {code : Value} {around : Env} {builtins : Addr} {Q : Env → Shared → Prop}
    (h : Q (newEnv scope s.heap.objs.size globals (cellsFrom (s.heap.objs.size + 1) scope.names closure) qual func code (some around) builtins)
      { s with heap := pushCells (s.heap.push { cls := .type "dict", data := .dict #[] }) scope.names }) :
    wpAny M A (newFunctionEnv scope globals closure [] qual func code (some around) builtins) Q E s := by
  simp only [newFunctionEnv, Option.isSome_some, if_true]
  refine wpAny_bind (wpAny_alloc ?_)
  refine wpAny_bind (wpAny_layCells _ (fun n k c => rfl) scope.names closure _ _ ?_)
  rw [show ({ s with heap := s.heap.push { cls := .type "dict", data := .dict #[] } } : Shared).heap.objs.size = s.heap.objs.size + 1 from Heap.size_push ..]
  rw [List.forIn_nil]
  exact wpAny_bind (wpAny_pure (wpAny_pure h))

/-- every name of the written scope, in the scope that runs -/
theorem lookup_relS {sc : Scope} : ∀ {names : List (Str × NameKind)} {x : Str} {k : NameKind},
    (names.map fun (n, k) => if (k == NameKind.free && sc.kind == .function && sc.names.lookup n == some .cell) then (n, NameKind.cell) else (n, k)).lookup x = some k →
    ∃ k', names.lookup x = some k' ∧ (k = k' ∨ (k' = .free ∧ k = .cell))
  | [], _, _, h => by simp at h
  | (n, k₀) :: r, x, k, h => by
    have ih := @lookup_relS sc r x k
    have h' : List.lookup x ((if (k₀ == NameKind.free && sc.kind == .function && sc.names.lookup n == some .cell) = true then (n, NameKind.cell) else (n, k₀)) :: (r.map _)) = some k := h
    cases hx : x == n with
    | true =>
      simp only [List.lookup_cons, hx]
      by_cases hc : (k₀ == NameKind.free && sc.kind == .function && sc.names.lookup n == some .cell) = true
      · rw [if_pos hc] at h'
        simp only [List.lookup_cons, hx] at h'
        cases h'
        simp only [Bool.and_eq_true, beq_iff_eq] at hc
        exact ⟨k₀, rfl, .inr ⟨hc.1.1, rfl⟩⟩
      · rw [if_neg hc] at h'
        simp only [List.lookup_cons, hx] at h'
        cases h'
        exact ⟨_, rfl, .inl rfl⟩
    | false =>
      simp only [List.lookup_cons, hx]
      by_cases hc : (k₀ == NameKind.free && sc.kind == .function && sc.names.lookup n == some .cell) = true
      · rw [if_pos hc] at h'
        simp only [List.lookup_cons, hx] at h'
        exact ih h'
      · rw [if_neg hc] at h'
        simp only [List.lookup_cons, hx] at h'
        exact ih h'
/-- the names of a comprehension's block: its own (with their places in N), or captured -/
structure BlkOk (N : List Str) (sc scope : Scope) (own : List (Str × Nat)) : Prop where
  kind : scope.kind = .function
  uniq : ∀ y ∈ scope.names, scope.names.lookup y.1 = some y.2
  ix : ∀ p ∈ own, N[p.2]? = some p.1
  free : ∀ y ∈ scope.names, y.2 = .free → sc.names.lookup y.1 = some .cell ∨ sc.names.lookup y.1 = some .free
  own : ∀ y ∈ scope.names, y.2 = .local ∨ y.2 = .cell → y.1 ∈ own.map (·.1) ∨ y.1 ∉ N
/-- the slots of the block's own names forgotten -/
def wipe (σ : St) : List Nat → St
  | [] => σ
  | v :: vs => (wipe σ vs).set v none
theorem wipe_length (σ : St) : ∀ vs : List Nat, (wipe σ vs).length = σ.length
  | [] => rfl
  | v :: vs => by unfold wipe; rw [List.length_set, wipe_length σ vs]
theorem wipe_some {σ : St} {i : Nat} {x : V} : ∀ {vs : List Nat}, (wipe σ vs)[i]? = some (some x) → σ[i]? = some (some x) ∧ i ∉ vs
  | [], h => ⟨h, by simp⟩
  | v :: vs, h => by
    unfold wipe at h
    by_cases hi : v = i
    · subst hi
      by_cases hv : v < (wipe σ vs).length
      · rw [List.getElem?_set_self hv] at h; cases h
      · rw [List.getElem?_eq_none (by simpa using hv)] at h; cases h
    · rw [List.getElem?_set_ne hi] at h
      obtain ⟨h1, h2⟩ := wipe_some h
      exact ⟨h1, by simp only [List.mem_cons, not_or]; exact ⟨fun e => hi e.symm, h2⟩⟩

/-- the context of a block that starts at s, its iterator's objects at fp -/
abbrev Cx.blk (X : Cx) (s : Shared) (H : Hp) (scope : Scope) (cenv : Env) (fp : List Addr) : Cx := { X with s_0 := s, H_0 := H, env := cenv, outer := X.stack, ex := fp, fn := fun x => scope.names.lookup x == some .cell, pn := [], xe := fun _ _ => False }
section
variable {X : Cx} {pins : List (Addr × Obj)} {σ : St} {H : Hp} {s : Shared}
theorem block_start {scope : Scope} {own : List (Str × Nat)} {fp : List Addr} (I : Inv X pins σ H s) (ok : BlkOk X.N X.env.scope scope own) (hN : X.N.Nodup) (hfp : ∀ b ∈ fp, FpOk X pins H b ∧ b < s.heap.objs.size) :
    Inv (X.blk s H scope (compEnvC scope (cellsFrom (s.heap.objs.size + 1) scope.names (cloFrom X.env.cells scope.names [])) s.heap.objs.size X.env) fp) [] (wipe σ (own.map (·.2))) H { s with heap := pushCells (s.heap.push { cls := .type "dict", data := .dict #[] }) scope.names } := by
  have hfree : ∀ y ∈ scope.names, y.2 = .free → ∃ c, X.env.cells.lookup y.1 = some c := fun y hy e => by
    rcases ok.free y hy e with k | k
    · exact I.ok.has _ (.inl k)
    · exact I.ok.has _ (.inr k)
  generalize hcenv : compEnvC scope (cellsFrom (s.heap.objs.size + 1) scope.names (cloFrom X.env.cells scope.names [])) s.heap.objs.size X.env = cenv
  have kp : ∀ b o, s.heap.get? b = some o → (pushCells (s.heap.push { cls := .type "dict", data := .dict #[] }) scope.names).get? b = some o := fun b o e => pushCells_keeps _ _ _ _ (Heap.get?_push_of_some _ e)
  have hL : cenv.locals = s.heap.objs.size := by rw [← hcenv]; rfl
  have hcl : cenv.cells = cellsFrom (s.heap.objs.size + 1) scope.names (cloFrom X.env.cells scope.names []) := by rw [← hcenv]; rfl
  have hsc : cenv.scope = relS scope X.env.scope := by rw [← hcenv]; rfl
  rw [← Heap.size_push s.heap { cls := .type "dict", data := .dict #[] }] at hcl
  have cm : ∀ {y c}, (y, c) ∈ cloFrom X.env.cells scope.names [] → X.env.cells.lookup y = some c ∧ c < s.heap.objs.size := fun {y c} hm => by
    rcases cloFrom_mem hm with hm | ⟨h1, rfl⟩
    · cases hm
    · obtain ⟨c, hc⟩ := hfree _ h1 rfl
      rw [hc]
      obtain ⟨w, z⟩ := I.cell _ _ hc
      exact ⟨rfl, z.lt⟩
  have mem : ∀ {y c}, cenv.cells.lookup y = some c → (X.env.cells.lookup y = some c ∧ c < s.heap.objs.size) ∨ (s.heap.objs.size + 1 ≤ c ∧ CellAt (pushCells (s.heap.push { cls := .type "dict", data := .dict #[] }) scope.names) c none) := fun {y c} e => by
    rw [hcl] at e
    rcases cells_mem (PySem.mem_of_lookup e) with hm | ⟨_, h2, h3⟩
    · exact .inl (cm hm)
    · rw [Heap.size_push] at h2; exact .inr ⟨h2, h3⟩
  have look : ∀ {y}, scope.names.lookup y = some .free → ∃ c, cenv.cells.lookup y = some c ∧ X.env.cells.lookup y = some c := fun {y} hl => by
    have hy : (y, NameKind.free) ∈ scope.names := PySem.mem_of_lookup hl
    obtain ⟨c', e'⟩ := mem_lookup (cells_acc (names := scope.names) (n := (s.heap.push { cls := .type "dict", data := .dict #[] }).objs.size) (cloFrom_has (cells := X.env.cells) (acc := []) hy))
    rw [← hcl] at e'
    refine ⟨c', e', ?_⟩
    rw [hcl] at e'
    rcases cells_mem (PySem.mem_of_lookup e') with hm | ⟨h1, _, _⟩
    · exact (cm hm).1
    · have := ok.uniq _ h1
      rw [hl] at this; cases this
  have okB : (X.blk s H scope cenv fp).Ok := by
    refine ⟨I.ok.mod, by show cenv.scope.kind = _; rw [hsc]; exact ok.kind, by show cenv.globals = _; rw [← hcenv]; exact I.ok.glob, by show cenv.builtins = _; rw [← hcenv]; exact I.ok.blt, by show s.heap.objs.size ≤ cenv.locals; rw [hL]; exact Nat.le_refl _,
      fun y z c e1 e2 => ?_, fun y hy => ?_, fun y c z e => ?_, I.ok.hd, I.ok.frames, .inl rfl, fun b hb => ⟨?_, fun y c e z => ?_⟩, I.bs, Nat.le_trans I.ok.bsz I.sz, fun b o e hb => ?_, fun b hb z => ?_, I.stack, I.stkFree⟩
    · have e1 : cenv.cells.lookup y = some c := e1
      have e2 : cenv.cells.lookup z = some c := e2
      rw [hcl] at e1 e2
      refine cells_inj (fun p hp => ?_) (fun y z c a b => I.ok.inj y z c (cm a).1 (cm b).1) (PySem.mem_of_lookup e1) (PySem.mem_of_lookup e2)
      rw [Heap.size_push]
      exact Nat.lt_succ_of_lt (cm (y := p.1) (c := p.2) hp).2
    · show ∃ c, cenv.cells.lookup y = some c
      have key : ∀ k, cenv.kindOf y = some k → (k = .cell ∨ k = .free) → ∃ c, cenv.cells.lookup y = some c := fun k hk hk' => by
        unfold Env.kindOf at hk
        rw [hsc] at hk
        obtain ⟨k', e, r⟩ := lookup_relS hk
        have : k' = .cell ∨ k' = .free := by
          rcases r with rfl | ⟨rfl, _⟩
          · exact hk'
          · exact .inr rfl
        rcases this with rfl | rfl
        · obtain ⟨c, hm⟩ := cells_has (n := (s.heap.push { cls := .type "dict", data := .dict #[] }).objs.size) (acc := cloFrom X.env.cells scope.names []) (PySem.mem_of_lookup e)
          obtain ⟨c', e'⟩ := mem_lookup hm
          exact ⟨c', by rw [hcl]; exact e'⟩
        · obtain ⟨c, h1, _⟩ := look e
          exact ⟨c, h1⟩
      rcases hy with hy | hy
      · exact key _ hy (.inl rfl)
      · exact key _ hy (.inr rfl)
    · have z : (scope.names.lookup y == some NameKind.cell) = true := z
      have z : scope.names.lookup y = some .cell := by simpa using z
      have e : cenv.cells.lookup y = some c := e
      rw [hcl] at e
      rcases cells_mem (PySem.mem_of_lookup e) with hm | ⟨_, h2, _⟩
      · rcases cloFrom_mem hm with hm | ⟨h1, _⟩
        · cases hm
        · have q := ok.uniq _ h1
          rw [z] at q; cases q
      · rw [Heap.size_push] at h2
        exact Nat.le_of_succ_le h2
    · show b ≠ cenv.locals
      rw [hL]; exact Nat.ne_of_lt (hfp b hb).2
    · have e : cenv.cells.lookup y = some c := e
      rcases mem e with ⟨h1, _⟩ | ⟨h1, _⟩
      · exact (hfp b hb).1.2.2.2.2.1 y c h1 z
      · have h2 : s.heap.objs.size + 1 ≤ b := by rw [← z]; exact h1
        exact absurd (Nat.lt_of_lt_of_le (hfp b hb).2 (Nat.le_of_succ_le h2)) (Nat.lt_irrefl _)
    · rcases (hfp b hb).1.2.2.2.1 with z | z
      · exact I.ok.noex b o e z
      · exact absurd (Nat.lt_of_lt_of_le (Heap.lt_size e) (Nat.le_trans I.ok.bsz z)) (Nat.lt_irrefl _)
    · rcases List.mem_cons.mp (I.stkSub b z) with z | z
      · exact (hfp b hb).1.2.1 z
      · exact (hfp b hb).1.2.2.1 z
  refine ⟨okB, rfl, I.bare.self, Un.kept kp, ⟨fun _ => none, ?_, fun i y av e1 e2 e3 => ?_⟩, fun y c e => ?_, ?_, fun y c e => ?_, fun p hp => ?_, I.hok.kept kp, by rw [wipe_length]; exact I.len⟩
  · show Heap.Ns _ cenv.locals _
    rw [hL]
    exact Heap.Ns.keeps (Heap.Ns.new ..) fun b o e => pushCells_keeps _ _ _ _ e
  · obtain ⟨e2, hne⟩ := wipe_some e2
    have hfr : scope.names.lookup y = some .free ∧ (cenv.kindOf y = some .cell ∨ cenv.kindOf y = some .free) := by
      have key : ∀ k, cenv.scope.names.lookup y = some k → k = .local ∨ k = .cell ∨ k = .free → scope.names.lookup y = some .free ∧ (cenv.kindOf y = some .cell ∨ cenv.kindOf y = some .free) := fun k hk hk' => by
        have hk0 := hk
        rw [hsc] at hk
        obtain ⟨k', e, r⟩ := lookup_relS hk
        have no : ¬ (k' = .local ∨ k' = .cell) := fun hh => by
          rcases ok.own _ (PySem.mem_of_lookup e) hh with e' | e'
          · obtain ⟨p, hp, hpy⟩ := List.mem_map.mp e'
            have e3 := ok.ix p hp
            have : p.1 = y := hpy
            rw [this] at e3
            exact hne (List.mem_map.mpr ⟨p, hp, nodup_ix hN e3 e1⟩)
          · exact e' (List.mem_of_getElem? e1)
        rcases r with rfl | ⟨rfl, rfl⟩
        · rcases hk' with rfl | rfl | rfl
          · exact absurd (.inl rfl) no
          · exact absurd (.inr rfl) no
          · exact ⟨e, .inr hk0⟩
        · exact ⟨e, .inl hk0⟩
      have e3 : Vis cenv.scope y := e3
      rcases e3 with e3 | e3 | e3
      · exact key _ e3 (.inl rfl)
      · exact key _ e3 (.inr (.inl rfl))
      · exact key _ e3 (.inr (.inr rfl))
    obtain ⟨m, hn, hl⟩ := I.loc
    have hvis : Vis X.env.scope y := (ok.free _ (PySem.mem_of_lookup hfr.1) rfl).elim (fun k => .inr (.inl k)) (fun k => .inr (.inr k))
    obtain ⟨w, r, q⟩ := hl i y av e1 e2 hvis
    refine ⟨w, r, .inr ⟨hfr.2, ?_⟩⟩
    obtain ⟨c, h1, h2⟩ := look hfr.1
    rcases q with ⟨k, _⟩ | ⟨_, c', e', z⟩
    · have k : X.env.scope.names.lookup y = some .local := k
      rcases ok.free _ (PySem.mem_of_lookup hfr.1) rfl with k' | k' <;> rw [show X.env.scope.names.lookup y = _ from k'] at k <;> cases k
    · rw [h2] at e'; cases e'
      exact ⟨c, h1, z.keeps kp⟩
  · have e : cenv.cells.lookup y = some c := e
    rcases mem e with ⟨h1, _⟩ | ⟨_, z⟩
    · obtain ⟨w, z⟩ := I.cell y c h1
      exact ⟨w, z.keeps kp⟩
    · exact ⟨_, z⟩
  · show H cenv.locals = none
    rw [hL]; exact I.hok.fresh (Nat.le_refl _)
  · have e : cenv.cells.lookup y = some c := e
    rcases mem e with ⟨h1, _⟩ | ⟨h1, _⟩
    · exact I.freeC y c h1
    · exact I.hok.fresh (Nat.le_of_succ_le h1)
  · exact absurd (show p ∈ ([] : List (Addr × Obj)) ++ [] from hp) (by simp)

/-- an item appended to a tracked list -/
theorem app_ok {E : Value → Shared → Prop} {D : Addr} {xs : List V} {y : V} {v : Value} {Q : Value → Shared → Prop} (I : Inv X pins σ H s) (hD : H D = some (.lst xs)) (hz : xs.length < sizeLine) (r : RelV y v)
    (h : ∀ s', Inv X pins σ (upd H D (.lst (xs ++ [y]))) s' → Q .none s') : wpAny (model X.prog X.w) X.A (call (.builtin "list.append") [.ref D, v]) Q E s := by
  obtain ⟨hz', its, n, ri, e⟩ := I.hok D _ hD
  have hl := ri.length
  refine append_at (hsz := by rw [List.size_toArray]; omega) e fun h' sb ho' => ?_
  refine h { s with heap := h' } (I.write (t' := s.toks) (by rw [hD]; trivial) (.inl rfl) (fun b u hb q => (sb.2 b hb).trans q) ⟨_, ho'⟩ ⟨by rw [List.length_append]; exact hz, its ++ [v], n + 1, ri.append (.cons r .nil), ?_⟩)
  rw [ho']
  simp

/-- a clause's tests -/
structure PTs (X : Cx) (ifs : List Expr) (t : TT) : Prop where
  run : ∀ (pins : List (Addr × Obj)) (s : Shared) (σ : St) (H : Hp) (Q : Bool → Hp → Prop), Inv X pins σ H s → t σ H Q →
    wpAny (model X.prog X.w) X.A (forIn ifs true fun c r => if r = true then do let ok ← isTrue c X.env (eval c X.env); pure (ForInStep.yield ok) else pure (ForInStep.yield r)) (TP X pins σ Q) X.xe s
instance {X : Cx} {ifs : List Expr} {t : TT} : CoeFun (PTs X ifs t) (fun _ => ∀ (pins : List (Addr × Obj)) (s : Shared) (σ : St) (H : Hp) (Q : Bool → Hp → Prop), Inv X pins σ H s → t σ H Q →
    wpAny (model X.prog X.w) X.A (forIn ifs true fun c r => if r = true then do let ok ← isTrue c X.env (eval c X.env); pure (ForInStep.yield ok) else pure (ForInStep.yield r)) (TP X pins σ Q) X.xe s) := ⟨PTs.run⟩
def tYes : TT := fun _ H Q => Q true H
theorem pts_nil : PTs X [] tYes := ⟨fun _ _ _ H _ I h => wpAny_tests_nil ⟨H, I, h⟩⟩
theorem pts_one {c : Expr} {t : TT} (h : PT X c t) : PTs X [c] t := ⟨fun pins s σ H Q I hw => wpAny_tests_one (h pins s σ H Q I hw)⟩
end

theorem thnF {α : Type} {t : Sem α} {Q Q' : α → Shared → Prop} {M : Model} {A : Around} {E : Value → Shared → Prop} {s : Shared} (h : wpAny M A t Q (fun _ _ => False) s) (hQ : ∀ a s, Q a s → Q' a s) : wpAny M A t Q' E s := wpAny_mono h hQ fun _ _ z => False.elim z

/-- the loop of a list comprehension's block, the target of any form (codeAny_compLoop_tests asks a target that no tuple goes to; statement and proof follow it, PyProof/CompMap.lean:41-61, with the step letOwnedTupleGo kept) -/
theorem compLoop_any {prog : Program} {w : World} {A : Around} {R : Result → Shared → Prop} {s : Shared} {elt target iter : Expr} {ifs : List Expr} {scope : Scope} {pos : Pos} {it acc : Value} {env : Env} (I : Nat → Shared → Prop)
    (turn : ∀ n s, I n s → wpAny (model prog w) A (pyNext it) (fun r s₁ => match r with
      | none => R (.ok .next) s₁
      | some v => wpAny (model prog w) A (letOwnedTupleGo target it v) (fun _ s₁' => wpAny (model prog w) A (assign target env v) (fun _ s₂ =>
          wpAny (model prog w) A (forIn ifs true fun c r => if r = true then do let ok ← isTrue c env (eval c env); pure (ForInStep.yield ok) else pure (ForInStep.yield r)) (fun ok s₃ =>
            if ok = true then wpAny (model prog w) A (eval elt env) (fun x s₄ =>
              wpAny (model prog w) A (call (.builtin "list.append") [acc, x]) (fun _ s₅ => ∃ m, m < n ∧ I m s₅) (notedBy (model prog w) A env fun e s' => R (.error e) s') s₄) (notedBy (model prog w) A env fun e s' => R (.error e) s') s₃
            else ∃ m, m < n ∧ I m s₃) (notedBy (model prog w) A env fun e s' => R (.error e) s') s₂) (notedBy (model prog w) A env fun e s' => R (.error e) s') s₁') (notedBy (model prog w) A env fun e s' => R (.error e) s') s₁) (notedBy (model prog w) A env fun e s' => R (.error e) s') s)
    (n : Nat) (h : I n s) :
    codeAny (model prog w) A (.compLoop (.ListComp elt [⟨target, iter, ifs, 0⟩] scope pos) 0 it acc env) R s := by
  refine codeAny_loop rfl I (fun n s hI => ?_) n h
  show wpAny _ A ((compTurn (.ListComp elt [⟨target, iter, ifs, 0⟩] scope pos) 0 it acc env).onRaise (fun x => do noteFrame x env; theTreesLotGoes x)) _ _ s
  refine wpAny_noted ?_
  rw [compTurn_list]
  refine wpAny_bind (wpAny_standAt (wpAny_bind (wpAny_mono (turn n s hI) (fun r s₁ h₁ => ?_) fun _ _ h' => h')))
  cases r with
  | none => exact wpAny_pure h₁
  | some v =>
    refine wpAny_bind (wpAny_mono h₁ (fun _ s₁' h₁' => ?_) fun _ _ h' => h')
    refine wpAny_bind (wpAny_mono h₁' (fun _ s₂ h₂ => wpAny_bind (wpAny_mono h₂ (fun ok s₃ h₃ => ?_) fun _ _ h' => h')) fun _ _ h' => h')
    cases ok with
    | false => exact wpAny_pure ⟨rfl, h₃⟩
    | true =>
      exact wpAny_bind (wpAny_bind (wpAny_mono h₃ (fun x s₄ h₄ => wpAny_bind (wpAny_mono h₄ (fun _ s₅ h₅ => wpAny_pure (wpAny_pure ⟨rfl, h₅⟩)) fun _ _ h' => h')) fun _ _ h' => h'))

section
variable {X : Cx}
/-- [elt for target in iter if ..]: D the new list; W by the turn and a measure, Nx what a turn is to reach -/
def tLc (wi : TI) (g : TG) (tt : TT) (te : TE) (vs : List Nat) : TE := fun σ H Q => wi σ H fun J H1 => ∀ D, H1 D = none → ∃ W : Nat → Nat → Hp → Prop, (∃ m, W 0 m (upd H1 D (.lst []))) ∧ ∀ i m H, W i m H →
  (J.stop i H ∧ Q (.ref D) H) ∨ (J.go i H ∧ ∃ Nx : Hp → Prop, (∀ H', Nx H' → ∃ m', m' < m ∧ W (i + 1) m' H') ∧ ∀ x H', J.yld i H x H' → g x (wipe σ vs) H' fun σ2 H2 => wipe σ2 vs = wipe σ vs ∧ tt σ2 H2 fun b H3 =>
    if b = true then te σ2 H3 fun y H4 => ∃ acc, H4 D = some (.lst acc) ∧ acc.length < sizeLine ∧ Nx (upd H4 D (.lst (acc ++ [y]))) else Nx H3)
theorem lc_core {pins : List (Addr × Obj)} {s : Shared} {σ : St} {H : Hp} {Q : VK} {elt tg iter : Expr} {ifs : List Expr} {scope : Scope} {own : List (Str × Nat)} {pos pos' : Pos} {wi : TI} {g : TG} {tt : TT} {te : TE} {use : Option (Value → Sem Unit)} {Qf : Value → Shared → Prop}
    (hc : X.calm = true) (hN : X.N.Nodup) (I : Inv X pins σ H s) (hi : PI X tg iter wi) (ok : BlkOk X.N X.env.scope scope own)
    (hg : ∀ (s : Shared) (H : Hp) (C : Addr) (cl : List (Str × Addr)) (fp : List Addr), PG (X.blk s H scope (compEnvC scope cl C X.env) fp) tg g) (ht : ∀ (s : Shared) (H : Hp) (C : Addr) (cl : List (Str × Addr)) (fp : List Addr), PTs (X.blk s H scope (compEnvC scope cl C X.env) fp) ifs tt)
    (he : ∀ (s : Shared) (H : Hp) (C : Addr) (cl : List (Str × Addr)) (fp : List Addr), PE (X.blk s H scope (compEnvC scope cl C X.env) fp) elt te) (hs : ∀ x, foldedSetIterable iter X.env x = pure x)
    (h : tLc wi g tt te (own.map (·.2)) σ H Q)
    (hRR : ∀ D C s' m H', Inv X pins σ H' s' → Q (.ref D) H' → s'.heap.Ns C m → FpOk X pins H' C → compPost (model X.prog X.w) X.A X.xe use Qf (.ref D) C (.ok .next) s') :
    wpAny (model X.prog X.w) X.A (comprehension (.ListComp elt [⟨tg, iter, ifs, 0⟩] scope pos) scope X.env pos' (newList []) false (eval iter X.env) use) Qf X.xe s := by
  have hfree : ∀ y ∈ scope.names, y.2 = .free → ∃ c, X.env.cells.lookup y.1 = some c := fun y hy e => by
    rcases ok.free y hy e with k | k
    · exact I.ok.has _ (.inl k)
    · exact I.ok.has _ (.inr k)
  refine wpAny_comprehension_free (use := use) rfl hs (closure_ok hfree) ok.kind (fun y hy e => by rw [ok.uniq y hy, e])
    (thn (hi pins s σ H _ I h) fun xv s1 hx => thn hx fun itv s2 h2 => ?_)
  obtain ⟨it, fp, tn, J, H2, e, I2, T, st2, f2, q⟩ := h2
  subst e
  refine wpAny_newObj_type (newEnv_comp ?_) (by show 0 ≤ sizeLine; decide)
  generalize hD : s2.heap.objs.size = D
  have hDn : H2 D = none := I2.hok.fresh (Nat.le_of_eq hD)
  obtain ⟨W, ⟨m0, w0⟩, turn⟩ := q D hDn
  -- the new list
  generalize hs3 : ({ s2 with heap := s2.heap.push { cls := .type "list", data := .seq ([] : List Value).toArray } } : Shared) = s3
  have I3 : Inv X pins σ (upd H2 D (.lst [])) s3 := by
    rw [← hs3]
    refine I2.laid (t' := s2.toks) (fun b o e => Heap.get?_push_of_some _ e) (Nat.le_of_eq hD) ⟨Nat.zero_le _, [], 0, .nil, ?_⟩
    rw [← hD]
    exact Heap.get?_push_size _ rfl
  have h3 : s3.heap = s2.heap.push { cls := .type "list", data := .seq ([] : List Value).toArray } := by rw [← hs3]
  have sz : ∀ b ∈ fp, b < s2.heap.objs.size := fun b hb => by
    obtain ⟨o, e, _⟩ := T.obj _ _ st2 b hb
    exact Heap.lt_size e
  have f3 : ∀ b ∈ fp, FpOk X pins (upd H2 D (.lst [])) b ∧ b < s3.heap.objs.size := fun b hb => by
    have hlt := sz b hb
    refine ⟨⟨?_, (f2 b hb).2⟩, by rw [h3, Heap.size_push]; exact Nat.lt_succ_of_lt hlt⟩
    rw [upd_ne (by rw [← hD]; exact Nat.ne_of_lt hlt)]
    exact (f2 b hb).1
  have st3 : tn 0 s3.heap := T.keep _ _ _ st2 fun b _ o e => by rw [h3]; exact Heap.get?_push_of_some _ e
  have I4 := block_start I3 ok hN f3
  have pg := hg s3 (upd H2 D (.lst [])) s3.heap.objs.size (cellsFrom (s3.heap.objs.size + 1) scope.names (cloFrom X.env.cells scope.names [])) fp
  have pt := ht s3 (upd H2 D (.lst [])) s3.heap.objs.size (cellsFrom (s3.heap.objs.size + 1) scope.names (cloFrom X.env.cells scope.names [])) fp
  have pe := he s3 (upd H2 D (.lst [])) s3.heap.objs.size (cellsFrom (s3.heap.objs.size + 1) scope.names (cloFrom X.env.cells scope.names [])) fp
  show codeAny _ _ (.compStart (.ListComp elt [⟨tg, iter, ifs, 0⟩] scope pos) 0 (.ref it) (.ref D) (compEnvC scope (cellsFrom (s3.heap.objs.size + 1) scope.names (cloFrom X.env.cells scope.names [])) s3.heap.objs.size X.env)) (compPost (model X.prog X.w) X.A X.xe use Qf (.ref D) s3.heap.objs.size) { s3 with heap := pushCells (s3.heap.push { cls := .type "dict", data := .dict #[] }) scope.names }
  have nfp : ∀ b ∈ fp, (upd H2 D (.lst [])) b = none := fun b hb => (f3 b hb).1.1
  generalize hce : compEnvC scope (cellsFrom (s3.heap.objs.size + 1) scope.names (cloFrom X.env.cells scope.names [])) s3.heap.objs.size X.env = ce at I4 pg pt pe ⊢
  have cL : ce.locals = s3.heap.objs.size := by subst hce; rfl
  generalize hH3 : upd H2 D (.lst []) = H3 at I3 I4 pg pt pe w0 nfp f3
  generalize hs4 : ({ s3 with heap := pushCells (s3.heap.push { cls := .type "dict", data := .dict #[] }) scope.names } : Shared) = s4 at I4 ⊢
  have st4 : tn 0 s4.heap := T.keep _ _ _ st3 fun b _ o e => by rw [← hs4]; exact pushCells_keeps _ _ _ _ (Heap.get?_push_of_some _ e)
  have stat : ∀ {σ' : St} {H' : Hp} {s' : Shared}, Inv (X.blk s3 H3 scope ce fp) [] σ' H' s' → (∀ b ∈ fp, H' b = none) → ∀ b ∈ fp, FpOk (X.blk s3 H3 scope ce fp) [] H' b := fun {σ' H' s'} I' hn b hb =>
    ⟨hn b hb, (I'.ok.exf b hb).1, I'.ok.exfs b hb, .inl hb, fun x c e => (I'.ok.exf b hb).2 x c e, fun p hp => absurd (show p ∈ ([] : List (Addr × Obj)) ++ [] from hp) (by simp)⟩
  have loop : codeAny (model X.prog X.w) X.A (.compLoop (.ListComp elt [⟨tg, iter, ifs, 0⟩] scope pos) 0 (.ref it) (.ref D) ce) (compPost (model X.prog X.w) X.A X.xe use Qf (.ref D) s3.heap.objs.size) s4 := by
    refine compLoop_any (fun n s' => ∃ i H', Inv (X.blk s3 H3 scope ce fp) [] (wipe σ (own.map (·.2))) H' s' ∧ tn i s'.heap ∧ (∀ b ∈ fp, H' b = none) ∧ W i n H') ?_ m0 ⟨0, H3, I4, st4, nfp, w0⟩
    rintro n s5 ⟨i, H5, I5, st5, n5, w5⟩
    rcases turn i n H5 w5 with ⟨stop, qq⟩ | ⟨go, Nx, hNx, step⟩
    · have td := T.done (X.blk s3 H3 scope ce fp) rfl rfl rfl hc i [] s5 _ H5 (fun _ _ => False) I5 (stat I5 n5) st5 stop
      refine thnF td fun r s6 ⟨hr, I6⟩ => ?_
      subst hr
      -- back in the def's context
      have I7 : Inv X pins σ H5 s6 := I3.call' (ch := fp) I6.os I6.base I6.hok I6.bare fun b hb => ⟨(f3 b hb).1.2.2.2.1, (f3 b hb).1.2.1, (f3 b hb).1.2.2.2.2.1, (f3 b hb).1.2.2.2.2.2⟩
      have nC : H5 s3.heap.objs.size = none := by
        have z : H5 ce.locals = none := I6.free
        rw [cL] at z
        exact z
      obtain ⟨m, hn, _⟩ := I6.loc
      have hn : s6.heap.Ns ce.locals m := hn
      rw [cL] at hn
      exact hRR D s3.heap.objs.size s6 m H5 I7 qq hn (I3.fpOk (Nat.le_refl _) nC)
    · have ti := T.item (X.blk s3 H3 scope ce fp) rfl rfl rfl hc i [] s5 _ H5 (fun _ _ => False) I5 (stat I5 n5) st5 go
      refine thnF ti fun r s6 ⟨u, hr, h6⟩ => ?_
      subst hr
      refine thnF h6 fun _ s7 ⟨x, H7, I7, r7, y7, st7, n7⟩ => ?_
      have I7' := I7.pinned (stat I7 n7) (T.obj _ _ st7)
      refine thnF (pg _ s7 _ H7 x u _ I7' r7 (step x H7 y7)) fun _ s8 ⟨σ8, H8, I8, hw8, q8⟩ => ?_
      refine thnF (pt _ s8 σ8 H8 _ I8 q8) fun b s9 ⟨H9, I9, q9⟩ => ?_
      -- the turn's end
      have fin : ∀ {s' : Shared} {H' : Hp}, Inv (X.blk s3 H3 scope ce fp) ([] ++ pinsAt fp s7.heap) σ8 H' s' → Nx H' → ∃ m, m < n ∧ ∃ i H', Inv (X.blk s3 H3 scope ce fp) [] (wipe σ (own.map (·.2))) H' s' ∧ tn i s'.heap ∧ (∀ b ∈ fp, H' b = none) ∧ W i m H' := fun {s' H'} I' nx => by
        obtain ⟨m', hm, w'⟩ := hNx H' nx
        have pin' : ∀ b ∈ fp, ∀ o, s7.heap.get? b = some o → s'.heap.get? b = some o ∧ H' b = none := fun b hb o e =>
          let z := I'.pin (b, o) (List.mem_append_right _ (List.mem_append_right _ (mem_pinsAt hb e)))
          ⟨z.1, z.2.1⟩
        have hl : (wipe σ (own.map (·.2))).length = σ8.length := by rw [← hw8, wipe_length]
        refine ⟨m', hm, i + 1, H', (I'.unpinned (pins := [])).weak hl (fun j v e => ?_), T.keep _ _ _ st7 fun b hb o e => (pin' b hb o e).1, fun b hb => ?_, w'⟩
        · rw [← hw8] at e
          exact (wipe_some e).1
        · obtain ⟨o, e, _⟩ := T.obj _ _ st7 b hb
          exact (pin' b hb o e).2
      cases b with
      | false =>
        simp only [Bool.false_eq_true, if_false] at q9 ⊢
        exact fin I9 q9
      | true =>
        simp only [if_true] at q9 ⊢
        refine thnF (pe _ s9 σ8 H9 _ I9 q9) fun z s10 ⟨yv, H10, I10, r10, acc, hD10, hz10, nx⟩ => ?_
        exact app_ok (X := X.blk s3 H3 scope ce fp) I10 hD10 hz10 r10 fun s11 I11 => fin I11 nx
  exact codeAny_compStart_list loop (T.self X.A 0 _ _ _ st4 loop)
/-- as a value -/
theorem pe_lc {elt tg iter : Expr} {ifs : List Expr} {scope : Scope} {own : List (Str × Nat)} {pos : Pos} {wi : TI} {g : TG} {tt : TT} {te : TE} (hc : X.calm = true) (hN : X.N.Nodup) (hi : PI X tg iter wi) (ok : BlkOk X.N X.env.scope scope own)
    (hg : ∀ (s : Shared) (H : Hp) (C : Addr) (cl : List (Str × Addr)) (fp : List Addr), PG (X.blk s H scope (compEnvC scope cl C X.env) fp) tg g) (ht : ∀ (s : Shared) (H : Hp) (C : Addr) (cl : List (Str × Addr)) (fp : List Addr), PTs (X.blk s H scope (compEnvC scope cl C X.env) fp) ifs tt)
    (he : ∀ (s : Shared) (H : Hp) (C : Addr) (cl : List (Str × Addr)) (fp : List Addr), PE (X.blk s H scope (compEnvC scope cl C X.env) fp) elt te) (hs : ∀ x, foldedSetIterable iter X.env x = pure x := by intro _; rfl) :
    PE X (.ListComp elt [⟨tg, iter, ifs, 0⟩] scope pos) (tLc wi g tt te (own.map (·.2))) := by
  constructor
  intro pins s σ H Q I h
  rw [eval_ListComp]
  refine lc_core hc hN I hi ok hg ht he hs h fun D C s' m H' I' q hn f => ⟨m, hn, fun h'' sb => ?_⟩
  obtain ⟨f0, f1, f2, f3, f4, f5⟩ := f
  exact ⟨.ref D, H', I'.turned (t' := s'.toks) (fun b o hb e => (sb.2 b hb).trans e) f0 f1 f3 f4 f5, rfl, q⟩
/-- name = [..] on one line, the name a local -/
theorem ps_setLc {i : Nat} {y : Str} {py : Pos} {elt tg iter : Expr} {ifs : List Expr} {scope : Scope} {own : List (Str × Nat)} {pos spos : Pos} {wi : TI} {g : TG} {tt : TT} {te : TE} (hc : X.calm = true) (hN : X.N.Nodup) (hy : X.N[i]? = some y) (hyl : X.env.scope.names.lookup y = some .local)
    (hsw : swapsWith (.ListComp elt [⟨tg, iter, ifs, 0⟩] scope pos) (some (.Name y py)) spos.line X.env = pure true) (hi : PI X tg iter wi) (ok : BlkOk X.N X.env.scope scope own)
    (hg : ∀ (s : Shared) (H : Hp) (C : Addr) (cl : List (Str × Addr)) (fp : List Addr), PG (X.blk s H scope (compEnvC scope cl C X.env) fp) tg g) (ht : ∀ (s : Shared) (H : Hp) (C : Addr) (cl : List (Str × Addr)) (fp : List Addr), PTs (X.blk s H scope (compEnvC scope cl C X.env) fp) ifs tt)
    (he : ∀ (s : Shared) (H : Hp) (C : Addr) (cl : List (Str × Addr)) (fp : List Addr), PE (X.blk s H scope (compEnvC scope cl C X.env) fp) elt te) (hs : ∀ x, foldedSetIterable iter X.env x = pure x := by intro _; rfl) :
    PS X (.Assign [.Name y py] (.ListComp elt [⟨tg, iter, ifs, 0⟩] scope pos) spos) (tAsg (tLc wi g tt te (own.map (·.2))) (gName i)) := by
  constructor
  intro pins s σ H D I h
  rw [exec_Assign_Name_used _ _ _ _ hsw]
  refine wpAny_bind (wpAny_standAt (wpAny_bind ?_))
  show wpAny _ X.A (do let _ ← comprehension (.ListComp elt [⟨tg, iter, ifs, 0⟩] scope pos) scope X.env (firstIterPos [⟨tg, iter, ifs, 0⟩] pos) (newList []) false (eval iter X.env) (some (assign (.Name y py) X.env))) _ _ s
  have h : tLc wi g tt te (own.map (·.2)) σ H (fun x H1 => gName i x σ H1 D.nx) := h
  refine wpAny_bind (thn (lc_core (Qf := fun _ s' => SP X pins D .next s') hc hN I hi ok hg ht he hs h fun L C s' m H' I' q hn f => ?_) fun _ s' hq => wpAny_pure (wpAny_pure hq))
  show wpAny _ _ (assign (.Name y py) X.env (.ref L)) _ _ _
  refine wpAny_assign_Name (store_ok2 (v := V.ref L) I' hN hy (.inl hyl) rfl (fun s2 I2 ⟨a, sb, ha⟩ => ?_) (.inr hyl))
  obtain ⟨f0, f1, f2, f3, f4, f5⟩ := f
  have haC : C ≠ a := by
    rcases ha with z | z
    · rw [z]; exact f1
    · exact fun e => f4 y a z e.symm
  refine ⟨m, hn.sameBut sb haC, fun h3 sb3 => ?_⟩
  exact ⟨_, H', I2.turned (t' := s2.toks) (fun b o hb e => (sb3.2 b hb).trans e) f0 f1 f3 f4 f5, q⟩
theorem sw_true {elt : Expr} {gs : List Comprehension} {scope : Scope} {pos py : Pos} {y : Str} {l : Nat} {env : Env} (hk : env.scope.kind = .function) (hy : env.scope.names.lookup y = some .local) (hl : (py.line == pos.line) = true)
    (ha : (scope.names.any fun (n, k) => n == y && (k == .local || k == .cell)) = false) : swapsWith (.ListComp elt gs scope pos) (some (.Name y py)) l env = pure true := by
  have ky : env.kindOf y = some .local := hy
  have hb : env.blockKind = .function := by unfold Env.blockKind; rw [hk]; rfl
  unfold swapsWith
  simp only [hb, ky, ha, Expr.pos, hl]
  rfl
end

/-! ### the forms one uses -/
/-- over a range: Pv by the turn and the heap (the new list at D within) -/
theorem lc_range {lo : Int} {n : Nat} {g : TG} {tt : TT} {te : TE} {vs : List Nat} {σ : St} {H1 : Hp} {D : Addr} {Qd : Hp → Prop} (Pv : Nat → Hp → Prop) (h0 : Pv 0 (upd H1 D (.lst [])))
    (hs : ∀ i H, i < n → Pv i H → g (.int (lo + i)) (wipe σ vs) H fun σ2 H2 => wipe σ2 vs = wipe σ vs ∧ tt σ2 H2 fun b H3 =>
      if b = true then te σ2 H3 fun y H4 => ∃ acc, H4 D = some (.lst acc) ∧ acc.length < sizeLine ∧ Pv (i + 1) (upd H4 D (.lst (acc ++ [y]))) else Pv (i + 1) H3) (hd : ∀ H, Pv n H → Qd H) :
    ∃ W : Nat → Nat → Hp → Prop, (∃ m, W 0 m (upd H1 D (.lst []))) ∧ ∀ i m H, W i m H →
      ((Itr lo n).stop i H ∧ Qd H) ∨ ((Itr lo n).go i H ∧ ∃ Nx : Hp → Prop, (∀ H', Nx H' → ∃ m', m' < m ∧ W (i + 1) m' H') ∧ ∀ x H', (Itr lo n).yld i H x H' → g x (wipe σ vs) H' fun σ2 H2 => wipe σ2 vs = wipe σ vs ∧ tt σ2 H2 fun b H3 =>
        if b = true then te σ2 H3 fun y H4 => ∃ acc, H4 D = some (.lst acc) ∧ acc.length < sizeLine ∧ Nx (upd H4 D (.lst (acc ++ [y]))) else Nx H3) := by
  refine ⟨fun i m H => m = n - i ∧ i ≤ n ∧ Pv i H, ⟨n, by simp, Nat.zero_le _, h0⟩, ?_⟩
  rintro i m H ⟨rfl, hi, p⟩
  by_cases hlt : i < n
  · refine .inr ⟨hlt, Pv (i + 1), fun H' p' => ⟨n - (i + 1), by omega, rfl, hlt, p'⟩, fun x H' y => ?_⟩
    obtain ⟨e, y⟩ := y
    subst e y
    exact hs i _ hlt p
  · have e : i = n := by omega
    subst e
    exact .inl ⟨Nat.le_refl _, hd H p⟩
def blkC (N : List Str) (sc scope : Scope) (own : List (Str × Nat)) : Bool :=
  (match scope.kind with | .function => true | _ => false) && (scope.names.all fun y => decide (scope.names.lookup y.1 = some y.2)) && (own.all fun p => decide (N[p.2]? = some p.1)) &&
    (scope.names.all fun y => match y.2 with
      | .free => (match sc.names.lookup y.1 with | some .cell => true | some .free => true | _ => false)
      | .local => decide (y.1 ∈ own.map (·.1)) || decide (y.1 ∉ N)
      | .cell => decide (y.1 ∈ own.map (·.1)) || decide (y.1 ∉ N)
      | _ => true)
theorem blkOk_by {N : List Str} {sc scope : Scope} {own : List (Str × Nat)} (h : blkC N sc scope own = true) : BlkOk N sc scope own := by
  unfold blkC at h
  simp only [Bool.and_eq_true, List.all_eq_true, decide_eq_true_eq] at h
  obtain ⟨⟨⟨h1, h2⟩, h3⟩, h4⟩ := h
  refine ⟨?_, h2, h3, fun y hy e => ?_, fun y hy e => ?_⟩
  · split at h1
    · assumption
    · cases h1
  · have q := h4 y hy
    simp only [e] at q
    split at q <;> first | exact .inl (by assumption) | exact .inr (by assumption) | cases q
  · have q := h4 y hy
    rcases e with e | e <;> (simp only [e, Bool.or_eq_true, decide_eq_true_eq] at q; exact q)
end L2

namespace L2
open PySem PySem.Spec PyProof.Rows

theorem compTurn2_out (elt t0 i0 t1 i1 : Expr) (ifs0 ifs1 : List Expr) (scope : Scope) (pos : Pos) (it acc : Value) (env : Env) :
    compTurn (.ListComp elt [⟨t0, i0, ifs0, 0⟩, ⟨t1, i1, ifs1, 0⟩] scope pos) 0 it acc env = (do
      standAt i0.pos
      match ← pyNext it with
      | none => pure (.done .next)
      | some v =>
        letOwnedTupleGo t0 it v
        assign t0 env v
        let mut ok := true
        for c in ifs0 do
          if ok then ok ← isTrue c env (eval c env)
        if ok then
          let x ← eval i1 env
          standAt i1.pos
          let x ← foldedSetIterable i1 env x
          let _ ← runOwn (.compStart (.ListComp elt [⟨t0, i0, ifs0, 0⟩, ⟨t1, i1, ifs1, 0⟩] scope pos) 1 (← holding [x] (pyIter x)) acc env) env
        again (.compLoop (.ListComp elt [⟨t0, i0, ifs0, 0⟩, ⟨t1, i1, ifs1, 0⟩] scope pos) 0 it acc env)) := by rfl
theorem compTurn2_in (elt t0 i0 t1 i1 : Expr) (ifs0 ifs1 : List Expr) (scope : Scope) (pos : Pos) (it acc : Value) (env : Env) :
    compTurn (.ListComp elt [⟨t0, i0, ifs0, 0⟩, ⟨t1, i1, ifs1, 0⟩] scope pos) 1 it acc env = (do
      standAt i1.pos
      match ← pyNext it with
      | none => pure (.done .next)
      | some v =>
        letOwnedTupleGo t1 it v
        assign t1 env v
        let mut ok := true
        for c in ifs1 do
          if ok then ok ← isTrue c env (eval c env)
        if ok then
          (do let _ ← call (.builtin "list.append") [acc, ← eval elt env])
        again (.compLoop (.ListComp elt [⟨t0, i0, ifs0, 0⟩, ⟨t1, i1, ifs1, 0⟩] scope pos) 1 it acc env)) := by rfl

section
variable {prog : Program} {w : World} {A : Around} {R : Result → Shared → Prop} {s : Shared} {elt t0 i0 t1 i1 : Expr} {ifs0 ifs1 : List Expr} {scope : Scope} {pos : Pos} {it acc : Value} {env : Env}
/-- the loop of the first clause -/
theorem compLoop2_out (hs : ∀ x, foldedSetIterable i1 env x = pure x) (I : Nat → Shared → Prop)
    (turn : ∀ n s, I n s → wpAny (model prog w) A (pyNext it) (fun r s₁ => match r with
      | none => R (.ok .next) s₁
      | some v => wpAny (model prog w) A (letOwnedTupleGo t0 it v) (fun _ s₁' => wpAny (model prog w) A (assign t0 env v) (fun _ s₂ =>
          wpAny (model prog w) A (forIn ifs0 true fun c r => if r = true then do let ok ← isTrue c env (eval c env); pure (ForInStep.yield ok) else pure (ForInStep.yield r)) (fun ok s₃ =>
            if ok = true then wpAny (model prog w) A (eval i1 env) (fun x s₄ => wpAny (model prog w) A (pyIter x) (fun it1 s₅ =>
              codeAny (model prog w) A (.compStart (.ListComp elt [⟨t0, i0, ifs0, 0⟩, ⟨t1, i1, ifs1, 0⟩] scope pos) 1 it1 acc env) (fun r s' => match r with
                | .ok _ => ∃ m, m < n ∧ I m s'
                | .error _ => False) s₅) (notedBy (model prog w) A env fun e s' => R (.error e) s') s₄) (notedBy (model prog w) A env fun e s' => R (.error e) s') s₃
            else ∃ m, m < n ∧ I m s₃) (notedBy (model prog w) A env fun e s' => R (.error e) s') s₂) (notedBy (model prog w) A env fun e s' => R (.error e) s') s₁') (notedBy (model prog w) A env fun e s' => R (.error e) s') s₁) (notedBy (model prog w) A env fun e s' => R (.error e) s') s)
    (n : Nat) (h : I n s) :
    codeAny (model prog w) A (.compLoop (.ListComp elt [⟨t0, i0, ifs0, 0⟩, ⟨t1, i1, ifs1, 0⟩] scope pos) 0 it acc env) R s := by
  refine codeAny_loop rfl I (fun n s hI => ?_) n h
  show wpAny _ A ((compTurn (.ListComp elt [⟨t0, i0, ifs0, 0⟩, ⟨t1, i1, ifs1, 0⟩] scope pos) 0 it acc env).onRaise (fun x => do noteFrame x env; theTreesLotGoes x)) _ _ s
  refine wpAny_noted ?_
  rw [compTurn2_out]
  refine wpAny_bind (wpAny_standAt (wpAny_bind (wpAny_mono (turn n s hI) (fun r s₁ h₁ => ?_) fun _ _ h' => h')))
  cases r with
  | none => exact wpAny_pure h₁
  | some v =>
    refine wpAny_bind (wpAny_mono h₁ (fun _ s₁' h₁' => ?_) fun _ _ h' => h')
    refine wpAny_bind (wpAny_mono h₁' (fun _ s₂ h₂ => wpAny_bind (wpAny_mono h₂ (fun ok s₃ h₃ => ?_) fun _ _ h' => h')) fun _ _ h' => h')
    cases ok with
    | false => exact wpAny_pure ⟨rfl, h₃⟩
    | true =>
      refine wpAny_bind (wpAny_mono h₃ (fun x s₄ h₄ => ?_) fun _ _ h' => h')
      refine wpAny_bind (wpAny_standAt (wpAny_bind (wpAny_of_eq (hs x) (wpAny_bind (wpAny_holding (wpAny_mono h₄ (fun it1 s₅ h₅ => ?_) fun _ _ h' => h'))))))
      refine wpAny_bind (wpAny_runOwn ?_)
      rw [Around.mark_none]
      refine codeAny_mono h₅ fun r s' hr => ?_
      cases r with
      | ok f =>
        first
          | exact wpAny_pure ⟨rfl, hr⟩
          | exact wpAny_bind (wpAny_pure (wpAny_pure ⟨rfl, hr⟩))
      | error e => exact hr.elim
/-- the loop of the second -/
theorem compLoop2_in (I : Nat → Shared → Prop)
    (turn : ∀ n s, I n s → wpAny (model prog w) A (pyNext it) (fun r s₁ => match r with
      | none => R (.ok .next) s₁
      | some v => wpAny (model prog w) A (letOwnedTupleGo t1 it v) (fun _ s₁' => wpAny (model prog w) A (assign t1 env v) (fun _ s₂ =>
          wpAny (model prog w) A (forIn ifs1 true fun c r => if r = true then do let ok ← isTrue c env (eval c env); pure (ForInStep.yield ok) else pure (ForInStep.yield r)) (fun ok s₃ =>
            if ok = true then wpAny (model prog w) A (eval elt env) (fun x s₄ =>
              wpAny (model prog w) A (call (.builtin "list.append") [acc, x]) (fun _ s₅ => ∃ m, m < n ∧ I m s₅) (notedBy (model prog w) A env fun e s' => R (.error e) s') s₄) (notedBy (model prog w) A env fun e s' => R (.error e) s') s₃
            else ∃ m, m < n ∧ I m s₃) (notedBy (model prog w) A env fun e s' => R (.error e) s') s₂) (notedBy (model prog w) A env fun e s' => R (.error e) s') s₁') (notedBy (model prog w) A env fun e s' => R (.error e) s') s₁) (notedBy (model prog w) A env fun e s' => R (.error e) s') s)
    (n : Nat) (h : I n s) :
    codeAny (model prog w) A (.compLoop (.ListComp elt [⟨t0, i0, ifs0, 0⟩, ⟨t1, i1, ifs1, 0⟩] scope pos) 1 it acc env) R s := by
  refine codeAny_loop rfl I (fun n s hI => ?_) n h
  show wpAny _ A ((compTurn (.ListComp elt [⟨t0, i0, ifs0, 0⟩, ⟨t1, i1, ifs1, 0⟩] scope pos) 1 it acc env).onRaise (fun x => do noteFrame x env; theTreesLotGoes x)) _ _ s
  refine wpAny_noted ?_
  rw [compTurn2_in]
  refine wpAny_bind (wpAny_standAt (wpAny_bind (wpAny_mono (turn n s hI) (fun r s₁ h₁ => ?_) fun _ _ h' => h')))
  cases r with
  | none => exact wpAny_pure h₁
  | some v =>
    refine wpAny_bind (wpAny_mono h₁ (fun _ s₁' h₁' => ?_) fun _ _ h' => h')
    refine wpAny_bind (wpAny_mono h₁' (fun _ s₂ h₂ => wpAny_bind (wpAny_mono h₂ (fun ok s₃ h₃ => ?_) fun _ _ h' => h')) fun _ _ h' => h')
    cases ok with
    | false => exact wpAny_pure ⟨rfl, h₃⟩
    | true =>
      exact wpAny_bind (wpAny_bind (wpAny_mono h₃ (fun x s₄ h₄ => wpAny_bind (wpAny_mono h₄ (fun _ s₅ h₅ => wpAny_pure (wpAny_pure ⟨rfl, h₅⟩)) fun _ _ h' => h')) fun _ _ h' => h'))
/-- the second clause's start -/
theorem compStart1_ok (h0 : codeAny (model prog w) A (.compLoop (.ListComp elt [⟨t0, i0, ifs0, 0⟩, ⟨t1, i1, ifs1, 0⟩] scope pos) 1 it acc env) R s)
    (h : wpAny (model prog w) A (pyIter it) (fun it' s' => codeAny (model prog w) A (.compLoop (.ListComp elt [⟨t0, i0, ifs0, 0⟩, ⟨t1, i1, ifs1, 0⟩] scope pos) 1 it' acc env) R s')
      (notedBy (model prog w) A env fun x s' => R (.error x) s') s) :
    codeAny (model prog w) A (.compStart (.ListComp elt [⟨t0, i0, ifs0, 0⟩, ⟨t1, i1, ifs1, 0⟩] scope pos) 1 it acc env) R s := by
  refine codeAny_of_tree ?_
  show wpAny _ _ ((compStart (.ListComp elt [⟨t0, i0, ifs0, 0⟩, ⟨t1, i1, ifs1, 0⟩] scope pos) 1 it acc env).onRaise (fun x => do noteFrame x env; standAt theWindowsPlace)) _ _ s
  refine wpAny_notedAt ?_
  unfold compStart
  show wpAny _ _ (ask >>= _) _ _ s
  refine wpAny_bind (wpAny_askSetting (wpAny_ite ?_))
  split
  · first
      | exact wpAny_bind (wpAny_pure (wpAny_pure (And.intro rfl h0)))
      | exact wpAny_pure (And.intro rfl h0)
  · first
      | exact wpAny_bind (wpAny_rule (wpAny_bind (wpAny_standAt (wpAny_bind (wpAny_mono h (fun it' s' h' => wpAny_pure (And.intro rfl h')) fun _ _ x => x)))))
      | (refine wpAny_bind (wpAny_rule ?_); show wpAny _ _ (standAt i1.pos >>= _) _ _ s; exact wpAny_bind (wpAny_standAt (wpAny_bind (wpAny_mono h (fun it' s' h' => wpAny_pure (And.intro rfl h')) fun _ _ x => x))))
end

theorem wipe_out {σ : St} {i : Nat} : ∀ {vs : List Nat}, i ∉ vs → (wipe σ vs)[i]? = σ[i]?
  | [], _ => rfl
  | v :: vs, h => by
    have h1 : v ≠ i := fun e => h (by rw [e]; exact List.mem_cons_self)
    have h2 : i ∉ vs := fun m => h (List.mem_cons_of_mem _ m)
    unfold wipe
    rw [List.getElem?_set_ne h1]
    exact wipe_out h2
section
variable {X : Cx}
/-- [elt for tg in iter if .. for tg1 in iter1 if ..]: behind the first clause's store and tests the second source's own loop, from which Nx is reached. vs: the block's names; vs1: those of the second target -/
def tLc2 (wi : TI) (g : TG) (tt : TT) (wi1 : TI) (g1 : TG) (tt1 : TT) (te : TE) (vs vs1 : List Nat) : TE := fun σ H Q => wi σ H fun J H1 => ∀ D, H1 D = none → ∃ W : Nat → Nat → Hp → Prop, (∃ m, W 0 m (upd H1 D (.lst []))) ∧ ∀ i m H, W i m H →
  (J.stop i H ∧ Q (.ref D) H) ∨ (J.go i H ∧ ∃ Nx : Hp → Prop, (∀ H', Nx H' → ∃ m', m' < m ∧ W (i + 1) m' H') ∧ ∀ x H', J.yld i H x H' → g x (wipe σ vs) H' fun σ2 H2 => wipe σ2 vs = wipe σ vs ∧ tt σ2 H2 fun b H3 =>
    if b = true then wi1 σ2 H3 fun J1 H4 => ∃ W1 : Nat → Nat → Hp → Prop, (∃ m, W1 0 m H4) ∧ ∀ j k H, W1 j k H →
      (J1.stop j H ∧ Nx H) ∨ (J1.go j H ∧ ∃ Nx1 : Hp → Prop, (∀ H', Nx1 H' → ∃ k', k' < k ∧ W1 (j + 1) k' H') ∧ ∀ x H', J1.yld j H x H' → g1 x (wipe σ2 vs1) H' fun σ3 H5 => wipe σ3 vs1 = wipe σ2 vs1 ∧ tt1 σ3 H5 fun b H6 =>
        if b = true then te σ3 H6 fun y H7 => ∃ acc, H7 D = some (.lst acc) ∧ acc.length < sizeLine ∧ Nx1 (upd H7 D (.lst (acc ++ [y]))) else Nx1 H6)
    else Nx H3)
theorem lc2_core {pins : List (Addr × Obj)} {s : Shared} {σ : St} {H : Hp} {Q : VK} {elt tg iter tg1 iter1 : Expr} {ifs ifs1 : List Expr} {scope : Scope} {own : List (Str × Nat)} {vs1 : List Nat} {pos pos' : Pos} {wi wi1 : TI} {g g1 : TG} {tt tt1 : TT} {te : TE} {use : Option (Value → Sem Unit)} {Qf : Value → Shared → Prop}
    (hc : X.calm = true) (hN : X.N.Nodup) (I : Inv X pins σ H s) (hi : PI X tg iter wi) (ok : BlkOk X.N X.env.scope scope own) (hv : ∀ i ∈ vs1, i ∈ own.map (·.2))
    (hg : ∀ (s : Shared) (H : Hp) (C : Addr) (cl : List (Str × Addr)) (fp : List Addr), PG (X.blk s H scope (compEnvC scope cl C X.env) fp) tg g) (ht : ∀ (s : Shared) (H : Hp) (C : Addr) (cl : List (Str × Addr)) (fp : List Addr), PTs (X.blk s H scope (compEnvC scope cl C X.env) fp) ifs tt)
    (he : ∀ (s : Shared) (H : Hp) (C : Addr) (cl : List (Str × Addr)) (fp : List Addr), PE (X.blk s H scope (compEnvC scope cl C X.env) fp) elt te) (hs : ∀ x, foldedSetIterable iter X.env x = pure x)
    (hi1 : ∀ (s : Shared) (H : Hp) (C : Addr) (cl : List (Str × Addr)) (fp : List Addr), PI (X.blk s H scope (compEnvC scope cl C X.env) fp) tg1 iter1 wi1)
    (hg1 : ∀ (s : Shared) (H : Hp) (C : Addr) (cl : List (Str × Addr)) (fp : List Addr), PG (X.blk s H scope (compEnvC scope cl C X.env) fp) tg1 g1)
    (ht1 : ∀ (s : Shared) (H : Hp) (C : Addr) (cl : List (Str × Addr)) (fp : List Addr), PTs (X.blk s H scope (compEnvC scope cl C X.env) fp) ifs1 tt1)
    (hs1 : ∀ env x, foldedSetIterable iter1 env x = pure x)
    (h : tLc2 wi g tt wi1 g1 tt1 te (own.map (·.2)) vs1 σ H Q)
    (hRR : ∀ D C s' m H', Inv X pins σ H' s' → Q (.ref D) H' → s'.heap.Ns C m → FpOk X pins H' C → compPost (model X.prog X.w) X.A X.xe use Qf (.ref D) C (.ok .next) s') :
    wpAny (model X.prog X.w) X.A (comprehension (.ListComp elt [⟨tg, iter, ifs, 0⟩, ⟨tg1, iter1, ifs1, 0⟩] scope pos) scope X.env pos' (newList []) false (eval iter X.env) use) Qf X.xe s := by
  have hfree : ∀ y ∈ scope.names, y.2 = .free → ∃ c, X.env.cells.lookup y.1 = some c := fun y hy e => by
    rcases ok.free y hy e with k | k
    · exact I.ok.has _ (.inl k)
    · exact I.ok.has _ (.inr k)
  refine wpAny_comprehension_free (use := use) rfl hs (closure_ok hfree) ok.kind (fun y hy e => by rw [ok.uniq y hy, e])
    (thn (hi pins s σ H _ I h) fun xv s1 hx => thn hx fun itv s2 h2 => ?_)
  obtain ⟨it, fp, tn, J, H2, e, I2, T, st2, f2, q⟩ := h2
  subst e
  refine wpAny_newObj_type (newEnv_comp ?_) (by show 0 ≤ sizeLine; decide)
  generalize hD : s2.heap.objs.size = D
  have hDn : H2 D = none := I2.hok.fresh (Nat.le_of_eq hD)
  obtain ⟨W, ⟨m0, w0⟩, turn⟩ := q D hDn
  -- the new list
  generalize hs3 : ({ s2 with heap := s2.heap.push { cls := .type "list", data := .seq ([] : List Value).toArray } } : Shared) = s3
  have I3 : Inv X pins σ (upd H2 D (.lst [])) s3 := by
    rw [← hs3]
    refine I2.laid (t' := s2.toks) (fun b o e => Heap.get?_push_of_some _ e) (Nat.le_of_eq hD) ⟨Nat.zero_le _, [], 0, .nil, ?_⟩
    rw [← hD]
    exact Heap.get?_push_size _ rfl
  have h3 : s3.heap = s2.heap.push { cls := .type "list", data := .seq ([] : List Value).toArray } := by rw [← hs3]
  have sz : ∀ b ∈ fp, b < s2.heap.objs.size := fun b hb => by
    obtain ⟨o, e, _⟩ := T.obj _ _ st2 b hb
    exact Heap.lt_size e
  have f3 : ∀ b ∈ fp, FpOk X pins (upd H2 D (.lst [])) b ∧ b < s3.heap.objs.size := fun b hb => by
    have hlt := sz b hb
    refine ⟨⟨?_, (f2 b hb).2⟩, by rw [h3, Heap.size_push]; exact Nat.lt_succ_of_lt hlt⟩
    rw [upd_ne (by rw [← hD]; exact Nat.ne_of_lt hlt)]
    exact (f2 b hb).1
  have st3 : tn 0 s3.heap := T.keep _ _ _ st2 fun b _ o e => by rw [h3]; exact Heap.get?_push_of_some _ e
  have I4 := block_start I3 ok hN f3
  have pg := hg s3 (upd H2 D (.lst [])) s3.heap.objs.size (cellsFrom (s3.heap.objs.size + 1) scope.names (cloFrom X.env.cells scope.names [])) fp
  have pt := ht s3 (upd H2 D (.lst [])) s3.heap.objs.size (cellsFrom (s3.heap.objs.size + 1) scope.names (cloFrom X.env.cells scope.names [])) fp
  have pe := he s3 (upd H2 D (.lst [])) s3.heap.objs.size (cellsFrom (s3.heap.objs.size + 1) scope.names (cloFrom X.env.cells scope.names [])) fp
  have pi1 := hi1 s3 (upd H2 D (.lst [])) s3.heap.objs.size (cellsFrom (s3.heap.objs.size + 1) scope.names (cloFrom X.env.cells scope.names [])) fp
  have pg1 := hg1 s3 (upd H2 D (.lst [])) s3.heap.objs.size (cellsFrom (s3.heap.objs.size + 1) scope.names (cloFrom X.env.cells scope.names [])) fp
  have pt1 := ht1 s3 (upd H2 D (.lst [])) s3.heap.objs.size (cellsFrom (s3.heap.objs.size + 1) scope.names (cloFrom X.env.cells scope.names [])) fp
  show codeAny _ _ (.compStart (.ListComp elt [⟨tg, iter, ifs, 0⟩, ⟨tg1, iter1, ifs1, 0⟩] scope pos) 0 (.ref it) (.ref D) (compEnvC scope (cellsFrom (s3.heap.objs.size + 1) scope.names (cloFrom X.env.cells scope.names [])) s3.heap.objs.size X.env)) (compPost (model X.prog X.w) X.A X.xe use Qf (.ref D) s3.heap.objs.size) { s3 with heap := pushCells (s3.heap.push { cls := .type "dict", data := .dict #[] }) scope.names }
  have nfp : ∀ b ∈ fp, (upd H2 D (.lst [])) b = none := fun b hb => (f3 b hb).1.1
  generalize hce : compEnvC scope (cellsFrom (s3.heap.objs.size + 1) scope.names (cloFrom X.env.cells scope.names [])) s3.heap.objs.size X.env = ce at I4 pg pt pe pi1 pg1 pt1 ⊢
  have cL : ce.locals = s3.heap.objs.size := by subst hce; rfl
  generalize hH3 : upd H2 D (.lst []) = H3 at I3 I4 pg pt pe pi1 pg1 pt1 w0 nfp f3
  generalize hs4 : ({ s3 with heap := pushCells (s3.heap.push { cls := .type "dict", data := .dict #[] }) scope.names } : Shared) = s4 at I4 ⊢
  have st4 : tn 0 s4.heap := T.keep _ _ _ st3 fun b _ o e => by rw [← hs4]; exact pushCells_keeps _ _ _ _ (Heap.get?_push_of_some _ e)
  have stat : ∀ {σ' : St} {H' : Hp} {s' : Shared}, Inv (X.blk s3 H3 scope ce fp) [] σ' H' s' → (∀ b ∈ fp, H' b = none) → ∀ b ∈ fp, FpOk (X.blk s3 H3 scope ce fp) [] H' b := fun {σ' H' s'} I' hn b hb =>
    ⟨hn b hb, (I'.ok.exf b hb).1, I'.ok.exfs b hb, .inl hb, fun x c e => (I'.ok.exf b hb).2 x c e, fun p hp => absurd (show p ∈ ([] : List (Addr × Obj)) ++ [] from hp) (by simp)⟩
  have loop : codeAny (model X.prog X.w) X.A (.compLoop (.ListComp elt [⟨tg, iter, ifs, 0⟩, ⟨tg1, iter1, ifs1, 0⟩] scope pos) 0 (.ref it) (.ref D) ce) (compPost (model X.prog X.w) X.A X.xe use Qf (.ref D) s3.heap.objs.size) s4 := by
    refine compLoop2_out (hs1 ce) (fun n s' => ∃ i H', Inv (X.blk s3 H3 scope ce fp) [] (wipe σ (own.map (·.2))) H' s' ∧ tn i s'.heap ∧ (∀ b ∈ fp, H' b = none) ∧ W i n H') ?_ m0 ⟨0, H3, I4, st4, nfp, w0⟩
    rintro n s5 ⟨i, H5, I5, st5, n5, w5⟩
    rcases turn i n H5 w5 with ⟨stop, qq⟩ | ⟨go, Nx, hNx, step⟩
    · have td := T.done (X.blk s3 H3 scope ce fp) rfl rfl rfl hc i [] s5 _ H5 (fun _ _ => False) I5 (stat I5 n5) st5 stop
      refine thnF td fun r s6 ⟨hr, I6⟩ => ?_
      subst hr
      -- back in the def's context
      have I7 : Inv X pins σ H5 s6 := I3.call' (ch := fp) I6.os I6.base I6.hok I6.bare fun b hb => ⟨(f3 b hb).1.2.2.2.1, (f3 b hb).1.2.1, (f3 b hb).1.2.2.2.2.1, (f3 b hb).1.2.2.2.2.2⟩
      have nC : H5 s3.heap.objs.size = none := by
        have z : H5 ce.locals = none := I6.free
        rw [cL] at z
        exact z
      obtain ⟨m, hn, _⟩ := I6.loc
      have hn : s6.heap.Ns ce.locals m := hn
      rw [cL] at hn
      exact hRR D s3.heap.objs.size s6 m H5 I7 qq hn (I3.fpOk (Nat.le_refl _) nC)
    · have ti := T.item (X.blk s3 H3 scope ce fp) rfl rfl rfl hc i [] s5 _ H5 (fun _ _ => False) I5 (stat I5 n5) st5 go
      refine thnF ti fun r s6 ⟨u, hr, h6⟩ => ?_
      subst hr
      refine thnF h6 fun _ s7 ⟨x, H7, I7, r7, y7, st7, n7⟩ => ?_
      have I7' := I7.pinned (stat I7 n7) (T.obj _ _ st7)
      refine thnF (pg _ s7 _ H7 x u _ I7' r7 (step x H7 y7)) fun _ s8 ⟨σ8, H8, I8, hw8, q8⟩ => ?_
      refine thnF (pt _ s8 σ8 H8 _ I8 q8) fun b s9 ⟨H9, I9, q9⟩ => ?_
      -- the turn's end, from any slots that know what the block knew at its start
      have fin : ∀ {σ9 : St} {s' : Shared} {H' : Hp}, Inv (X.blk s3 H3 scope ce fp) ([] ++ pinsAt fp s7.heap) σ9 H' s' → (wipe σ (own.map (·.2))).length = σ9.length → (∀ (j : Nat) v, (wipe σ (own.map (·.2)))[j]? = some (some v) → σ9[j]? = some (some v)) → Nx H' →
          ∃ m, m < n ∧ ∃ i H', Inv (X.blk s3 H3 scope ce fp) [] (wipe σ (own.map (·.2))) H' s' ∧ tn i s'.heap ∧ (∀ b ∈ fp, H' b = none) ∧ W i m H' := fun {σ9 s' H'} I' hl hk nx => by
        obtain ⟨m', hm, w'⟩ := hNx H' nx
        have pin' : ∀ b ∈ fp, ∀ o, s7.heap.get? b = some o → s'.heap.get? b = some o ∧ H' b = none := fun b hb o e =>
          let z := I'.pin (b, o) (List.mem_append_right _ (List.mem_append_right _ (mem_pinsAt hb e)))
          ⟨z.1, z.2.1⟩
        refine ⟨m', hm, i + 1, H', (I'.unpinned (pins := [])).weak hl hk, T.keep _ _ _ st7 fun b hb o e => (pin' b hb o e).1, fun b hb => ?_, w'⟩
        obtain ⟨o, e, _⟩ := T.obj _ _ st7 b hb
        exact (pin' b hb o e).2
      have hl8 : (wipe σ (own.map (·.2))).length = σ8.length := by rw [← hw8, wipe_length]
      have hk8 : ∀ (j : Nat) v, (wipe σ (own.map (·.2)))[j]? = some (some v) → σ8[j]? = some (some v) := fun j v e => by
        rw [← hw8] at e
        exact (wipe_some e).1
      have hk9 : ∀ (j : Nat) v, (wipe σ (own.map (·.2)))[j]? = some (some v) → (wipe σ8 vs1)[j]? = some (some v) := fun j v e => by
        rw [← hw8] at e
        obtain ⟨e1, e2⟩ := wipe_some e
        rw [wipe_out fun z => e2 (hv j z)]
        exact e1
      cases b with
      | false =>
        simp only [Bool.false_eq_true, if_false] at q9 ⊢
        exact fin I9 hl8 hk8 q9
      | true =>
        simp only [if_true] at q9 ⊢
        refine thnF (pi1 _ s9 σ8 H9 _ I9 q9) fun xv s10 hx => thnF hx fun itv s11 h11 => ?_
        obtain ⟨it1, fp1, tn1, J1, H11, e1, I11, T1, st11, f11, W1, ⟨m1, w1⟩, turn1⟩ := h11
        subst e1
        -- the inner loop
        have stat1 : ∀ {H' : Hp}, (∀ b ∈ fp1, H' b = none) → ∀ b ∈ fp1, FpOk (X.blk s3 H3 scope ce fp) ([] ++ pinsAt fp s7.heap) H' b := fun hn b hb => ⟨hn b hb, (f11 b hb).2⟩
        have loop1 : codeAny (model X.prog X.w) X.A (.compLoop (.ListComp elt [⟨tg, iter, ifs, 0⟩, ⟨tg1, iter1, ifs1, 0⟩] scope pos) 1 (.ref it1) (.ref D) ce)
            (fun r s' => match r with
              | .ok _ => ∃ m, m < n ∧ ∃ i H', Inv (X.blk s3 H3 scope ce fp) [] (wipe σ (own.map (·.2))) H' s' ∧ tn i s'.heap ∧ (∀ b ∈ fp, H' b = none) ∧ W i m H'
              | .error _ => False) s11 := by
          refine compLoop2_in (fun k s' => ∃ j H', Inv (X.blk s3 H3 scope ce fp) ([] ++ pinsAt fp s7.heap) (wipe σ8 vs1) H' s' ∧ tn1 j s'.heap ∧ (∀ b ∈ fp1, H' b = none) ∧ W1 j k H') ?_ m1 ⟨0, H11, I11.weak (wipe_length _ _) (fun j v e => (wipe_some e).1), st11, fun b hb => (f11 b hb).1, w1⟩
          rintro k s12 ⟨j, H12, I12, st12, n12, w12⟩
          rcases turn1 j k H12 w12 with ⟨stop1, nx1⟩ | ⟨go1, Nx1, hNx1, step1⟩
          · refine thnF (T1.done (X.blk s3 H3 scope ce fp) rfl rfl rfl hc j _ s12 (wipe σ8 vs1) H12 (fun _ _ => False) I12 (stat1 n12) st12 stop1) fun r s13 ⟨hr, I13⟩ => ?_
            subst hr
            exact fin I13 (hl8.trans (wipe_length σ8 vs1).symm) hk9 nx1
          · refine thnF (T1.item (X.blk s3 H3 scope ce fp) rfl rfl rfl hc j _ s12 (wipe σ8 vs1) H12 (fun _ _ => False) I12 (stat1 n12) st12 go1) fun r s13 ⟨u1, hr, h13⟩ => ?_
            subst hr
            refine thnF h13 fun _ s14 ⟨x1, H14, I14, r14, y14, st14, n14⟩ => ?_
            have I14' := I14.pinned (stat1 n14) (T1.obj _ _ st14)
            refine thnF (pg1 _ s14 (wipe σ8 vs1) H14 x1 u1 _ I14' r14 (step1 x1 H14 y14)) fun _ s15 ⟨σ15, H15, I15, hw15, q15⟩ => ?_
            refine thnF (pt1 _ s15 σ15 H15 _ I15 q15) fun b1 s16 ⟨H16, I16, q16⟩ => ?_
            have fin1 : ∀ {s' : Shared} {H' : Hp}, Inv (X.blk s3 H3 scope ce fp) (([] ++ pinsAt fp s7.heap) ++ pinsAt fp1 s14.heap) σ15 H' s' → Nx1 H' → ∃ m, m < k ∧ ∃ j H', Inv (X.blk s3 H3 scope ce fp) ([] ++ pinsAt fp s7.heap) (wipe σ8 vs1) H' s' ∧ tn1 j s'.heap ∧ (∀ b ∈ fp1, H' b = none) ∧ W1 j m H' := fun {s' H'} I' nx => by
              obtain ⟨m', hm, w'⟩ := hNx1 H' nx
              have pin' : ∀ b ∈ fp1, ∀ o, s14.heap.get? b = some o → s'.heap.get? b = some o ∧ H' b = none := fun b hb o e =>
                let z := I'.pin (b, o) (List.mem_append_right _ (List.mem_append_right _ (mem_pinsAt hb e)))
                ⟨z.1, z.2.1⟩
              refine ⟨m', hm, j + 1, H', I'.unpinned.weak (by rw [← hw15, wipe_length]) (fun j v e => by rw [← hw15] at e; exact (wipe_some e).1), T1.keep _ _ _ st14 fun b hb o e => (pin' b hb o e).1, fun b hb => ?_, w'⟩
              obtain ⟨o, e, _⟩ := T1.obj _ _ st14 b hb
              exact (pin' b hb o e).2
            cases b1 with
            | false =>
              simp only [Bool.false_eq_true, if_false] at q16 ⊢
              exact fin1 I16 q16
            | true =>
              simp only [if_true] at q16 ⊢
              refine thnF (pe _ s16 σ15 H16 _ I16 q16) fun z s17 ⟨yv, H17, I17, r17, acc, hD17, hz17, nx⟩ => ?_
              exact app_ok (X := X.blk s3 H3 scope ce fp) I17 hD17 hz17 r17 fun s18 I18 => fin1 I18 nx
        exact compStart1_ok loop1 (T1.self X.A 0 _ _ _ st11 loop1)
  exact codeAny_compStart_list loop (T.self X.A 0 _ _ _ st4 loop)
/-- as a value -/
theorem pe_lc2 {elt tg iter tg1 iter1 : Expr} {ifs ifs1 : List Expr} {scope : Scope} {own : List (Str × Nat)} {vs1 : List Nat} {pos : Pos} {wi wi1 : TI} {g g1 : TG} {tt tt1 : TT} {te : TE} (hc : X.calm = true) (hN : X.N.Nodup) (hi : PI X tg iter wi) (ok : BlkOk X.N X.env.scope scope own) (hv : ∀ i ∈ vs1, i ∈ own.map (·.2))
    (hg : ∀ (s : Shared) (H : Hp) (C : Addr) (cl : List (Str × Addr)) (fp : List Addr), PG (X.blk s H scope (compEnvC scope cl C X.env) fp) tg g) (ht : ∀ (s : Shared) (H : Hp) (C : Addr) (cl : List (Str × Addr)) (fp : List Addr), PTs (X.blk s H scope (compEnvC scope cl C X.env) fp) ifs tt)
    (hi1 : ∀ (s : Shared) (H : Hp) (C : Addr) (cl : List (Str × Addr)) (fp : List Addr), PI (X.blk s H scope (compEnvC scope cl C X.env) fp) tg1 iter1 wi1)
    (hg1 : ∀ (s : Shared) (H : Hp) (C : Addr) (cl : List (Str × Addr)) (fp : List Addr), PG (X.blk s H scope (compEnvC scope cl C X.env) fp) tg1 g1) (ht1 : ∀ (s : Shared) (H : Hp) (C : Addr) (cl : List (Str × Addr)) (fp : List Addr), PTs (X.blk s H scope (compEnvC scope cl C X.env) fp) ifs1 tt1)
    (he : ∀ (s : Shared) (H : Hp) (C : Addr) (cl : List (Str × Addr)) (fp : List Addr), PE (X.blk s H scope (compEnvC scope cl C X.env) fp) elt te) (hs : ∀ x, foldedSetIterable iter X.env x = pure x := by intro _; rfl) (hs1 : ∀ env x, foldedSetIterable iter1 env x = pure x := by intro _ _; rfl) :
    PE X (.ListComp elt [⟨tg, iter, ifs, 0⟩, ⟨tg1, iter1, ifs1, 0⟩] scope pos) (tLc2 wi g tt wi1 g1 tt1 te (own.map (·.2)) vs1) := by
  constructor
  intro pins s σ H Q I h
  rw [eval_ListComp]
  refine lc2_core hc hN I hi ok hv hg ht he hs hi1 hg1 ht1 hs1 h fun D C s' m H' I' q hn f => ⟨m, hn, fun h'' sb => ?_⟩
  obtain ⟨f0, f1, f2, f3, f4, f5⟩ := f
  exact ⟨.ref D, H', I'.turned (t' := s'.toks) (fun b o hb e => (sb.2 b hb).trans e) f0 f1 f3 f4 f5, rfl, q⟩
end
end L2

namespace L2
open PySem PySem.Spec PyProof.Rows

/-! ### lists of pairs as tables -/
section
variable {κ : Type} [DecidableEq κ]
def valV (kvs : List (κ × V)) (k : κ) : Option V := (kvs.find? fun kv => decide (kv.1 = k)).map (·.2)
/-- in its place, or at the end -/
def putK (kvs : List (κ × V)) (k : κ) (v : V) : List (κ × V) :=
  if (kvs.any fun kv => decide (kv.1 = k)) = true then kvs.map (fun kv => if kv.1 = k then (kv.1, v) else kv) else kvs ++ [(k, v)]
def dropK (kvs : List (κ × V)) (k : κ) : List (κ × V) := kvs.filter fun kv => decide (kv.1 ≠ k)

theorem valV_pos {p : κ × V} {r : List (κ × V)} {k : κ} (e : p.1 = k) : valV (p :: r) k = some p.2 := by simp [valV, List.find?_cons, e]
theorem valV_neg {p : κ × V} {r : List (κ × V)} {k : κ} (e : ¬ p.1 = k) : valV (p :: r) k = valV r k := by simp [valV, List.find?_cons, e]
theorem valV_any (k : κ) : ∀ kvs : List (κ × V), (kvs.any fun kv => decide (kv.1 = k)) = (valV kvs k).isSome
  | [] => rfl
  | p :: r => by
    rw [List.any_cons]
    by_cases e : p.1 = k
    · simp only [valV_pos e, decide_eq_true e, Bool.true_or, Option.isSome_some]
    · rw [valV_neg e, decide_eq_false e, Bool.false_or]; exact valV_any k r
theorem length_putK (kvs : List (κ × V)) (k : κ) (v : V) : (putK kvs k v).length ≤ kvs.length + 1 := by
  unfold putK
  split
  · rw [List.length_map]; omega
  · rw [List.length_append, List.length_cons, List.length_nil]; omega
theorem RelO.isSome_eq {o : Option V} {u : Option Value} (r : RelO o u) : o.isSome = u.isSome := by
  cases o with
  | none => cases u with
    | none => rfl
    | some _ => exact (show False from r).elim
  | some _ => cases u with
    | none => exact (show False from r).elim
    | some _ => rfl
theorem RelO.getD {o : Option V} {u : Option Value} {d : V} {d' : Value} (r : RelO o u) (rd : RelV d d') : RelV (o.getD d) (u.getD d') := by
  cases o with
  | none => cases u with
    | none => exact rd
    | some _ => exact (show False from r).elim
  | some _ => cases u with
    | none => exact (show False from r).elim
    | some _ => exact r

/-- raw tables of the same keys -/
theorem KV.val {kvs : List (κ × V)} {vs : List (κ × Value)} (r : KV kvs vs) (k : κ) : RelO (valV kvs k) (valueAt vs k) := by
  unfold KV at r
  induction r with
  | nil => exact True.intro
  | @cons p q ps qs h t ih =>
    obtain ⟨h1, h2⟩ := h
    by_cases e : p.1 = k
    · have e' : q.1 = k := h1.symm.trans e
      have b : valueAt (q :: qs) k = some q.2 := by simp [valueAt, List.find?_cons, e']
      rw [valV_pos e, b]; exact h2
    · have e' : ¬ q.1 = k := fun z => e (h1.trans z)
      have b : valueAt (q :: qs) k = valueAt qs k := by simp [valueAt, List.find?_cons, e']
      rw [valV_neg e, b]; exact ih
theorem KV.any {kvs : List (κ × V)} {vs : List (κ × Value)} (r : KV kvs vs) (k : κ) : (kvs.any fun kv => decide (kv.1 = k)) = vs.any fun kv => decide (kv.1 = k) := by
  unfold KV at r
  induction r with
  | nil => rfl
  | cons h t ih => rw [List.any_cons, List.any_cons, ih, h.1]
theorem KV.repl {kvs : List (κ × V)} {vs : List (κ × Value)} (r : KV kvs vs) (k : κ) {y : V} {u : Value} (ry : RelV y u) :
    KV (kvs.map fun kv => if kv.1 = k then (kv.1, y) else kv) (vs.map fun kv => if kv.1 = k then (kv.1, u) else kv) := by
  unfold KV at r ⊢
  induction r with
  | nil => exact .nil
  | @cons p q ps qs h t ih =>
    rw [List.map_cons, List.map_cons]
    refine .cons ?_ ih
    obtain ⟨h1, h2⟩ := h
    by_cases e : p.1 = k
    · rw [if_pos e, if_pos (h1.symm.trans e)]; exact ⟨h1, ry⟩
    · rw [if_neg e, if_neg (fun z => e (h1.trans z))]; exact ⟨h1, h2⟩
theorem KV.put {kvs : List (κ × V)} {vs : List (κ × Value)} (r : KV kvs vs) (k : κ) {y : V} {u : Value} (ry : RelV y u) : KV (putK kvs k y) (stored vs k u) := by
  unfold putK stored
  rw [r.any k]
  by_cases e : (vs.any fun kv => decide (kv.1 = k)) = true
  · rw [if_pos e, if_pos e]; exact r.repl k ry
  · rw [if_neg e, if_neg e]; exact Paired.snoc r ⟨rfl, ry⟩
theorem KV.drop {kvs : List (κ × V)} {vs : List (κ × Value)} (r : KV kvs vs) (k : κ) : KV (dropK kvs k) (without vs k) := by
  unfold KV at r ⊢
  unfold dropK without
  induction r with
  | nil => exact .nil
  | @cons p q ps qs h t ih =>
    obtain ⟨h1, h2⟩ := h
    rw [List.filter_cons, List.filter_cons]
    by_cases e : p.1 = k
    · have a : ¬ decide (p.1 ≠ k) = true := by simp [e]
      have b : ¬ decide (q.1 ≠ k) = true := by simp [h1.symm.trans e]
      rw [if_neg a, if_neg b]; exact ih
    · have e' : ¬ q.1 = k := fun z => e (h1.trans z)
      have a : decide (p.1 ≠ k) = true := by simp [e]
      have b : decide (q.1 ≠ k) = true := by simp [e']
      rw [if_pos a, if_pos b]; exact .cons ⟨h1, h2⟩ ih
theorem KV.length {kvs : List (κ × V)} {vs : List (κ × Value)} (r : KV kvs vs) : kvs.length = vs.length := Paired.length r
end


/-! ### a tracked dict, its keys ints and texts or tuples of these -/
theorem kV_is {P : Program} {w : World} {k : Key} {u : Value} (r : RelV (kV k) u) : (mixKind P w).is k u = true := by
  cases k with
  | inl i => obtain ⟨t, e⟩ := (show ∃ t, u = Value.int i t from r); subst e; exact mixKind_int P w i t
  | inr x => obtain ⟨t, e⟩ := (show ∃ t, u = Value.str x t from r); subst e; exact mixKind_str P w x t
theorem items_are {P : Program} {w : World} : ∀ {ks : List Key} {us : List Value}, Vals (ks.map kV) us → ItemsAre (mixKind P w) ks us
  | [], _, r => by rw [List.map_nil] at r; cases r; exact .nil
  | k :: ks, _, r => by
    rw [List.map_cons] at r
    cases r with
    | cons h t => exact .cons (kV_is h) (items_are t)

/-- raw entries of a dict with tuple keys -/
abbrev KT (H : Hp) : List (List Key × V) → List (List Key × Addr × Value) → Prop := Paired fun p q => p.1 = q.1 ∧ H q.2.1 = some (.tup (p.1.map kV)) ∧ RelV p.2 q.2.2
theorem KT.val {H : Hp} {kvs : List (List Key × V)} {xs : List (List Key × Addr × Value)} (r : KT H kvs xs) (k : List Key) : RelO (valV kvs k) ((atKey xs k).map (·.2)) := by
  induction r with
  | nil => exact True.intro
  | @cons p q ps qs h t ih =>
    obtain ⟨h1, _, h2⟩ := h
    by_cases e : p.1 = k
    · have e' : q.1 = k := h1.symm.trans e
      have b : atKey (q :: qs) k = some q.2 := by simp [atKey, List.find?_cons, e']
      rw [valV_pos e, b]; exact h2
    · have e' : ¬ q.1 = k := fun z => e (h1.trans z)
      have b : atKey (q :: qs) k = atKey qs k := by simp [atKey, List.find?_cons, e']
      rw [valV_neg e, b]; exact ih
theorem KT.repl {H : Hp} {kvs : List (List Key × V)} {xs : List (List Key × Addr × Value)} (r : KT H kvs xs) (k : List Key) {y : V} {u : Value} (ry : RelV y u) :
    KT H (kvs.map fun kv => if kv.1 = k then (kv.1, y) else kv) (xs.map (putAt k u)) := by
  induction r with
  | nil => exact .nil
  | @cons p q ps qs h t ih =>
    rw [List.map_cons, List.map_cons]
    refine .cons ?_ ih
    obtain ⟨h1, h2, h3⟩ := h
    unfold putAt
    by_cases e : p.1 = k
    · rw [if_pos e, if_pos (h1.symm.trans e)]; exact ⟨h1, h2, ry⟩
    · rw [if_neg e, if_neg (fun z => e (h1.trans z))]; exact ⟨h1, h2, h3⟩
theorem KT.put {H : Hp} {kvs : List (List Key × V)} {xs : List (List Key × Addr × Value)} (r : KT H kvs xs) (k : List Key) {b : Addr} {y : V} {u : Value} (hb : H b = some (.tup (k.map kV))) (ry : RelV y u) :
    KT H (putK kvs k y) (storedH xs k b u) := by
  have e : (kvs.any fun kv => decide (kv.1 = k)) = (atKey xs k).isSome := by
    rw [valV_any, (r.val k).isSome_eq, Option.isSome_map]
  unfold putK storedH
  rw [e]
  by_cases q : (atKey xs k).isSome = true
  · rw [if_pos q, if_pos q]; exact r.repl k ry
  · rw [if_neg q, if_neg q]; exact Paired.snoc r ⟨rfl, hb, ry⟩
theorem KT.keeps {H H' : Hp} {kvs : List (List Key × V)} {xs : List (List Key × Addr × Value)} (r : KT H kvs xs) (ht : ∀ b ys, H b = some (.tup ys) → H' b = some (.tup ys)) : KT H' kvs xs :=
  Paired.mapP r fun _ _ z => ⟨z.1, ht _ _ z.2.1, z.2.2⟩

section
variable {P : Program} {w : World} {H : Hp} {h : Heap} {a : Addr}
theorem rd_of {u : HO} (ok : HOk P w H h) (e : Rd H a u) : ObjOk P w H h a u := e.ok ok
theorem dk_rd {kvs : List (Key × V)} (ok : HOk P w H h) (e : Rd H a (.dK kvs)) : kvs.length ≤ sizeLine ∧ (a == sysModules) = false ∧ ∃ vs, KV kvs vs ∧ h.DictOf (mixKind P w) a vs :=
  show ObjOk P w H h a (.dK kvs) from rd_of ok e
theorem dk_of {kvs : List (Key × V)} (ok : HOk P w H h) (e : H a = some (.dK kvs)) : kvs.length ≤ sizeLine ∧ (a == sysModules) = false ∧ ∃ vs, KV kvs vs ∧ h.DictOf (mixKind P w) a vs := dk_rd ok (.inl e)
/-- a tracked tuple of ints and texts is a key -/
theorem key_of {ks : List Key} (ok : HOk P w H h) (e : H a = some (.tup (ks.map kV))) : (tupleKind (mixKind P w)).is h ks a := by
  obtain ⟨_, its, r, o, h1, h2, n, h3⟩ := (show ObjOk P w H h a (.tup (ks.map kV)) from ok a _ e)
  exact ⟨o, its.toArray, n, h1, h2, h3, by simpa using items_are r⟩
theorem dt_rd {kvs : List (List Key × V)} (ok : HOk P w H h) (e : Rd H a (.dT kvs)) : kvs.length ≤ sizeLine ∧ (a == sysModules) = false ∧
    ∃ xs, KT H kvs xs ∧ h.DictOfH (tupleKind (mixKind P w)) a xs := by
  obtain ⟨z, y, xs, r, o, es, ep, h1, h2, h3, h4, h5⟩ := (show ObjOk P w H h a (.dT kvs) from rd_of ok e)
  refine ⟨z, y, xs, r, o, es, ep, h1, h2, h3, h4, fun x hx => ?_, h5⟩
  have all : ∀ {l : List (List Key × V)} {m : List (List Key × Addr × Value)}, KT H l m → ∀ x ∈ m, (tupleKind (mixKind P w)).is h x.1 x.2.1 := by
    intro l m q
    induction q with
    | nil => intro x hx; exact nomatch hx
    | @cons p q ps qs hq t ih =>
      intro x hx
      rcases List.mem_cons.mp hx with e | hx
      · subst e
        exact key_of ok (by rw [← hq.1]; exact hq.2.1)
      · exact ih x hx
  exact all r x hx
theorem dt_of {kvs : List (List Key × V)} (ok : HOk P w H h) (e : H a = some (.dT kvs)) : kvs.length ≤ sizeLine ∧ (a == sysModules) = false ∧
    ∃ xs, KT H kvs xs ∧ h.DictOfH (tupleKind (mixKind P w)) a xs := dt_rd ok (.inl e)
end

/-- what the dict at a holds at the key y -/
def DGet (H : Hp) (a : Addr) (y : V) (r : Option V) : Prop :=
  (∃ kvs k, Rd H a (.dK kvs) ∧ y = kV k ∧ r = valV kvs k) ∨ ∃ kvs k b, Rd H a (.dT kvs) ∧ y = .ref b ∧ H b = some (.tup (k.map kV)) ∧ r = valV kvs k
/-- the heap behind a[y] = v -/
def DPut (H : Hp) (a : Addr) (y v : V) (H' : Hp) : Prop :=
  (∃ kvs k, H a = some (.dK kvs) ∧ y = kV k ∧ kvs.length < sizeLine ∧ H' = upd H a (.dK (putK kvs k v))) ∨
  ∃ kvs k b, H a = some (.dT kvs) ∧ y = .ref b ∧ H b = some (.tup (k.map kV)) ∧ kvs.length < sizeLine ∧ H' = upd H a (.dT (putK kvs k v))
theorem DGet.k {H : Hp} {a : Addr} {kvs : List (Key × V)} {k : Key} (e : H a = some (.dK kvs)) : DGet H a (kV k) (valV kvs k) := .inl ⟨kvs, k, .inl e, rfl, rfl⟩
theorem DGet.t {H : Hp} {a b : Addr} {kvs : List (List Key × V)} {k : List Key} (e : H a = some (.dT kvs)) (eb : H b = some (.tup (k.map kV))) : DGet H a (.ref b) (valV kvs k) := .inr ⟨kvs, k, b, .inl e, rfl, eb, rfl⟩
theorem DPut.k {H : Hp} {a : Addr} {kvs : List (Key × V)} {k : Key} {v : V} (e : H a = some (.dK kvs)) (hl : kvs.length < sizeLine) : DPut H a (kV k) v (upd H a (.dK (putK kvs k v))) := .inl ⟨kvs, k, e, rfl, hl, rfl⟩
theorem DPut.t {H : Hp} {a b : Addr} {kvs : List (List Key × V)} {k : List Key} {v : V} (e : H a = some (.dT kvs)) (eb : H b = some (.tup (k.map kV))) (hl : kvs.length < sizeLine) :
    DPut H a (.ref b) v (upd H a (.dT (putK kvs k v))) := .inr ⟨kvs, k, b, e, rfl, eb, hl, rfl⟩


section
variable {X : Cx} {pins : List (Addr × Obj)} {σ : St} {H : Hp} {s : Shared} {a : Addr} {y v : V} {u r : Value} {o : Option V} {A : Around} {E : Value → Shared → Prop}

theorem Inv.big (I : Inv X pins σ H s) : sysModules < s.heap.objs.size := by
  have h : mainGlobals < s.heap.objs.size := (I.mod.glob.keeps I.bk).lt
  exact Nat.lt_trans (by decide) h

/-- y in d -/
theorem d_in {Q : Value → Shared → Prop} (hu : A.units + 1 < cLine) (I : Inv X pins σ H s) (g : DGet H a y o) (ry : RelV y u) (h : ∀ s', Inv X pins σ H s' → Q (.bool o.isSome) s') :
    wpAny (model X.prog X.w) A (compareOp .In u (.ref a)) Q E s := by
  rcases g with ⟨kvs, k, e, ey, l⟩ | ⟨kvs, k, b, e, ey, eb, l⟩
  · subst ey
    obtain ⟨z, hd, vs, rel, dd⟩ := dk_rd I.hok e
    refine wpAny_in_of (kV_is ry) hd dd.mapOf ?_
    rw [← (rel.val k).isSome_eq, ← l]
    exact h _ (I.tok _)
  · subst ey
    cases (show u = Value.ref b from ry)
    obtain ⟨z, hd, xs, rel, dd⟩ := dt_rd I.hok e
    refine wpAny_in_heap (tupleKind_room_in1 hu) (key_of I.hok eb) hd dd ?_
    have q := (rel.val k).isSome_eq
    rw [Option.isSome_map] at q
    rw [← q, ← l]
    exact h _ (I.tok _)
/-- a dict's object is replaced -/
theorem d_write {h' : Heap} {t' : Nat} {ob : HO} (I : Inv X pins σ H s) (mu : Mut (H a)) (hs : Heap.SameBut a s.heap h') (he : ∃ q, h'.get? a = some q) (new : ObjOk X.prog X.w (upd H a ob) h' a ob) :
    Inv X pins σ (upd H a ob) { s with heap := h', toks := t' } :=
  I.write (x := a) (e := a) mu (.inl rfl) (fun b q hb z => (hs.2 b hb).trans z) he new
theorem dk_new {P : Program} {w : World} {H' : Hp} {h' : Heap} {kvs : List (Key × V)} {vs : List (Key × Value)} (z : kvs.length ≤ sizeLine) (hd : (a == sysModules) = false) (rel : KV kvs vs) (dd : h'.DictOf (mixKind P w) a vs) :
    ObjOk P w H' h' a (.dK kvs) := ⟨z, hd, vs, rel, dd⟩
/-- d[y] = v -/
theorem d_setItem {H' : Hp} {Q : Unit → Shared → Prop} (hu : A.units + 1 < cLine) (I : Inv X pins σ H s) (g : DPut H a y v H') (ry : RelV y u) (rv : RelV v r) (h : ∀ s', Inv X pins σ H' s' → Q () s') :
    wpAny (model X.prog X.w) A (setItem (.ref a) u r) Q E s := by
  rcases g with ⟨kvs, k, e, ey, l, eH⟩ | ⟨kvs, k, b, e, ey, eb, l, eH⟩
  · subst ey eH
    obtain ⟨z, hd, vs, rel, dd⟩ := dk_of I.hok e
    have hz : vs.length ≤ sizeLine := by rw [← rel.length]; exact z
    have hl : (putK kvs k v).length ≤ sizeLine := by have := length_putK kvs k v; omega
    refine wpAny_setItem_pairs (hsz := hz) (kV_is ry) dd fun h' dd' hs => h _ ?_
    have he : ∃ q, h'.get? a = some q := let ⟨q, _, _, hq, _⟩ := dd'; ⟨q, hq⟩
    exact d_write I (by rw [e]; exact True.intro) hs he (dk_new hl hd (rel.put k rv) dd')
  · subst ey eH
    cases (show u = Value.ref b from ry)
    obtain ⟨z, hd, xs, rel, dd⟩ := dt_of I.hok e
    have hz : xs.length ≤ sizeLine := by rw [← Paired.length rel]; exact z
    have hl : (putK kvs k v).length ≤ sizeLine := by have := length_putK kvs k v; omega
    refine wpAny_setItem_heap (hsz := hz) (tupleKind_room_in1 hu) (key_of I.hok eb) dd fun h' dd' hs => h _ ?_
    obtain ⟨q, es, ep, hq, h2, h3, h4, _, h5⟩ := dd'
    refine d_write I (by rw [e]; exact True.intro) hs ⟨q, hq⟩ ⟨hl, hd, _, (rel.put k eb rv).keeps fun c ys ec => ?_, q, es, ep, hq, h2, h3, h4, h5⟩
    rw [upd_ne (ne_of ec e (fun z => nomatch z))]
    exact ec
end

section
variable {X : Cx} {pins : List (Addr × Obj)} {σ : St} {H : Hp} {s : Shared} {a : Addr} {kvs : List (Key × V)} {k : Key} {u : Value} {A : Around} {E : Value → Shared → Prop}
end


/-! ### readings and rules -/
/-- y in d, y not in d -/
def tDIn (ty td : TE) : TE := fun σ H Q => ty σ H fun y H1 => td σ H1 fun x H2 => ∃ a o, x = .ref a ∧ DGet H2 a y o ∧ Q (.bl o.isSome) H2
/-- d[y] = v -/
def sDPut (td ty tv : TE) : TS := fun D σ H => tv σ H fun v H1 => td σ H1 fun x H2 => ty σ H2 fun y H3 => ∃ a H4, x = .ref a ∧ DPut H3 a y v H4 ∧ D.nx σ H4
section
variable {X : Cx} {o i e value : Expr} {pos pos' tpos : Pos} {td ty tv : TE}
theorem pc_din (hu : X.A.units + 1 < cLine) (hi : PE X i ty) (ho : PE X o td) : PC X .In i o (tDIn ty td) := by
  constructor
  intro pins s σ H Q I h
  refine thn (hi pins s σ H _ I h) fun iv s1 ⟨y, H1, I1, ry, q1⟩ => thn (ho pins s1 σ H1 _ I1 q1) fun u s2 ⟨x, H2, I2, rx, a, ov, ex, g, q2⟩ => ?_
  subst ex
  obtain rfl : u = Value.ref a := rx
  exact d_in hu I2 g ry fun s3 I3 => ⟨.bl ov.isSome, H2, I3, rfl, q2⟩
theorem ps_dput (hu : X.A.units + 1 < cLine) (ho : PE X o td) (hi : PE X i ty) (hv : PE X value tv) (hs : swapsWith value (some (.Subscript o i pos')) pos.line X.env = pure false) :
    PS X (.Assign [.Subscript o i pos'] value pos) (sDPut td ty tv) := by
  constructor
  intro pins s σ H D I h
  refine wpAny_Assign_Subscript (thn (hv pins s σ H _ I h) fun r s1 ⟨v, H1, I1, rv, q1⟩ => thn (ho pins s1 σ H1 _ I1 q1) fun u s2 ⟨x, H2, I2, rx, q2⟩ => thn (hi pins s2 σ H2 _ I2 q2) fun iv s3 ⟨y, H3, I3, ry, a, H4, ex, g, q3⟩ => ?_) hs
  subst ex
  obtain rfl : u = Value.ref a := rx
  exact d_setItem hu I3 g ry rv fun s4 I4 => ⟨σ, H4, I4, q3⟩
end


/-! ### displays -/
theorem dt_empty {P : Program} {w : World} {H : Hp} (h : Heap) (hb : sysModules < h.objs.size) : ObjOk P w H (h.push { cls := .type "dict", data := .dict #[] }) h.objs.size (.dT []) :=
  ⟨Nat.zero_le _, beq_eq_false_iff_ne.mpr (Ne.symm (Nat.ne_of_lt hb)), [], .nil, _, #[], 0, Heap.get?_push_size _ rfl, ⟨rfl, rfl, rfl⟩, rfl, rfl, List.nodup_nil⟩
def tDNewT : TE := fun _ H Q => ∀ p, H p = none → Q (.ref p) (upd H p (.dT []))
section
variable {X : Cx} {pos : Pos}
theorem pe_dnewT : PE X (.Dict [] [] pos) tDNewT := ⟨fun pins s σ H Q I h =>
  wpAny_Dict_empty ⟨.ref s.heap.objs.size, _, I.laid (a := s.heap.objs.size) (o := .dT []) (t' := s.toks) (fun _ _ q => Heap.get?_push_of_some _ q) (Nat.le_refl _) (dt_empty s.heap I.big), rfl, h _ (I.hok.fresh (Nat.le_refl _))⟩⟩
end

/-! ### methods -/
/-- a method call o.m(e) of a built-in, with one argument: what must be seen of the text -/
structure M1 (X : Cx) (o : Expr) (m : Str) (apos : Pos) (e : Expr) (cpos : Pos) : Prop where
  base : attributeBase o m X.env (eval o X.env) = eval o X.env
  few : ((backTo cpos (starEach [e] X.env)).all (fun x => !x.1) && (backToKw cpos (keywordEach [] X.env)).all (fun x => x.1.isSome)
    && decide (([e] : List Expr).length + ([] : List Keyword).length + (if ([] : List Keyword).isEmpty then 0 else 1) < 30)) = true
  line : (apos.endLine == cpos.line) = true
  trees : backTo cpos (starEach [e] X.env) = [(false, eval e X.env)]
section
variable {X : Cx} {pins : List (Addr × Obj)} {σ : St} {H : Hp} {s : Shared} {a : Addr} {y d : V} {u r : Value} {o : Option V} {A : Around} {E : Value → Shared → Prop}
end

section
variable {X : Cx} {o e f : Expr} {apos cpos : Pos} {td ty tx : TE}
end

/-! ### dict(d): a copy -/
section
variable {X : Cx} {pins : List (Addr × Obj)} {σ : St} {H : Hp} {s : Shared} {a : Addr} {kvs : List (Key × V)} {A : Around} {E : Value → Shared → Prop}
end


section
variable {X : Cx} {pins : List (Addr × Obj)} {σ : St} {H : Hp} {s : Shared} {a : Addr} {y : V} {u : Value} {A : Around} {E : Value → Shared → Prop}
end
end L2

namespace L2
open PySem PySem.Spec PyProof.Rows

section
variable {prog : Program} {w : World} {A : Around} {E : Value → Shared → Prop}
end

section
variable {X : Cx}
end
end L2

namespace L2
open PySem PySem.Spec PyProof.Rows

section
variable {X : Cx} {pins : List (Addr × Obj)} {σ : St} {H : Hp} {s : Shared} {h' : Heap}
/-- several records of ours have turned -/
theorem Inv.turnedL {t' : Nat} {ch : List Addr} (I : Inv X pins σ H s) (k : ∀ b o, b ∉ ch → s.heap.get? b = some o → h'.get? b = some o) (hf : ∀ b ∈ ch, FpOk X pins H b) : Inv X pins σ H { s with heap := h', toks := t' } := by
  have nit : ∀ b u, H b = some u → b ∉ ch := fun b u e z => by
    have q := (hf b z).1
    rw [q] at e; cases e
  refine I.step (g' := s.gens) (d' := s.drawn) (ch := ch) (fun b hb => ⟨(hf b hb).2.2.2.1, (hf b hb).2.1, (hf b hb).2.2.2.2.1, (hf b hb).2.2.2.2.2⟩) (fun b o _ _ hc e _ => k b o hc e) (fun b o _ _ hc e _ => ⟨o.slots, k b o hc e⟩)
    (fun _ _ _ _ n => n) (fun b o hc e => ⟨o, k b o hc e⟩) (fun _ _ e => e) (fun _ _ _ e => e) (fun b ps e => ⟨#[], by rw [e]; simp⟩) (fun m hm => ?_) (fun b u e => ?_) I.bare.self
  · obtain ⟨o, es, ep, ho, r⟩ := hm
    exact ⟨o, es, ep, k _ o (fun z => (hf _ z).2.1 rfl) ho, r⟩
  · refine (I.hok b u e).stay (fun c v hc q => k c v ?_ q) (fun _ q => q) fun _ _ q => q
    rcases hc with z | z
    · rw [z]; exact nit b u e
    · exact nit c _ z
/-- .. and one new object is laid -/
theorem Inv.turnedNew {t' : Nat} {ch : List Addr} {T : Addr} {ob : HO} (I : Inv X pins σ H s) (k : ∀ b o, b ∉ ch → s.heap.get? b = some o → h'.get? b = some o) (hf : ∀ b ∈ ch, FpOk X pins H b) (hT : s.heap.objs.size ≤ T)
    (new : ObjOk X.prog X.w (upd H T ob) h' T ob) : Inv X pins σ (upd H T ob) { s with heap := h', toks := t' } := by
  have hn : H T = none := I.hok.fresh hT
  have nit : ∀ b u, H b = some u → b ∉ ch := fun b u e z => by
    have q := (hf b z).1
    rw [q] at e; cases e
  refine I.step (g' := s.gens) (d' := s.drawn) (ch := ch) (fun b hb => ⟨(hf b hb).2.2.2.1, (hf b hb).2.1, (hf b hb).2.2.2.2.1, (hf b hb).2.2.2.2.2⟩) (fun b o _ _ hc e _ => k b o hc e) (fun b o _ _ hc e _ => ⟨o.slots, k b o hc e⟩)
    (fun b o _ e n => ?_) (fun b o hc e => ⟨o, k b o hc e⟩) (fun b xs e => ?_) (fun b o u e => ?_) (fun b ps e => ⟨#[], ?_⟩) (fun m hm => ?_) (fun b u e => ?_) I.bare.self
  · rw [upd_ne (Nat.ne_of_lt (Nat.lt_of_lt_of_le (Heap.lt_size e) hT))]; exact n
  · rw [upd_ne (ne_of_none e hn)]; exact e
  · rw [upd_ne (ne_of_none e hn)]; exact e
  · rw [upd_ne (ne_of_none e hn), e]; simp
  · obtain ⟨o, es, ep, ho, r⟩ := hm
    exact ⟨o, es, ep, k _ o (fun z => (hf _ z).2.1 rfl) ho, r⟩
  · by_cases hb : b = T
    · subst hb
      rw [upd_same] at e
      cases e
      exact new
    · rw [upd_ne hb] at e
      refine (I.hok b u e).stay (fun c v hc q => k c v ?_ q) (fun c q => by rw [upd_ne (ne_of_none q hn)]; exact q) fun c xs q => by rw [upd_ne (ne_of_none q hn)]; exact q
      rcases hc with z | z
      · rw [z]; exact nit b u e
      · exact nit c _ z

/-! ### locking a thing while a statement runs -/
end
section
variable {X : Cx}
/-! ### one iterator just laid -/
end

/-! ### range with a step -/
/-- range(i, j, c): small bounds, n items -/
def RgC (i j c : Int) (n : Nat) : Prop := c ≠ 0 ∧ c.natAbs < 1073741824 ∧ Builtin.Range.small i j c = true ∧ Builtin.Range.rangeSize i j c = n
theorem RgC.neg {i j : Int} (ha : -(2 ^ 62) ≤ i) (ha' : i < 2 ^ 62) (hb : -(2 ^ 62) ≤ j) (hb' : j < 2 ^ 62) : RgC i j (-1) (i - j).toNat :=
  ⟨by decide, by decide, PySem.W.small_down ha ha' hb hb', PySem.W.rangeSize_downNat i j⟩
section
variable {X : Cx} {tg : Expr}
end
/-! ### reversed(list) -/
section
variable {X : Cx} {tg : Expr}
end

/-! ### a str -/
/-! ### a dict's keys: any dict's entries -/
section
variable {prog : Program} {w : World} {A : Around} {E : Value → Shared → Prop} {s : Shared}
end

/-! ### a locked dict -/
section
variable {X : Cx} {pins : List (Addr × Obj)} {σ : St} {H : Hp} {s : Shared} {d : Addr} {o : Obj}
end

section
variable {P : Program} {w : World} {K : PySem.W.Frag} {tg : Expr} {d : Addr} {o : Obj} {es : Array DictEntry} {ep : Nat}
end

/-! ### for k in d, d.keys(), d.values(), d.items() -/
section
variable {X : Cx} {tg e : Expr} {td : TE} {apos cpos : Pos}
end

/-! ### enumerate(list) -/
/-- the list at a as it stands at each turn, each item in a new pair -/
def Ite (K : PySem.W.Frag) (a : Addr) : It :=
  ⟨fun i H => ∃ (xs : List V) (x : V), SqL K H a xs ∧ xs[i]? = some x, fun i H v H' => ∃ T x, v = .ref T ∧ H T = none ∧ H' = upd H T (.tup [.int (i : Nat), x]) ∧ ∀ xs, SqL K H a xs → xs[i]? = some x, fun i H => ∃ xs : List V, SqL K H a xs ∧ xs.length ≤ i⟩
theorem turn_enum {P : Program} {w : World} {K : PySem.W.Frag} {elts : List Expr} {kk : Nat} {tpos : Pos} (a e it : Addr) :
    Turn P w K (.Tuple elts kk tpos) (Ite K a) [e, it] e (fun i h => (∃ old, IsEnum h e it ((i : Nat) : Int) old) ∧ h.IsListIter it a i ∧ e ≠ it) where
  mem := by simp
  obj := fun i h st b hb => by
    obtain ⟨⟨old, he⟩, ⟨o, ho, hc, hd⟩, _⟩ := st
    have e' : b = e ∨ b = it := by simpa using hb
    rcases e' with z | z
    · rw [z]; exact ⟨_, he, fun v q => nomatch q⟩
    · rw [z]; exact ⟨o, ho, fun v q => by rw [hd] at q; cases q⟩
  keep := fun i h h' st k => let ⟨⟨old, he⟩, hi, hne⟩ := st; ⟨⟨old, k e (by simp) _ he⟩, hi.at fun o q => k it (by simp) o q, hne⟩
  item := by
    intro X hP hw hK hc i pins s σ H E I hf st hg
    subst hP hw hK
    obtain ⟨⟨old, he⟩, hit, hne⟩ := st
    obtain ⟨xs, x, hq, hx⟩ := hg
    obtain ⟨its, rv, p, hz⟩ := I.list hq
    obtain ⟨u, hu, ru⟩ := rv.get hx
    have hel : e < s.heap.objs.size := Heap.lt_size he
    have hil : it < s.heap.objs.size := by obtain ⟨_, q, _⟩ := hit; exact Heap.lt_size q
    refine wpAny_pyNext_enum_item he hit p.isList (x := u) (by simpa using hu) hne fun h' ho hit' hT hsz hk => ?_
    refine ⟨_, rfl, wpAny_letOwnedTupleGo_enum (s := { s with heap := h', toks := s.toks + 1 }) ho fun h'' he' sb => ?_⟩
    have hT2 : h''.get? s.heap.objs.size = some { cls := .type "tuple", data := .seq #[.int i s.toks, u] } := (sb.2 _ (Nat.ne_of_gt hel)).trans hT
    have new : ObjOk X.prog X.w (upd H s.heap.objs.size (.tup [.int (i : Nat), x])) h'' s.heap.objs.size (.tup [.int (i : Nat), x]) :=
      ⟨by show 2 ≤ sizeLine; decide, [.int i s.toks, u], .cons ⟨_, rfl⟩ (.cons ru .nil), ⟨_, hT2, rfl, _, rfl⟩⟩
    have I1 : Inv X pins σ (upd H s.heap.objs.size (.tup [.int (i : Nat), x])) { s with heap := h'', toks := s.toks + 1 } :=
      I.turnedNew (ch := [e, it]) (fun b ob hb q => (sb.2 b (fun z => hb (by simp [z]))).trans (hk b ob (fun z => hb (by simp [z])) (fun z => hb (by simp [z])) q)) hf (Nat.le_refl _) new
    refine ⟨.ref s.heap.objs.size, _, I1, rfl, ⟨_, x, rfl, I.hok.fresh (Nat.le_refl _), rfl, fun ys hy => by rw [I.list_inj hy hq]; exact hx⟩, ⟨⟨u, ?_⟩, hit'.at fun o q => (sb.2 it (Ne.symm hne)).trans q, hne⟩, fun b hb => ?_⟩
    · have e1 : ((i + 1 : Nat) : Int) = (i : Int) + 1 := by omega
      rw [e1]; exact he'
    · have hb' : b < s.heap.objs.size := by
        have e' : b = e ∨ b = it := by simpa using hb
        rcases e' with z | z
        · rw [z]; exact hel
        · rw [z]; exact hil
      rw [upd_ne (Nat.ne_of_lt hb')]
      exact (hf b hb).1
  done := by
    intro X hP hw hK hc i pins s σ H E I hf st hg
    subst hP hw hK
    obtain ⟨⟨old, he⟩, hit, hne⟩ := st
    obtain ⟨xs, hq, hx⟩ := hg
    obtain ⟨its, rv, p, hz⟩ := I.list hq
    obtain ⟨f0, f1, f2, f3, f4, f5⟩ := hf it (by simp)
    have hl := rv.length
    exact wpAny_pyNext_enum_end (I.ok.hd hc) he hit p.isList (by simp; omega) fun h' eb => ⟨rfl, I.turned (t' := s.toks) (fun b o hb q => eb b o hb q) f0 f1 f3 f4 f5⟩
  self := fun A i s Q E st h => let ⟨⟨_, he⟩, _⟩ := st; wpAny_pyIter_enum he h
def iEnum (K : PySem.W.Frag) (ta : TA) : TI := fun σ H R => ta σ H fun vs H1 => ∃ a xs, vs = [.ref a] ∧ SqL K H1 a xs ∧ R (Ite K a) H1
theorem pi_enum {X : Cx} {e : Expr} {ta : TA} {p pos tpos : Pos} {elts : List Expr} {kk : Nat} (hg : Gl X "enumerate") (hm : X.mg "enumerate" = none) (ha : PA X [e] ta) (hs : starEach [e] X.env = [(false, eval e X.env)] := by rfl) :
    PI X (.Tuple elts kk tpos) (.Call (.Name "enumerate" p) [e] [] pos) (iEnum X.K ta) := by
  constructor
  intro pins s σ H R I h
  refine Call_ (ld_blt I hg hm boot_enumerate (PyProof.Rows.callWith_type1 (thn (ha pos pins s σ H _ I h) fun us s1 ⟨vs, H1, I1, r1, q1⟩ => ?_) hs rfl))
  obtain ⟨a, xs, ex, hq, q⟩ := q1
  subst ex
  cases r1 with
  | cons r rr =>
    cases rr
    cases r
    obtain ⟨its, rv, p', hz⟩ := I1.list hq
    refine call_enumerate_list p'.isList fun h' he hit hsz hk => wpAny_pyIter_enum he ?_
    have I2 : Inv X pins σ H1 { s1 with heap := h' } := I1.kept (t' := s1.toks) hk
    refine ⟨s1.heap.objs.size + 1, [s1.heap.objs.size + 1, s1.heap.objs.size], _, _, H1, rfl, I2, turn_enum a (s1.heap.objs.size + 1) s1.heap.objs.size, ⟨⟨.none, he⟩, hit, Nat.succ_ne_self _⟩, fun b hb => ?_, q⟩
    have e' : b = s1.heap.objs.size + 1 ∨ b = s1.heap.objs.size := by simpa using hb
    have hle : s1.heap.objs.size ≤ b := by
      rcases e' with z | z
      · rw [z]; exact Nat.le_add_right _ _
      · rw [z]; exact Nat.le_refl _
    exact I1.fpOk hle (I1.hok.fresh hle)
/-! ### zip(list, list) -/
theorem boot_zip5 : bootBuiltins "zip" = some (.type "zip") := by decide +kernel
/-- the lists at a and b as they stand at each turn, the items in new pairs -/
def Itz (K : PySem.W.Frag) (a b : Addr) : It :=
  ⟨fun i H => ∃ (xs ys : List V) (x y : V), SqL K H a xs ∧ SqL K H b ys ∧ xs[i]? = some x ∧ ys[i]? = some y,
    fun i H v H' => ∃ T x y, v = .ref T ∧ H T = none ∧ H' = upd H T (.tup [x, y]) ∧ (∀ xs, SqL K H a xs → xs[i]? = some x) ∧ ∀ ys, SqL K H b ys → ys[i]? = some y,
    fun i H => ∃ xs ys : List V, SqL K H a xs ∧ SqL K H b ys ∧ (xs.length ≤ i ∨ ys.length ≤ i)⟩
theorem turn_zip {P : Program} {w : World} {K : PySem.W.Frag} {elts : List Expr} {kk : Nat} {tpos : Pos} {a b z TI TO i1 i2 : Addr} (D : ZipApart z TI TO i1 i2 a b) :
    Turn P w K (.Tuple elts kk tpos) (Itz K a b) [z, TI, TO, i1, i2] z (fun i h => IsZip h z TI TO .none ∧ IsPair h TI (.ref i1) (.ref i2) ∧ (∃ x y, IsPair h TO x y) ∧ h.IsListIter i1 a i ∧ h.IsListIter i2 b i) where
  mem := by simp
  obj := fun i h st c hc => by
    obtain ⟨hz, hTI, ⟨x, y, hTO⟩, ⟨o1, e1, _, d1⟩, ⟨o2, e2, _, d2⟩⟩ := st
    have e' : c = z ∨ c = TI ∨ c = TO ∨ c = i1 ∨ c = i2 := by simpa using hc
    rcases e' with q | q | q | q | q
    · rw [q]; exact ⟨_, hz, fun v q => nomatch q⟩
    · rw [q]; exact ⟨_, hTI, fun v q => nomatch q⟩
    · rw [q]; exact ⟨_, hTO, fun v q => nomatch q⟩
    · rw [q]; exact ⟨o1, e1, fun v q => by rw [d1] at q; cases q⟩
    · rw [q]; exact ⟨o2, e2, fun v q => by rw [d2] at q; cases q⟩
  keep := fun i h h' st k => by
    obtain ⟨hz, hTI, ⟨x, y, hTO⟩, h1, h2⟩ := st
    exact ⟨k z (by simp) _ hz, k TI (by simp) _ hTI, ⟨x, y, k TO (by simp) _ hTO⟩, h1.at fun o q => k i1 (by simp) o q, h2.at fun o q => k i2 (by simp) o q⟩
  item := by
    intro X hP hw hK hc i pins s σ H E I hf st hg
    subst hP hw hK
    obtain ⟨hz, hTI, ⟨x0, y0, hTO⟩, h1, h2⟩ := st
    obtain ⟨xs, ys, x, y, hqx, hqy, hx, hy⟩ := hg
    obtain ⟨its, rv, p, _⟩ := I.list hqx
    obtain ⟨its2, rv2, p2, _⟩ := I.list hqy
    obtain ⟨u, hu, ru⟩ := rv.get hx
    obtain ⟨u2, hu2, ru2⟩ := rv2.get hy
    have hzl : z < s.heap.objs.size := Heap.lt_size hz
    refine wpAny_pyNext_zip_item D hz hTI hTO h1 h2 p.isList p2.isList (x := u) (y := u2) (by simpa using hu) (by simpa using hu2) fun h' z' TO' h1' h2' hT hsz hk => ?_
    refine ⟨_, rfl, wpAny_letOwnedTupleGo_zip (s := { s with heap := h' }) z' fun h'' z'' sb => ?_⟩
    have hT2 : h''.get? s.heap.objs.size = some { cls := .type "tuple", data := .seq #[u, u2] } := (sb.2 _ (Nat.ne_of_gt hzl)).trans hT
    have new : ObjOk X.prog X.w (upd H s.heap.objs.size (.tup [x, y])) h'' s.heap.objs.size (.tup [x, y]) :=
      ⟨by show 2 ≤ sizeLine; decide, [u, u2], .cons ru (.cons ru2 .nil), ⟨_, hT2, rfl, _, rfl⟩⟩
    have I1 : Inv X pins σ (upd H s.heap.objs.size (.tup [x, y])) { s with heap := h'' } :=
      I.turnedNew (t' := s.toks) (ch := [z, TI, TO, i1, i2]) (fun c o hb q => (sb.2 c (fun q' => hb (by simp [q']))).trans (hk c o (fun q' => hb (by simp [q'])) (fun q' => hb (by simp [q'])) (fun q' => hb (by simp [q'])) (fun q' => hb (by simp [q'])) q)) hf (Nat.le_refl _) new
    refine ⟨.ref s.heap.objs.size, _, I1, rfl, ⟨_, x, y, rfl, I.hok.fresh (Nat.le_refl _), rfl, fun l hl => by rw [I.list_inj hl hqx]; exact hx, fun l hl => by rw [I.list_inj hl hqy]; exact hy⟩, ⟨z'', ?_, ⟨u, u2, ?_⟩, ?_, ?_⟩, fun c hcm => ?_⟩
    · exact (sb.2 _ D.TIz).trans (hk _ _ D.TIz D.TITO D.TIi1 D.TIi2 hTI)
    · exact (sb.2 _ D.TOz).trans TO'
    · exact h1'.at fun o q => (sb.2 _ D.i1z).trans q
    · exact h2'.at fun o q => (sb.2 _ D.i2z).trans q
    · have hlt : c < s.heap.objs.size := by
        have e' : c = z ∨ c = TI ∨ c = TO ∨ c = i1 ∨ c = i2 := by simpa using hcm
        rcases e' with q | q | q | q | q
        · rw [q]; exact hzl
        · rw [q]; exact Heap.lt_size hTI
        · rw [q]; exact Heap.lt_size hTO
        · rw [q]; obtain ⟨_, e1, _⟩ := h1; exact Heap.lt_size e1
        · rw [q]; obtain ⟨_, e2, _⟩ := h2; exact Heap.lt_size e2
      rw [upd_ne (Nat.ne_of_lt hlt)]
      exact (hf c hcm).1
  done := by
    intro X hP hw hK hc i pins s σ H E I hf st hg
    subst hP hw hK
    obtain ⟨hz, hTI, ⟨x0, y0, hTO⟩, h1, h2⟩ := st
    obtain ⟨xs, ys, hqx, hqy, hend⟩ := hg
    obtain ⟨its, rv, p, _⟩ := I.list hqx
    obtain ⟨its2, rv2, p2, _⟩ := I.list hqy
    have l1 := rv.length
    have l2 := rv2.length
    have he : its.toArray[i]? = none ∨ its2.toArray[i]? = none := by
      rcases hend with q | q
      · exact .inl (by simp; omega)
      · exact .inr (by simp; omega)
    exact wpAny_pyNext_zip_end (I.ok.hd hc) D hz hTI hTO h1 h2 p.isList p2.isList he fun h' hk => ⟨rfl, I.turnedL (t' := s.toks) (ch := [z, TI, TO, i1, i2]) (fun c o hb q =>
      hk c o (fun q' => hb (by simp [q'])) (fun q' => hb (by simp [q'])) (fun q' => hb (by simp [q'])) (fun q' => hb (by simp [q'])) q) hf⟩
  self := fun A i s Q E st h => wpAny_pyIter_zip st.1 h
def iZip (K : PySem.W.Frag) (ta : TA) : TI := fun σ H R => ta σ H fun vs H1 => ∃ a b xs ys, vs = [.ref a, .ref b] ∧ SqL K H1 a xs ∧ SqL K H1 b ys ∧ R (Itz K a b) H1
theorem pi_zip {X : Cx} {e e2 : Expr} {ta : TA} {p pos tpos : Pos} {elts : List Expr} {kk : Nat} (hg : Gl X "zip") (hm : X.mg "zip" = none) (ha : PA X [e, e2] ta)
    (hs : starEach [e, e2] X.env = (false, eval e X.env) :: starEach [e2] X.env := by rfl) (hpl : (backTo pos (starEach [e2] X.env)).any (·.1) = false := by rfl) :
    PI X (.Tuple elts kk tpos) (.Call (.Name "zip" p) [e, e2] [] pos) (iZip X.K ta) := by
  constructor
  intro pins s σ H R I h
  refine Call_ (ld_blt I hg hm boot_zip5 (PyProof.Rows.callWith_type1 (thn (ha pos pins s σ H _ I h) fun us s1 ⟨vs, H1, I1, r1, q1⟩ => ?_) hs hpl))
  obtain ⟨a, b, xs, ys, ex, hqx, hqy, q⟩ := q1
  subst ex
  cases r1 with
  | cons r rr =>
    cases rr with
    | cons r' rr =>
      cases rr
      cases r
      cases r'
      obtain ⟨its, rv, p1, _⟩ := I1.list hqx
      obtain ⟨its2, rv2, p2, _⟩ := I1.list hqy
      have la : a < s1.heap.objs.size := p1.lt
      have lb : b < s1.heap.objs.size := p2.lt
      refine call_zip_2 p1.isList p2.isList fun h' hz hTI hTO h1 h2 hsz hk => wpAny_pyIter_zip hz ?_
      have I2 : Inv X pins σ H1 { s1 with heap := h' } := I1.kept (t' := s1.toks) hk
      refine ⟨s1.heap.objs.size + 4, [s1.heap.objs.size + 4, s1.heap.objs.size + 2, s1.heap.objs.size + 3, s1.heap.objs.size, s1.heap.objs.size + 1], _, _, H1, rfl, I2, turn_zip (PySem.W.ktu_apart s1.heap.objs.size a b la lb), ⟨hz, hTI, ⟨_, _, hTO⟩, h1, h2⟩, fun c hcm => ?_, q⟩
      have e' : c = s1.heap.objs.size + 4 ∨ c = s1.heap.objs.size + 2 ∨ c = s1.heap.objs.size + 3 ∨ c = s1.heap.objs.size ∨ c = s1.heap.objs.size + 1 := by simpa using hcm
      have hle : s1.heap.objs.size ≤ c := by
        rcases e' with z | z | z | z | z
        · rw [z]; exact Nat.le_add_right _ _
        · rw [z]; exact Nat.le_add_right _ _
        · rw [z]; exact Nat.le_add_right _ _
        · rw [z]; exact Nat.le_refl _
        · rw [z]; exact Nat.le_add_right _ _
      exact I1.fpOk hle (I1.hok.fresh hle)
end L2

section 
namespace Bits
open PySem PyProof.Rows

end Bits
end 

section 
namespace TL
open PySem PySem.Builtin PySem.Builtin.Str PySem.StrLaws

abbrev tl (x : Str) : List Nat := x.cps.toList
/-! ### the list functions -/
/-- S stands at the head of l -/
def pre (S l : List Nat) : Bool := l.take S.length == S
/-- what stands before the first S, and behind it -/
def par (S : List Nat) : List Nat → List Nat → Option (List Nat × List Nat)
  | _, [] => none
  | acc, c :: r => if pre S (c :: r) = true then some (acc, (c :: r).drop S.length) else par S (acc ++ [c]) r

/-! ### the model's split and partition are these -/
/-! ### computing spl and par -/
/-! ### digits -/
/-! ### words: x.split() -/
end TL
end 

namespace L2
open PySem PySem.Spec PyProof.Rows

section
variable {X : Cx} {pins : List (Addr × Obj)} {σ : St} {H : Hp} {s : Shared} {Q : VK}
end

section
variable {X : Cx}

/-! ### of a text alone -/
/-! ### of a text and a text -/
end

section
variable {X : Cx} {o e : Expr} {to te : TE}
end
end L2

namespace L2
open PySem PySem.Spec PyProof.Rows

section
variable {X : Cx}
end

/-! ### slices of a text -/
end L2

namespace Att
open PySem PySem.W PySem.Calls PyProof.Rows

/-! ### the script -/
theorem ints_of_wellAll {P : Params} {h : Heap} : ∀ (ns : List Int) (vs : List Value), WellAll P h vs (ns.map WData.int) → IntsAre vs ns := by
  intro ns
  induction ns with
  | nil =>
    intro vs w
    rw [List.map_nil] at w
    cases w
    exact .nil
  | cons n ns ih =>
    intro vs w
    rw [List.map_cons] at w
    cases w with
    | cons a b =>
      cases a
      exact .cons _ _ (ih _ b)

theorem script_of {l : OpenLaw} {n : Nat} (hn : l.most = some n) {P : Params} {h : Heap} {args : List WData} {vals : List Value}
    (hpre : l.row.toRowW.claim.pre args = true) (hwl : WellAll P h vals args) :
    ∃ a vs ns, vals = [Value.ref a] ∧ args = [WData.list (ns.map WData.int)] ∧ h.get? a = some { cls := .type "list", data := .seq vs.toArray } ∧ IntsAre vs ns ∧ ns.length ≤ n := by
  have hsh : WShape.hasAll [] args [.list .int] = true := (pre_splitW hpre).1
  have hc : l.pre.holds [] { args := args } = true := (pre_splitW hpre).2
  obtain ⟨d, r, rfl, h1, h2⟩ := hasAllW_cons hsh
  obtain rfl := hasAllW_nil h2
  obtain ⟨xs, rfl, h3⟩ := hasW_list h1
  obtain ⟨ns, rfl⟩ := items_int h3
  have hlen : ns.length ≤ n := by
    unfold OpenLaw.pre at hc
    have h4 : (WTm.not (.lt (.lit (.int (n : Int))) (.len (.arg 0)))).holds [] { args := [.list (ns.map .int)] } = true := by
      have h4 := (holds_andW hc).1
      rw [hn] at h4
      exact h4
    have h5 := condW_of h4 (w_not (w_lt w_lit (w_len_list (w_arg rfl))))
    rw [List.length_map] at h5
    refine Nat.le_of_not_lt fun q => ?_
    have q' : (n : Int) < ((ns.length : Nat) : Int) := by omega
    first
      | (rw [decide_eq_true q'] at h5; exact absurd h5 (by decide))
      | (simp at h5; omega)
  cases hwl with
  | cons w1 w2 =>
    cases w2
    cases w1 with
    | list ho hall => exact ⟨_, _, ns, rfl, rfl, ho, ints_of_wellAll ns _ hall, hlen⟩

theorem post_true (l : OpenLaw) (args : List WData) : l.row.toRowW.claim.post args (.bool true) args = true :=
  postW_of (r := l.row.toRowW) (X := (true == true))
    (show WShape.has [] (.bool true) .bool = true by first | rfl | decide | simp [WShape.has, WShape.arms, WShape.armsAll])
    (show (WTm.eq .res (.lit (.bool true))).value [] { args := args, res := some (.bool true), after := args } = some (.bool (true == true)) from w_eq_bool (w_res rfl) w_lit) rfl

/-! ### the attachment: holds_open's last premise (the goal 'hc' behind k_head) from a wpAny of the law's body -/
/-- the same from a codeAny of the CALL (for a layer whose function contracts speak of calls) -/
theorem attach_call {l : OpenLaw} {n : Nat} {q : Program} {loose : List Str} {XP : (Str → Option Value) → Heap → Prop} {YP : World → Heap → Prop} {d : DefRec}
    (hn : l.most = some n) (hdf : d.params.defaults = [])
    (call : ∀ (w : World) (s₀ s₁ : Shared) (mg mb : Str → Option Value) (fa : Addr) (o : Obj) (pm cd doc : Value) (a : Addr) (vs : List Value) (ns : List Int),
      Ground q loose [] XP w s₀ mg mb s₁.heap → YP w s₁.heap →
      s₁.heap.get? fa = some o → o.data = .func (docDef d.name d.params d.body d.scope pm cd doc) → s₁.heap.CodeRec cd d.name → mg d.name = some (.ref fa) →
      s₁.heap.get? a = some { cls := .type "list", data := .seq vs.toArray } → IntsAre vs ns → ns.length ≤ n → s₁.gens = #[] →
      codeAny (model l.prog w) callerA (.call (.ref fa) ⟨[.ref a], []⟩) (fun r s' => r = .ok (.ret (.bool true)) ∧ OldK s₁.heap s'.heap ∧ s'.os = s₁.os ∧ AllBare s'.gens) s₁) :
    WalkO q loose XP YP l.row.toRowW d [] (fun f vs => PySem.call f vs) := by
  intro w s₀ s₁ mg mb G Y fa o pm cd doc dV kV ho hd hcd hD hmg hg args vals as hpre hlay hrd hwl hlo
  obtain rfl : dV = .none := Dflts.none hD hdf
  obtain rfl : kV = .none := Dflts.noKw hD
  obtain ⟨a, vs, ns, rfl, rfl, hobj, hints, hlen⟩ := script_of hn hpre hwl
  refine enter_call (codeAny_mono (call w s₀ s₁ mg mb fa o pm cd doc a vs ns G Y ho (fd_plain hd) hcd hmg hobj hints hlen hg) fun r s' hq => ?_)
  obtain ⟨rfl, h2, h3, h4⟩ := hq
  exact ⟨.inl ⟨.bool true, .bool true, [], rfl, fun _ => rfl, .bool true, post_true l _, fun _ => ⟨List.Pairwise.nil, fun _ hm => (nomatch hm)⟩⟩, h2, h3, h4⟩

/-! ### rules over ANY heap (no ledger) from facts about the written part K: the library's own take a ledger (News) for what they write -/
section
variable {prog : Program} {w : World} {A : Around} {E : Value → Shared → Prop} {s : Shared} {K : Frag}

/-! the whole heap as the ledger: makes every rule that writes through a ledger a rule over any heap -/
end
end Att

namespace L2
open PySem PySem.Spec PyProof.Rows

theorem vals_ints : ∀ {vs : List Value} {ns : List Int}, IntsAre vs ns → Vals (ns.map V.int) vs
  | _, _, .nil => .nil
  | _, _, .cons n t h => .cons ⟨t, rfl⟩ (vals_ints h)

end L2

/-! SHORT WORDS over the layer: a def of the text, its body, what a loop and a test want. -/
namespace L2
open PySem PySem.Spec PyProof.Rows

/-! ### the text by places -/
def defArgs (s : Stmt) : Arguments := match s with
  | .FunctionDef _ a _ _ _ _ _ _ _ _ => a
  | _ => { posonlyargs := [], args := [], vararg := none, kwonlyargs := [], kw_defaults := [], kwarg := none, defaults := [] }
def defBody (s : Stmt) : List Stmt := match s with
  | .FunctionDef _ _ b _ _ _ _ _ _ _ => b
  | _ => []
def defScope (s : Stmt) : Scope := match s with
  | .FunctionDef _ _ _ _ _ _ sc _ _ _ => sc
  | _ => { kind := .function, names := [], isGenerator := false, isCoroutine := false }

/-! ### no exception leaves a def -/
abbrev CX0 : CXT := fun _ _ _ _ _ _ => False
abbrev E0 : XK := fun _ _ _ => False
theorem pass0 {X : Cx} : Passes CX0 X E0 := fun _ _ _ _ _ _ _ h => h.elim

/-! ### a def (or method) of the text as it stands behind the top -/
structure Fun (K : PySem.W.Frag) (x qual : Str) (st : Stmt) (f : Addr) (fd : FuncData) : Prop where
  ex : ∃ (oc : Value) (od : Option Addr) (kV doc pm : Value) (an : Option Addr) (cdv ct : Value) (osl : Array (Option Value)),
    fd = PySem.W.fnOf x qual (defArgs st) (defBody st) (defScope st) .none kV doc pm an cdv ct ∧ K.lookup f = some ⟨oc, od, .func fd, osl⟩ ∧ PySem.W.codeIn K cdv qual = true
  kp : PySem.W.keepIn K (.ref f) = true
section
variable {P : Program} {w : World} {K : PySem.W.Frag} {mg : Str → Option Value} {base : Heap}
/-- THE RULE for a def: its body as a term of rules, and the reading of that term -/
theorem Fun.ok {x qual : Str} {st : Stmt} {f : Addr} {fd : FuncData} {N ps : List Str} {k : Nat} {sp : Sp} (F : Fun K x qual st f fd) (S : FnScope N ps (defScope st)) (len : ∀ vs H Q E, sp vs H Q E → vs.length = ps.length)
    (hbody : ∀ (cdv : Value) (A : Around) (outer : List Env) (s : Shared) (H : Hp) (vs : List V) (Q : VK) (E : XK), Room k (A.deeper (envOfC qual (defScope st) s.heap.objs.size f cdv)) → sp vs H Q E →
      ∃ t, PSs (cxOf CX0 P w K mg base N qual (defScope st) f cdv A outer s H E).nox (defBody st) t ∧ t { nx := fun _ H' => Q .non H', rt := Q } (start N vs) H) : FnOk P w K mg base CX0 (k + 1) f fd ps sp := by
  obtain ⟨oc, od, kV, doc, pm, an, cdv, ct, osl, rfl, lk, hcd⟩ := F.ex
  refine fn_of lk hcd S len fun A outer s H vs Q E hr hsp => ?_
  obtain ⟨t, h, q⟩ := hbody cdv A outer s H vs Q E hr hsp
  exact ⟨t, h.nox, q⟩
/-- how its arguments bind (no defaults): h is «fun _ _ _ _ _ _ us hl => match us, hl with | [_, _], _ => rfl», one _ a parameter -/
theorem Fun.binds {x qual : Str} {st : Stmt} {f : Addr} {fd : FuncData} {ps : List Str} (F : Fun K x qual st f fd)
    (h : ∀ (kV doc pm : Value) (an : Option Addr) (cdv ct : Value) (us : List Value), us.length = ps.length → bindArgs (PySem.W.fnOf x qual (defArgs st) (defBody st) (defScope st) .none kV doc pm an cdv ct) ⟨us, []⟩ = pure (ps.zip us)) : Binds K fd ps [] := by
  obtain ⟨oc, od, kV, doc, pm, an, cdv, ct, osl, rfl, lk, hcd⟩ := F.ex
  exact .all (h kV doc pm an cdv ct)
theorem fun_mk {x qual : Str} {st : Stmt} {f : Addr} {oc : Value} {od an : Option Addr} {osl : Array (Option Value)} {kV doc pm cdv ct : Value} (l : K.lookup f = some ⟨oc, od, .func (PySem.W.fnOf x qual (defArgs st) (defBody st) (defScope st) .none kV doc pm an cdv ct), osl⟩)
    (c : PySem.W.codeIn K cdv qual = true) (k : PySem.W.keepIn K (.ref f) = true) : Fun K x qual st f (PySem.W.fnOf x qual (defArgs st) (defBody st) (defScope st) .none kV doc pm an cdv ct) := ⟨⟨oc, od, kV, doc, pm, an, cdv, ct, osl, rfl, l, c⟩, k⟩
end
theorem hu_of {A : Around} {k : Nat} (hr : Room k A) : A.units + 1 < cLine := Nat.lt_of_le_of_lt (Nat.add_le_add_left (by decide : 1 ≤ 64) _) hr.units
/-! ### expressions in short: the name that stands in the i-th slot -/
section
variable {X : Cx}
theorem pv (i : Nat) {x : Str} {pos : Pos} (hN : X.N[i]? = some x := by rfl) (hv : Vis X.env.scope x := by first | exact Or.inl rfl | exact Or.inr (Or.inl rfl) | exact Or.inr (Or.inr rfl)) (hd : (x == ("__debug__" : Str)) = false := by decide)
    (hcd : (x == ("__classdict__" : Str)) = false := by decide) : PE X (.Name x pos) (tVar i) := pe_var hN hv hd hcd
end

/-! ### tests -/
theorem iteF {A B : Prop} (h : B) : if false = true then A else B := by
  rw [if_neg Bool.false_ne_true]
  exact h
theorem iteT {A B : Prop} (h : A) : if true = true then A else B := by
  rw [if_pos rfl]
  exact h
theorem ite2 {c A B : Prop} [Decidable c] (h1 : c → A) (h2 : ¬ c → B) : if c then A else B := by
  by_cases h : c
  · rw [if_pos h]
    exact h1 h
  · rw [if_neg h]
    exact h2 h
/-! ### heaps -/
/-- all that was tracked is as it was -/
def Same (H H' : Hp) : Prop := ∀ b o, H b = some o → H' b = some o
theorem Same.refl (H : Hp) : Same H H := fun _ _ h => h
theorem Same.trans {H H1 H2 : Hp} (a : Same H H1) (b : Same H1 H2) : Same H H2 := fun c o h => b c o (a c o h)
theorem Same.free {H H' : Hp} (e : Same H H') {l : Addr} (h : H' l = Option.none) : H l = Option.none := by
  cases q : H l with
  | none => rfl
  | some o =>
    rw [e l o q] at h
    cases h
theorem Same.seq {K : PySem.W.Frag} {H H' : Hp} {a : Addr} {xs : List V} (e : Same H H') (h : SqL K H a xs) : SqL K H' a xs := by
  rcases h with (h | ⟨o, h⟩) | h
  · exact .inl (.inl (e _ _ h))
  · exact .inl (.inr ⟨o, e _ _ h⟩)
  · exact .inr h

/-! ### a dict's pairs: keys that differ -/
section
variable {κ : Type} [DecidableEq κ]
end
/-! ### lists -/
/-- a new instance and its __init__ leave all that was tracked as it was -/
theorem Same.made {H H1 : Hp} {x dx C : Addr} (nx : H x = Option.none) (nd : H dx = Option.none) (k : ∀ b o, (upd (upd H dx (.own x)) x (.ins C dx [])) b = some o → b ≠ x → H1 b = some o) : Same H H1 := fun b o e =>
  k b o (by rw [upd_ne (ne_of_none e nx), upd_ne (ne_of_none e nd)]; exact e) (ne_of_none e nx)
end L2

end
section
set_option linter.all false
set_option maxRecDepth 100000
/-! Generator expressions whose steps leave what is tracked as it is -/
namespace L2
open PySem PySem.Spec PyProof.Rows

/-- what was tracked is tracked still -/
def Ext (H H' : Hp) : Prop := ∀ b o, H b = some o → H' b = some o
theorem Ext.refl (H : Hp) : Ext H H := fun _ _ e => e
theorem Ext.trans {H H1 H2 : Hp} (a : Ext H H1) (b : Ext H1 H2) : Ext H H2 := fun c o e => b c o (a c o e)
theorem Ext.upd {H H' : Hp} {a : Addr} {o : HO} (x : Ext H H') (hn : H' a = none) : Ext H (upd H' a o) := fun b u e => by
  rw [upd_ne (ne_of_none (x b u e) hn)]; exact x b u e

/-- a code table, whatever it holds -/
def TblO (P : Addr) : HO := .ext fun h => ∃ ps : Array Value, h.get? P = some { cls := .none, data := .fields ps } ∧ TriplesOk ps.toList
/-- the table of a def's code -/
structure TabOf (base : Heap) (cd : Value) (P : Addr) : Prop where
  tab : ∃ c o vs file tf flags tg inF text tt, cd = .ref c ∧ base.get? c = some o ∧ o.cls = .type "code" ∧ o.data = .fields vs ∧ vs[11]? = some (.ref P) ∧ vs.getD 11 .none = .ref P ∧
    vs.getD 18 .none = .str file tf ∧ vs.getD 7 .none = .int flags tg ∧ vs.getD 9 .none = .bool inF ∧ vs.getD 10 .none = .int text tt ∧ c ≠ P

section
variable {X : Cx} {pins : List (Addr × Obj)} {σ : St} {H : Hp} {s : Shared}
theorem upd_self {H : Hp} {a : Addr} {o : HO} (e : H a = some o) : upd H a o = H := by
  funext b; unfold upd; split
  · rename_i h; rw [h, e]
  · rfl
theorem gen_code {A : Around} {E : Value → Shared → Prop} {P : Addr} {pos : Pos} {q : Str} {scope : Scope} {Q : Value → Shared → Prop} (I : Inv X pins σ H s) (ht : TabOf X.base X.env.code P) (hP : H P = some (TblO P))
    (h : ∀ code s', Inv X pins σ H s' → (∀ b o, b ≠ P → s.heap.get? b = some o → s'.heap.get? b = some o) → Q code s') :
    wpAny (model X.prog X.w) A (genexprCode X.env pos q scope) Q E s := by
  obtain ⟨c, o, vs, file, tf, flags, tg, inF, text, tt, hc, ho, hcls, hd, h11', h11, h18, h7, h9, h10, hne⟩ := ht.tab
  have hob := I.bk c o ho
  obtain ⟨⟨ps, hps, htr⟩, hex, hst⟩ := (show ObjOk X.prog X.w H s.heap P (TblO P) from I.hok P _ hP)
  have hcode : s.heap.IsCode c P ps := ⟨o, vs, file, tf, flags, tg, inF, text, tt, _, hob, hd, h11, h18, h7, h9, h10, hps, rfl, htr, hne⟩
  have htab : s.heap.TableAt c P ps := ⟨⟨o, vs, hob, hcls, hd, h11'⟩, hps⟩
  cases hf : codeAmong pos ps.toList with
  | some c' => exact wpAny_genexprCode_hit hc hcode hf (h c' s I (fun _ _ _ e => e))
  | none =>
    refine wpAny_genexprCodeX hc hcode htab hf fun c' h' tk hx hc1 hc2 hco' hrec htab' _ => ?_
    have mu : Mut (H P) := by rw [hP]; trivial
    have htr' : TriplesOk (ps ++ #[rawInt pos.line, rawInt pos.col, .ref c']).toList := by
      obtain ⟨_, _, _, _, _, _, _, _, _, op, _, _, _, _, _, _, _, e1, e2, e3, _⟩ := hco'
      exact e3
    refine h _ { s with heap := h', toks := tk } ?_ (fun b o hb e => hx b o hb e)
    have z := I.write (x := P) (e := P) (o := TblO P) (h' := h') (t' := tk) mu (.inl rfl) (fun b u hb q => hx b u hb q) ⟨_, htab'.2⟩ ⟨⟨_, htab'.2, htr'⟩, ⟨_, htab'.2⟩, fun h1 h2 ⟨ps, a, b⟩ k => ⟨ps, k _ a, b⟩⟩
    rwa [upd_self hP] at z

/-- the context of a generator's body: woken in A, made at s -/
abbrev Cx.gen (X : Cx) (s : Shared) (H : Hp) (cenv : Env) (fp : List Addr) (A : Around) : Cx :=
  { X with A := A, s_0 := s, H_0 := H, env := cenv, outer := X.stack, stack := cenv :: X.stack, ex := fp, fn := fun _ => false, calm := true, pn := [], xe := fun _ _ => False }
theorem gen_start {scope : Scope} {own : List (Str × Nat)} {fp : List Addr} {A' : Around} {code : Value} {h' : Heap} {g' : Array GenState} {tk : Nat} {og : Obj} {m0 : Str → Option Value} {fo : Obj}
    (I : Inv X pins σ H s) (ok : BlkOk X.N X.env.scope scope own) (hN : X.N.Nodup) (nc : ∀ y ∈ scope.names, y.2 ≠ .cell) (hfp : ∀ b ∈ fp, FpOk X pins H b ∧ b < s.heap.objs.size)
    (hA : A'.handled = none) (hf : A'.frames = some (genEnv scope (cloFrom X.env.cells scope.names []) s.heap.objs.size code builtinsNs X.env :: X.stack))
    (hn' : h'.Ns s.heap.objs.size m0) (hs' : Heap.SameBut s.heap.objs.size (s.heap.push fo) h') (hg : GensOk s.gens g') :
    Inv (X.gen s H (genEnv scope (cloFrom X.env.cells scope.names []) s.heap.objs.size code builtinsNs X.env) fp A') [] (wipe σ (own.map (·.2))) H { s with heap := h'.push og, gens := g', toks := tk } := by
  have hfree : ∀ y ∈ scope.names, y.2 = .free → ∃ c, X.env.cells.lookup y.1 = some c := fun y hy e => by
    rcases ok.free y hy e with k | k
    · exact I.ok.has _ (.inl k)
    · exact I.ok.has _ (.inr k)
  generalize hcenv : genEnv scope (cloFrom X.env.cells scope.names []) s.heap.objs.size code builtinsNs X.env = cenv at hf ⊢
  have kp : ∀ b o, s.heap.get? b = some o → (h'.push og).get? b = some o := fun b o e =>
    Heap.get?_push_of_some _ (hs'.extBut b o (Nat.ne_of_lt (Heap.lt_size e)) (Heap.get?_push_of_some _ e))
  have hL : cenv.locals = s.heap.objs.size := by rw [← hcenv]; rfl
  have hcl : cenv.cells = cloFrom X.env.cells scope.names [] := by rw [← hcenv]; rfl
  have hsc : cenv.scope = scope := by rw [← hcenv]; rfl
  have cm : ∀ {y c}, (y, c) ∈ cloFrom X.env.cells scope.names [] → X.env.cells.lookup y = some c ∧ c < s.heap.objs.size := fun {y c} hm => by
    rcases cloFrom_mem hm with hm | ⟨h1, rfl⟩
    · cases hm
    · obtain ⟨c, hc⟩ := hfree _ h1 rfl
      rw [hc]
      obtain ⟨w, z⟩ := I.cell _ _ hc
      exact ⟨rfl, z.lt⟩
  have mem : ∀ {y c}, cenv.cells.lookup y = some c → X.env.cells.lookup y = some c ∧ c < s.heap.objs.size := fun {y c} e => by
    rw [hcl] at e
    exact cm (PySem.mem_of_lookup e)
  have look : ∀ {y}, scope.names.lookup y = some .free → ∃ c, cenv.cells.lookup y = some c ∧ X.env.cells.lookup y = some c := fun {y} hl => by
    have hy : (y, NameKind.free) ∈ scope.names := PySem.mem_of_lookup hl
    obtain ⟨c', e'⟩ := mem_lookup (cloFrom_has (cells := X.env.cells) (acc := []) hy)
    exact ⟨c', by rw [hcl]; exact e', (cm (PySem.mem_of_lookup e')).1⟩
  have okB : (X.gen s H cenv fp A').Ok := by
    refine ⟨I.ok.mod, by show cenv.scope.kind = _; rw [hsc]; exact ok.kind, by show cenv.globals = _; rw [← hcenv]; exact I.ok.glob, by show cenv.builtins = _; rw [← hcenv]; rfl, by show s.heap.objs.size ≤ cenv.locals; rw [hL]; exact Nat.le_refl _,
      fun y z c e1 e2 => I.ok.inj y z c (mem e1).1 (mem e2).1, fun y hy => ?_, fun y c z e => absurd z (by simp), fun _ => hA, hf, .inr ⟨rfl, by show cenv.frame = some cenv.locals; rw [← hcenv]; rfl⟩, fun b hb => ⟨?_, fun y c e z => ?_⟩, I.bs, Nat.le_trans I.ok.bsz I.sz, fun b o e hb => ?_, fun b hb z => ?_, I.stack, I.stkFree⟩
    · show ∃ c, cenv.cells.lookup y = some c
      have hk : scope.names.lookup y = some .cell ∨ scope.names.lookup y = some .free := by
        have hy : cenv.kindOf y = some .cell ∨ cenv.kindOf y = some .free := hy
        unfold Env.kindOf at hy
        rw [hsc] at hy
        exact hy
      rcases hk with k | k
      · exact absurd rfl (nc _ (PySem.mem_of_lookup k))
      · obtain ⟨c, e, _⟩ := look k
        exact ⟨c, e⟩
    · show b ≠ cenv.locals
      rw [hL]; exact Nat.ne_of_lt (hfp b hb).2
    · exact (hfp b hb).1.2.2.2.2.1 y c (mem e).1 z
    · rcases (hfp b hb).1.2.2.2.1 with z | z
      · exact I.ok.noex b o e z
      · exact absurd (Nat.lt_of_lt_of_le (Heap.lt_size e) (Nat.le_trans I.ok.bsz z)) (Nat.lt_irrefl _)
    · rcases List.mem_cons.mp (I.stkSub b z) with z | z
      · exact (hfp b hb).1.2.1 z
      · exact (hfp b hb).1.2.2.1 z
  refine ⟨okB, rfl, hg, Un.kept kp, ⟨m0, ?_, fun i y av e1 e2 e3 => ?_⟩, fun y c e => ?_, ?_, fun y c e => ?_, fun p hp => ?_, I.hok.kept kp, by rw [wipe_length]; exact I.len⟩
  · show Heap.Ns _ cenv.locals _
    rw [hL]
    exact hn'.push _
  · obtain ⟨e2, hne⟩ := wipe_some e2
    have hfr : scope.names.lookup y = some .free := by
      have no : ∀ k, scope.names.lookup y = some k → ¬ (k = .local ∨ k = .cell) := fun k e hh => by
        rcases ok.own _ (PySem.mem_of_lookup e) hh with e' | e'
        · obtain ⟨p, hp, hpy⟩ := List.mem_map.mp e'
          have e3 := ok.ix p hp
          have : p.1 = y := hpy
          rw [this] at e3
          exact hne (List.mem_map.mpr ⟨p, hp, nodup_ix hN e3 e1⟩)
        · exact e' (List.mem_of_getElem? e1)
      have e3 : Vis cenv.scope y := e3
      rw [hsc] at e3
      rcases e3 with e3 | e3 | e3
      · exact absurd (.inl rfl) (no _ e3)
      · exact absurd (.inr rfl) (no _ e3)
      · exact e3
    obtain ⟨m, hn, hl⟩ := I.loc
    have hvis : Vis X.env.scope y := (ok.free _ (PySem.mem_of_lookup hfr) rfl).elim (fun k => .inr (.inl k)) (fun k => .inr (.inr k))
    obtain ⟨w, r, q⟩ := hl i y av e1 e2 hvis
    refine ⟨w, r, .inr ⟨.inr (by show cenv.scope.names.lookup y = _; rw [hsc]; exact hfr), ?_⟩⟩
    obtain ⟨c, h1, h2⟩ := look hfr
    rcases q with ⟨k, _⟩ | ⟨_, c', e', z⟩
    · have k : X.env.scope.names.lookup y = some .local := k
      rcases ok.free _ (PySem.mem_of_lookup hfr) rfl with k' | k' <;> rw [show X.env.scope.names.lookup y = _ from k'] at k <;> cases k
    · rw [h2] at e'; cases e'
      exact ⟨c, h1, z.keeps kp⟩
  · obtain ⟨h1, _⟩ := mem e
    obtain ⟨w, z⟩ := I.cell y c h1
    exact ⟨w, z.keeps kp⟩
  · show H cenv.locals = none
    rw [hL]; exact I.hok.fresh (Nat.le_refl _)
  · exact I.freeC y c (mem e).1
  · exact absurd (show p ∈ ([] : List (Addr × Obj)) ++ [] from hp) (by simp)
theorem Inv.gens {g' : Array GenState} (I : Inv X pins σ H s) (hg : GensOk X.s_0.gens g') : Inv X pins σ H { s with gens := g' } :=
  ⟨I.ok, I.os, hg, I.base, I.loc, I.cell, I.free, I.freeC, I.pin, I.hok, I.len⟩
end
end L2

end
section
set_option linter.all false
set_option maxRecDepth 100000
namespace L2
open PySem PySem.Spec PyProof.Rows

/-- the records that stand while the body runs -/
def KpA (ps : List Addr) (s₀ s : Shared) : Prop := ∀ b ∈ ps, ∀ o, s₀.heap.get? b = some o → s.heap.get? b = some o
structure GOk (XB : Cx) (σw : St) (tn : Nat → Heap → Prop) (fp ps : List Addr) (H4 : Hp) (i : Nat) (H' : Hp) (s : Shared) : Prop where
  inv : Inv XB (pinsAt ps s.heap) σw H' s
  turn : tn i s.heap
  non : ∀ b ∈ fp, H' b = none
  ext : Ext H4 H'
  has : ∀ b ∈ ps, ∃ o, s.heap.get? b = some o
def gP (XB : Cx) (σw : St) (ps : List Addr) (H4 : Hp) (n : Nat) (s₀ s₁ : Shared) : Prop := n = 0 ∧ KpA ps s₀ s₁ ∧ ∃ H', Inv XB (pinsAt ps s₀.heap) σw H' s₁ ∧ Ext H4 H'
def gY (XB : Cx) (σw : St) (tn : Nat → Heap → Prop) (fp ps : List Addr) (H4 : Hp) (p : Nat → Bool) (n : Nat) (f : Nat → V) : Protocol := fun m s₀ v s kap =>
  ∃ i H', (passing p n 0)[(passing p n 0).length - 1 - m]? = some i ∧ (passing p n (i + 1)).length = m ∧ RelV (f i) v ∧ Inv XB (pinsAt ps s₀.heap) σw H' s ∧ tn (i + 1) s.heap ∧ (∀ b ∈ fp, H' b = none) ∧ Ext H4 H' ∧ KpA ps s₀ s ∧
    (∀ b ∈ ps, ∃ o, s₀.heap.get? b = some o) ∧ ∀ s'' H'', GOk XB σw tn fp ps H4 (i + 1) H'' s'' → kap (.send .none) s''

section
variable {X : Cx}
theorem kpA_of {ps : List Addr} {s₀ s : Shared} {σ : St} {H : Hp} (I : Inv X (pinsAt ps s₀.heap) σ H s) : KpA ps s₀ s := fun b hb o e => (I.pin (b, o) (List.mem_append_right _ (mem_pinsAt hb e))).1
theorem repin {ps : List Addr} {s₀ s : Shared} {σ : St} {H : Hp} (I : Inv X (pinsAt ps s₀.heap) σ H s) (hx : ∀ b ∈ ps, ∃ o, s₀.heap.get? b = some o) : Inv X (pinsAt ps s.heap) σ H s :=
  I.pins_of fun q hq => by
    obtain ⟨hb, e⟩ := of_pinsAt hq
    obtain ⟨o, ho⟩ := hx q.1 hb
    have z := I.pin (q.1, o) (List.mem_append_right _ (mem_pinsAt hb ho))
    have e' : o = q.2 := Option.some.inj (z.1.symm.trans e)
    subst e'
    exact z

theorem gen_seg {elt tg iter : Expr} {ifs : List Expr} {scope : Scope} {pos : Pos} {it : Addr} {cenv : Env} {A1 : Around} {fp ps : List Addr} {tn : Nat → Heap → Prop} {J : It} {g : TG} {tt : TT} {te : TE} {σw : St} {vs : List Nat} {p : Nat → Bool} {n : Nat} {f : Nat → V} {H4 : Hp} {s4 : Shared}
    (hh : A1.handled = none) (T : Turn X.prog X.w X.K tg J fp it tn)
    (pg : PG (X.gen s4 H4 cenv fp (A1.over (.compLoop (.GeneratorExp elt [⟨tg, iter, ifs, 0⟩] scope pos) 0 (.ref it) .none cenv) [])) tg g)
    (pt : PTs (X.gen s4 H4 cenv fp (A1.over (.compLoop (.GeneratorExp elt [⟨tg, iter, ifs, 0⟩] scope pos) 0 (.ref it) .none cenv) [])) ifs tt)
    (pe : PE (X.gen s4 H4 cenv fp (A1.over (.compLoop (.GeneratorExp elt [⟨tg, iter, ifs, 0⟩] scope pos) 0 (.ref it) .none cenv) [])) elt te)
    (hco : cenv.scope.isCoroutine = false) (hps : ∀ b ∈ ps, b ∉ fp) (hw : wipe σw vs = σw)
    (rd : ∀ i H', i < n → Ext H4 H' → J.go i H' ∧ ∀ x H'', J.yld i H' x H'' → g x σw H'' fun σ2 H2 => wipe σ2 vs = σw ∧ tt σ2 H2 fun b H3 => b = p i ∧ if b = true then te σ2 H3 fun y H5 => y = f i ∧ Ext H4 H5 else Ext H4 H3)
    (hstop : ∀ H', Ext H4 H' → J.stop n H') :
    ∀ (k i : Nat) (s₀ s : Shared) (H' : Hp), n - i = k → i ≤ n → (∀ b ∈ ps, ∃ o, s₀.heap.get? b = some o) →
      Inv (X.gen s4 H4 cenv fp (A1.over (.compLoop (.GeneratorExp elt [⟨tg, iter, ifs, 0⟩] scope pos) 0 (.ref it) .none cenv) [])) (pinsAt ps s₀.heap) σw H' s → tn i s.heap → (∀ b ∈ fp, H' b = none) → Ext H4 H' →
      Seg (model X.prog X.w) A1 (fun n s₀ r s₁ => r = .ok .next ∧ gP (X.gen s4 H4 cenv fp (A1.over (.compLoop (.GeneratorExp elt [⟨tg, iter, ifs, 0⟩] scope pos) 0 (.ref it) .none cenv) [])) σw ps H4 n s₀ s₁)
        (gY (X.gen s4 H4 cenv fp (A1.over (.compLoop (.GeneratorExp elt [⟨tg, iter, ifs, 0⟩] scope pos) 0 (.ref it) .none cenv) [])) σw tn fp ps H4 p n f) (passing p n i).length s₀
        (.compLoop (.GeneratorExp elt [⟨tg, iter, ifs, 0⟩] scope pos) 0 (.ref it) .none cenv)
        ((model X.prog X.w).den (.compLoop (.GeneratorExp elt [⟨tg, iter, ifs, 0⟩] scope pos) 0 (.ref it) .none cenv)) [] s := by
  generalize hXB : X.gen s4 H4 cenv fp (A1.over (.compLoop (.GeneratorExp elt [⟨tg, iter, ifs, 0⟩] scope pos) 0 (.ref it) .none cenv) []) = XB at pg pt pe ⊢
  have eA : XB.A = A1.over (.compLoop (.GeneratorExp elt [⟨tg, iter, ifs, 0⟩] scope pos) 0 (.ref it) .none cenv) [] := by rw [← hXB]
  have eP : XB.prog = X.prog := by rw [← hXB]
  have eW : XB.w = X.w := by rw [← hXB]
  have eK : XB.K = X.K := by rw [← hXB]
  have eE : XB.env = cenv := by rw [← hXB]
  have eX : XB.xe = fun _ _ => False := by rw [← hXB]
  have eN : XB.pn = [] := by rw [← hXB]
  have eC : XB.calm = true := by rw [← hXB]
  have eXx : XB.ex = fp := by rw [← hXB]
  have stat : ∀ {pins : List (Addr × Obj)} {σ' : St} {H' : Hp} {s' : Shared}, Inv XB pins σ' H' s' → (∀ q ∈ pins, q.1 ∉ fp) → (∀ b ∈ fp, H' b = none) → ∀ b ∈ fp, FpOk XB pins H' b := fun {pins σ' H' s'} I' hq hn b hb =>
    ⟨hn b hb, (I'.ok.exf b (eXx ▸ hb)).1, I'.ok.exfs b (eXx ▸ hb), .inl (eXx ▸ hb), fun x c e => (I'.ok.exf b (eXx ▸ hb)).2 x c e, fun q hq' => by
      rw [eN] at hq'
      exact fun z => hq q (by simpa using hq') (z ▸ hb)⟩
  have pinq : ∀ {h : Heap}, ∀ q ∈ pinsAt ps h, q.1 ∉ fp := fun {h} q hq => hps q.1 (of_pinsAt hq).1
  intro k
  induction k with
  | zero =>
    intro i s₀ s H' hk hi hx I st hn ext
    have hin : i = n := by omega
    subst hin
    show Seg _ A1 _ _ _ s₀ _ ((compTurn (.GeneratorExp elt [⟨tg, iter, ifs, 0⟩] scope pos) 0 (.ref it) .none cenv).onRaise (leaving cenv)) [] s
    rw [compTurn_gen, Sem.onRaise_eq_wrap]
    refine seg_bind_wrap (wpAny_standAt ?_)
    have td := T.done XB eP eW eK eC i _ s _ H' (fun _ _ => False) I (stat I pinq hn) st (hstop H' ext)
    rw [eA] at td
    refine seg_bind_wrap (thnF td fun r s6 ⟨hr, I6⟩ => ?_)
    subst hr
    exact seg_end (.ok .next) ⟨rfl, by rw [passing_end]; rfl, kpA_of I6, H', I6, ext⟩
  | succ k ih =>
    intro i s₀ s H' hk hi hx I st hn ext
    have hlt : i < n := by omega
    obtain ⟨go, step⟩ := rd i H' hlt ext
    show Seg _ A1 _ _ _ s₀ _ ((compTurn (.GeneratorExp elt [⟨tg, iter, ifs, 0⟩] scope pos) 0 (.ref it) .none cenv).onRaise (leaving cenv)) [] s
    rw [compTurn_gen, Sem.onRaise_eq_wrap]
    refine seg_bind_wrap (wpAny_standAt ?_)
    have ti := T.item XB eP eW eK eC i _ s _ H' (fun _ _ => False) I (stat I pinq hn) st go
    rw [eA] at ti
    refine seg_bind_wrap (thnF ti fun r s6 ⟨u, hr, h6⟩ => ?_)
    subst hr
    refine seg_bind_wrap (thnF h6 fun _ s7 ⟨x, H7, I7, r7, y7, st7, n7⟩ => ?_)
    have I7' := I7.pinned (stat I7 pinq n7) (T.obj _ _ st7)
    have p1 := pg _ s7 _ H7 x u _ I7' r7 (step x H7 y7)
    rw [eP, eW, eA, eE, eX] at p1
    refine seg_bind_wrap (thnF p1 fun _ s8 ⟨σ8, H8, I8, hw8, q8⟩ => ?_)
    have p2 := pt _ s8 σ8 H8 _ I8 q8
    rw [eP, eW, eA, eE, eX] at p2
    refine seg_bind_wrap (thnF p2 fun b s9 ⟨H9, I9, hb, q9⟩ => ?_)
    -- the turn's end
    have fin : ∀ {s' : Shared} {Hz : Hp}, Inv XB (pinsAt ps s₀.heap ++ pinsAt fp s7.heap) σ8 Hz s' → Inv XB (pinsAt ps s₀.heap) σw Hz s' ∧ tn (i + 1) s'.heap ∧ ∀ b ∈ fp, Hz b = none := fun {s' Hz} I' => by
      have pin' : ∀ b ∈ fp, ∀ o, s7.heap.get? b = some o → s'.heap.get? b = some o ∧ Hz b = none := fun b hb o e =>
        let z := I'.pin (b, o) (List.mem_append_right _ (List.mem_append_right _ (mem_pinsAt hb e)))
        ⟨z.1, z.2.1⟩
      have hl : σw.length = σ8.length := by rw [← hw8, wipe_length]
      refine ⟨(I'.unpinned (pins := pinsAt ps s₀.heap)).weak hl (fun j v e => ?_), T.keep _ _ _ st7 fun b hb o e => (pin' b hb o e).1, fun b hb => ?_⟩
      · rw [← hw8] at e
        exact (wipe_some e).1
      · obtain ⟨o, e, _⟩ := T.obj _ _ st7 b hb
        exact (pin' b hb o e).2
    subst hb
    cases hpz : p i with
    | false =>
      rw [hpz] at q9
      simp only [Bool.false_eq_true, if_false] at q9
      obtain ⟨I10, st10, n10⟩ := fin I9
      rw [passing_false hlt hpz]
      simp only [Bool.false_eq_true, if_false]
      exact seg_again rfl (ih (i + 1) s₀ _ H9 (by omega) hlt hx I10 st10 n10 q9)
    | true =>
      rw [hpz] at q9
      simp only [if_true] at q9
      rw [passing_true hlt hpz, List.length_cons]
      simp only [if_true]
      have hy : ∀ v, yieldOut cenv v = yieldValue v := fun v => by simp only [yieldOut, hco, Bool.false_eq_true, if_false]
      simp only [hy]
      rw [Sem.bind_eq_wrap', Sem.bind_eq_wrap', Sem.wrap_wrap, Sem.wrap_wrap]
      have p3 := pe _ s9 σ8 H9 _ I9 q9
      rw [eP, eW, eA, eE, eX] at p3
      refine seg_wrap (thnF p3 fun y s10 ⟨yv, H10, I10, r10, ey, ext10⟩ => ?_)
      subst ey
      obtain ⟨I11, st11, n11⟩ := fin I10
      refine seg_at (seg_yield rfl rfl rfl ⟨i, H10, passing_here hlt hpz, rfl, r10, I11, st11, n11, ext10, kpA_of I11, hx, fun s'' H'' G => ?_⟩)
      refine seg_again rfl (ih (i + 1) s'' s'' H'' (by omega) hlt G.has G.inv G.turn G.non G.ext)
end
end L2

end
section
set_option linter.all false
set_option maxRecDepth 100000
namespace L2
open PySem PySem.Spec PyProof.Rows

abbrev Cx.gxb (X : Cx) (s4 : Shared) (H4 : Hp) (cenv : Env) (fp : List Addr) (A1 : Around) (G : Expr) (it : Addr) : Cx := X.gen s4 H4 cenv fp (A1.over (.compLoop G 0 (.ref it) .none cenv) [])

section
variable {X : Cx}
theorem gen_seg0 {elt tg iter : Expr} {ifs : List Expr} {scope : Scope} {pos : Pos} {it : Addr} {cenv : Env} {A1 : Around} {fp ps : List Addr} {tn : Nat → Heap → Prop} {J : It} {g : TG} {tt : TT} {te : TE} {σw : St} {vs : List Nat} {p : Nat → Bool} {n : Nat} {f : Nat → V} {H4 : Hp} {s4 : Shared}
    (hh : A1.handled = none) (T : Turn X.prog X.w X.K tg J fp it tn)
    (pg : PG (X.gxb s4 H4 cenv fp A1 (.GeneratorExp elt [⟨tg, iter, ifs, 0⟩] scope pos) it) tg g) (pt : PTs (X.gxb s4 H4 cenv fp A1 (.GeneratorExp elt [⟨tg, iter, ifs, 0⟩] scope pos) it) ifs tt)
    (pe : PE (X.gxb s4 H4 cenv fp A1 (.GeneratorExp elt [⟨tg, iter, ifs, 0⟩] scope pos) it) elt te)
    (hco : cenv.scope.isCoroutine = false) (hps : ∀ b ∈ ps, b ∉ fp) (hw : wipe σw vs = σw)
    (rd : ∀ i H', i < n → Ext H4 H' → J.go i H' ∧ ∀ x H'', J.yld i H' x H'' → g x σw H'' fun σ2 H2 => wipe σ2 vs = σw ∧ tt σ2 H2 fun b H3 => b = p i ∧ if b = true then te σ2 H3 fun y H5 => y = f i ∧ Ext H4 H5 else Ext H4 H3)
    (hstop : ∀ H', Ext H4 H' → J.stop n H') (s : Shared) (H' : Hp) (G : GOk (X.gxb s4 H4 cenv fp A1 (.GeneratorExp elt [⟨tg, iter, ifs, 0⟩] scope pos) it) σw tn fp ps H4 0 H' s) :
      Seg (model X.prog X.w) A1 (fun n s₀ r s₁ => r = .ok .next ∧ gP (X.gxb s4 H4 cenv fp A1 (.GeneratorExp elt [⟨tg, iter, ifs, 0⟩] scope pos) it) σw ps H4 n s₀ s₁)
        (gY (X.gxb s4 H4 cenv fp A1 (.GeneratorExp elt [⟨tg, iter, ifs, 0⟩] scope pos) it) σw tn fp ps H4 p n f) (passing p n 0).length s
        (.compStart (.GeneratorExp elt [⟨tg, iter, ifs, 0⟩] scope pos) 0 (.ref it) .none cenv)
        ((model X.prog X.w).den (.compStart (.GeneratorExp elt [⟨tg, iter, ifs, 0⟩] scope pos) 0 (.ref it) .none cenv)) [] s := by
  have loop := gen_seg hh T pg pt pe hco hps hw rd hstop n 0 s s H' (Nat.sub_zero _) (Nat.zero_le _) G.has G.inv G.turn G.non G.ext
  show Seg _ A1 _ _ _ s _ ((compStart (.GeneratorExp elt [⟨tg, iter, ifs, 0⟩] scope pos) 0 (.ref it) .none cenv).onRaise (leaving cenv)) [] s
  unfold compStart
  rw [Sem.onRaise_eq_wrap]
  show Seg _ A1 _ _ _ s _ ((ask >>= _).wrap _ _ _ _) [] s
  refine seg_bind_wrap (wpAny_askSetting ?_)
  split
  · exact seg_again rfl loop
  · first
      | exact seg_bind_wrap (wpAny_rule (seg_bind_wrap (wpAny_standAt (seg_bind_wrap (T.self _ 0 s _ _ G.turn (seg_again rfl loop))))))
      | (refine seg_bind_wrap (wpAny_rule ?_); show Seg _ A1 _ _ _ s _ ((standAt iter.pos >>= _).wrap _ _ _ _) [] s; exact seg_bind_wrap (wpAny_standAt (seg_bind_wrap (T.self _ 0 s _ _ G.turn (seg_again rfl loop)))))
end

theorem bare_set {gens : Array GenState} {g : Nat} {x : GenState} (h : AllBare gens) (hx : x.bare = true) : AllBare (gens.setIfInBounds g x) := fun y hy => by
  rcases Array.mem_or_eq_of_mem_setIfInBounds hy with h1 | h1
  · exact h y h1
  · rw [h1]; exact hx
theorem gens_set {s : Shared} {g : Nat} {x : GenState} {a : Array GenState} (h : GensOk a s.gens) (hx : x.bare = true) : GensOk a (s.setGen g x).gens :=
  ⟨bare_set h.bare hx, by show a.size ≤ (s.gens.setIfInBounds g x).size; rw [Array.size_setIfInBounds]; exact h.size⟩
end L2

end
section
set_option linter.all false
set_option maxRecDepth 100000
namespace L2
open PySem PySem.Spec PyProof.Rows

/-- the generator at a stands ahead of its j-th item -/
def CAt (XB : Cx) (σw : St) (tn : Nat → Heap → Prop) (fp ps : List Addr) (H4 : Hp) (p : Nat → Bool) (n : Nat) (f : Nat → V) (A1 : Around) (a : Addr) (gi : Nat) (j : Nat) (s : Shared) : Prop :=
  ∃ i H' gs, (passing p n i).length = (passing p n 0).length - j ∧ GOk XB σw tn fp ps H4 i H' s ∧ s.heap.IsGen a gi ∧ s.gens[gi]? = some gs ∧
    ∀ s'' H'', GOk XB σw tn fp ps H4 i H'' s'' → gs.Goes (model XB.prog XB.w) A1 (fun n s₀ r s₁ => r = .ok .next ∧ gP XB σw ps H4 n s₀ s₁) (gY XB σw tn fp ps H4 p n f) ((passing p n 0).length - j) (.send .none) s''

section
variable {XB : Cx} {σw : St} {tn : Nat → Heap → Prop} {fp ps : List Addr} {H4 : Hp} {p : Nat → Bool} {n : Nat} {f : Nat → V} {a : Addr} {gi : Nat} {A0 : Around} {s : Shared}
theorem GOk.gens {i : Nat} {H' : Hp} {g' : Array GenState} (G : GOk XB σw tn fp ps H4 i H' s) (hg : GensOk XB.s_0.gens g') : GOk XB σw tn fp ps H4 i H' { s with gens := g' } :=
  ⟨G.inv.gens hg, G.turn, G.non, G.ext, G.has⟩
theorem KpA.isGen {s₀ : Shared} (k : KpA ps s₀ s) (ha : a ∈ ps) (hg : s₀.heap.IsGen a gi) : s.heap.IsGen a gi := let ⟨o, nm, qn, ho, r⟩ := hg; ⟨o, nm, qn, k a ha o ho, r⟩
theorem getGen {gens : Array GenState} {x : GenState} (h : gi < gens.size) : (gens.setIfInBounds gi x)[gi]? = some x := by
  simp [h]
theorem gen_item {j : Nat} (c : CAt XB σw tn fp ps H4 p n f A0.in1 a gi j s) (hj : j < (passing p n 0).length) (ha : a ∈ ps) (hh : A0.handled = none) (hroom : A0.depth < recursionLimit) (hgi : gi < XB.s_0.gens.size) :
    wpAny (model XB.prog XB.w) A0 (pyNext (.ref a)) (fun r s' => ∃ i v, r = some v ∧ (passing p n 0)[j]? = some i ∧ RelV (f i) v ∧ CAt XB σw tn fp ps H4 p n f A0.in1 a gi (j + 1) s' ∧ KpA ps s s') (fun _ _ => False) s := by
  obtain ⟨i, H', gs, hl, G, hg, hgs, hgo⟩ := c
  obtain ⟨m, hm⟩ : ∃ m, (passing p n 0).length - j = m + 1 := ⟨(passing p n 0).length - j - 1, by omega⟩
  rw [hm] at hgo
  have G1 := G.gens (gens_set (g := gi) (x := .running) G.inv.bare rfl)
  refine wpAny_pyNext_genexpQ (P := gP XB σw ps H4) hh G.inv.nolimit hroom hg hgs (hgo _ H' G1) (fun v s₁ gs' hb hv => ?_) (fun s₁ hp h' hk => ?_)
  · obtain ⟨i', H1, e1, e2, rv, I1, st1, n1, x1, k1, has, kap⟩ := hv
    have hidx : (passing p n 0).length - 1 - (m + 1 - 1) = j := by omega
    rw [hidx] at e1
    have hgi' : gi < s₁.gens.size := Nat.lt_of_lt_of_le hgi I1.bare.size
    refine ⟨i', v, rfl, e1, rv, ⟨i' + 1, H1, gs', by omega, ⟨(repin I1 has).gens (gens_set I1.bare hb), st1, n1, x1, fun b hb => ?_⟩, k1.isGen ha hg, getGen hgi', fun s'' H'' G2 => ?_⟩, fun b hb o e => k1 b hb o e⟩
    · obtain ⟨o, e⟩ := has b hb
      exact ⟨o, k1 b hb o e⟩
    · have e : (passing p n 0).length - (j + 1) = m := by omega
      rw [e]
      exact kap s'' H'' G2
  · exact absurd hp.1 (Nat.succ_ne_zero m)
theorem gen_done (c : CAt XB σw tn fp ps H4 p n f A0.in1 a gi (passing p n 0).length s) (ha : a ∈ ps) (hh : A0.handled = none) (hroom : A0.depth < recursionLimit) (hgi : gi < XB.s_0.gens.size) :
    wpAny (model XB.prog XB.w) A0 (pyNext (.ref a)) (fun r s' => r = none ∧ (∃ H', Inv XB [] σw H' s' ∧ Ext H4 H') ∧ KpA ps s s') (fun _ _ => False) s := by
  obtain ⟨i, H', gs, hl, G, hg, hgs, hgo⟩ := c
  rw [Nat.sub_self] at hgo
  have G1 := G.gens (gens_set (g := gi) (x := .running) G.inv.bare rfl)
  refine wpAny_pyNext_genexpQ (P := gP XB σw ps H4) hh G.inv.nolimit hroom hg hgs (hgo _ H' G1) (fun v s₁ gs' hb hv => ?_) (fun s₁ hp h' hk => ?_)
  · obtain ⟨i', H1, e1, e2, rv, I1, st1, n1, x1, k1, has, kap⟩ := hv
    refine False.elim (kap s₁ H1 ⟨repin I1 has, st1, n1, x1, fun b hb => ?_⟩)
    obtain ⟨o, e⟩ := has b hb
    exact ⟨o, k1 b hb o e⟩
  · obtain ⟨_, k1, H1, I1, x1⟩ := hp
    refine ⟨rfl, ⟨H1, ?_, x1⟩, fun b hb o e => hk b o (k1 b hb o e)⟩
    have I2 : Inv XB (pinsAt ps (s.setGen gi .running).heap) σw H1 { s₁ with heap := h', toks := s₁.toks } := I1.kept (t' := s₁.toks) hk
    exact (I2.pins_of (pins' := []) fun q hq => absurd hq (by simp)).gens (gens_set (s := s₁) I1.bare rfl)
theorem CAt.post {A1 : Around} {j : Nat} (c : CAt XB σw tn fp ps H4 p n f A1 a gi j s) : ∃ H', Inv XB [] σw H' s ∧ Ext H4 H' := by
  obtain ⟨i, H', gs, hl, G, _⟩ := c
  exact ⟨H', G.inv.pins_of (pins' := []) fun q hq => absurd hq (by simp), G.ext⟩
end

/-! ### the consumers' loops -/
section
variable {prog : Program} {w : World} {A : Around} {R : Result → Shared → Prop} {I : Addr} {CI : Nat → Shared → Prop} {Post : Shared → Prop} {tr : Nat → Bool} {n : Nat}
theorem all_loopG (item : ∀ j s, j < n → CI j s → wpAny (model prog w) A.in1 (pyNext (.ref I)) (fun r s' => r = some (.bool (tr j)) ∧ CI (j + 1) s') (fun _ _ => False) s)
    (done : ∀ s, CI n s → wpAny (model prog w) A.in1 (pyNext (.ref I)) (fun r s' => r = none ∧ Post s') (fun _ _ => False) s) (fin : ∀ j s, CI j s → Post s) :
    ∀ (k i : Nat) (s : Shared), n - i = k → i ≤ n → CI i s → (∀ s', Post s' → R (.ok (.ret (.bool (((List.range n).drop i).all tr)))) s') → codeAny (model prog w) A (.builtin "all.loop" ⟨[.ref I], []⟩) R s := by
  intro k
  induction k with
  | zero =>
    intro i s hk hi hst hR
    have hin : i = n := by omega
    subst hin
    refine codeAny_builtin F.entry_all_loop ?_
    rw [Around.under_plainId F.plain_all_loop _]
    show wpAny _ A.in1 (pyNext (.ref I) >>= _) _ _ s
    refine wpAny_bind (thnF (done s hst) fun r s' ⟨hr, hp⟩ => ?_)
    subst hr
    refine wpAny_bind (wpAny_rule (wpAny_pure ?_))
    have := hR s' hp
    rw [List.drop_of_length_le (by simp)] at this
    exact this
  | succ k ih =>
    intro i s hk hi hst hR
    have hlt : i < n := by omega
    have hd : (List.range n).drop i = i :: (List.range n).drop (i + 1) := by
      rw [List.drop_eq_getElem_cons (by simpa using hlt)]; simp
    refine codeAny_builtin F.entry_all_loop ?_
    rw [Around.under_plainId F.plain_all_loop _]
    show wpAny _ A.in1 (pyNext (.ref I) >>= _) _ _ s
    refine wpAny_bind (thnF (item i s hlt hst) fun r s' ⟨hr, hst'⟩ => ?_)
    subst hr
    refine wpAny_bind (wpAny_holding (wpAny_truthy_bool ?_))
    refine wpAny_bind (wpAny_letGo ?_)
    cases hb : tr i with
    | true =>
      simp only [if_true]
      refine wpAny_pure ⟨plainId_quiet F.plain_all_loop _, ih (i + 1) _ (by omega) hlt hst' fun s'' hm' => ?_⟩
      have := hR s'' hm'
      rw [hd, List.all_cons, hb, Bool.true_and] at this
      exact this
    | false =>
      simp only [Bool.false_eq_true, if_false]
      refine wpAny_bind (wpAny_rule (wpAny_pure ?_))
      have := hR s' (fin _ _ hst')
      rw [hd, List.all_cons, hb, Bool.false_and] at this
      exact this
end
end L2

end
section
set_option linter.all false
set_option maxRecDepth 100000
namespace L2
open PySem PySem.Spec PyProof.Rows

/-- (elt for tg in iter if ..), its values handed to k; P the table of the def's code -/
def tGen (wi : TI) (g : TG) (tt : TT) (te : TE) (vs : List Nat) (P : Addr) (k : List V → Hp → VK → Prop) : TE := fun σ H Q => wi σ H fun J H1 => H1 P = some (TblO P) ∧ ∃ (n : Nat) (p : Nat → Bool) (f : Nat → V),
  (∀ i H', i < n → Ext H1 H' → J.go i H' ∧ ∀ x H'', J.yld i H' x H'' → g x (wipe σ vs) H'' fun σ2 H2 => wipe σ2 vs = wipe σ vs ∧ tt σ2 H2 fun b H3 => b = p i ∧ if b = true then te σ2 H3 fun y H5 => y = f i ∧ Ext H1 H5 else Ext H1 H3) ∧
  (∀ H', Ext H1 H' → J.stop n H') ∧ k ((passing p n 0).map f) H1 Q
def kAll : List V → Hp → VK → Prop := fun vals H1 Q => ∃ bs : List Bool, vals = bs.map V.bl ∧ ∀ H', Ext H1 H' → Q (.bl (bs.all id)) H'
theorem wipe_wipe {σ : St} : ∀ {vs : List Nat}, (∀ (i : Nat) (h : i ∈ vs), (σ[i]? = some none ∨ σ[i]? = none)) → wipe σ vs = σ
  | [], _ => rfl
  | v :: vs, h => by
    unfold wipe
    rw [wipe_wipe fun i hi => h i (List.mem_cons_of_mem _ hi)]
    rcases h v List.mem_cons_self with e | e
    · apply List.ext_getElem?
      intro j
      by_cases hj : v = j
      · subst hj
        by_cases hl : v < σ.length
        · rw [List.getElem?_set_self hl, e]
        · rw [List.getElem?_eq_none (by simpa using hl)] at e; cases e
      · rw [List.getElem?_set_ne hj]
    · have hl : σ.length ≤ v := List.getElem?_eq_none_iff.mp e
      apply List.ext_getElem?
      intro j
      by_cases hj : v = j
      · subst hj
        rw [List.getElem?_eq_none (by simpa using hl), List.getElem?_eq_none hl]
      · rw [List.getElem?_set_ne hj]
theorem wipe_none {σ : St} : ∀ {vs : List Nat} {i : Nat}, i ∈ vs → (wipe σ vs)[i]? = some none ∨ (wipe σ vs)[i]? = none
  | [], _, h => by cases h
  | v :: vs, i, h => by
    unfold wipe
    by_cases hv : v = i
    · subst hv
      by_cases hl : v < (wipe σ vs).length
      · exact .inl (List.getElem?_set_self hl)
      · exact .inr (List.getElem?_eq_none (by simpa using hl))
    · rw [List.getElem?_set_ne hv]
      rcases List.mem_cons.mp h with e | e
      · exact absurd e.symm hv
      · exact wipe_none e
theorem wipe_idem {σ : St} {vs : List Nat} : wipe (wipe σ vs) vs = wipe σ vs := wipe_wipe fun _ h => wipe_none h

section
variable {X : Cx} {pins : List (Addr × Obj)} {σ : St} {H : Hp} {s : Shared}
/-- the generator is made -/
theorem gen_core {elt tg iter : Expr} {ifs : List Expr} {scope : Scope} {own : List (Str × Nat)} {pos : Pos} {wi : TI} {g : TG} {tt : TT} {te : TE} {P : Addr} {k : Nat} {kk : List V → Hp → VK → Prop} {Q : VK} {Qf : Value → Shared → Prop}
    (hN : X.N.Nodup) (I : Inv X pins σ H s) (hi : PI X tg iter wi) (ok : BlkOk X.N X.env.scope scope own) (nc : ∀ y ∈ scope.names, y.2 ≠ .cell) (h0 : scope.names.lookup (".0" : Str) = some NameKind.local) (hco : scope.isCoroutine = false)
    (hT : TabOf X.base X.env.code P) (hr : Room (k + 1) X.A)
    (hg : ∀ (s : Shared) (H : Hp) (C : Addr) (cl : List (Str × Addr)) (cd : Value) (fp : List Addr) (A' : Around), Room k A' → PG (X.gen s H (genEnv scope cl C cd builtinsNs X.env) fp A') tg g)
    (ht : ∀ (s : Shared) (H : Hp) (C : Addr) (cl : List (Str × Addr)) (cd : Value) (fp : List Addr) (A' : Around), Room k A' → PTs (X.gen s H (genEnv scope cl C cd builtinsNs X.env) fp A') ifs tt)
    (he : ∀ (s : Shared) (H : Hp) (C : Addr) (cl : List (Str × Addr)) (cd : Value) (fp : List Addr) (A' : Around), Room k A' → PE (X.gen s H (genEnv scope cl C cd builtinsNs X.env) fp A') elt te)
    (hs : ∀ x, genFold iter X.env x = pure x) (h : tGen wi g tt te (own.map (·.2)) P kk σ H Q)
    (use : ∀ (s4 : Shared) (H1 : Hp) (cenv : Env) (fp : List Addr) (it : Addr) (tn : Nat → Heap → Prop) (n : Nat) (p : Nat → Bool) (f : Nat → V) (a gi : Nat) (s5 : Shared), Inv X pins σ H1 s4 → (∀ b ∈ fp, FpOk X pins H1 b) → (∀ b ∈ fp, b < s4.heap.objs.size) → gi < s4.gens.size →
      Inv (X.gxb s4 H1 cenv fp X.A.in1.in1 (.GeneratorExp elt [⟨tg, iter, ifs, 0⟩] scope pos) it) [] (wipe σ (own.map (·.2))) H1 s5 → tn 0 s5.heap → (∀ i h h', tn i h → (∀ b ∈ fp, ∀ o, h.get? b = some o → h'.get? b = some o) → tn i h') → (∀ b ∈ fp, H1 b = none) → s5.heap.IsGen a gi → s4.heap.objs.size < a → a < s5.heap.objs.size → cenv.locals = s4.heap.objs.size →
      s5.gens[gi]? = some (.fresh (.compStart (.GeneratorExp elt [⟨tg, iter, ifs, 0⟩] scope pos) 0 (.ref it) .none cenv)) →
      (∀ ps, (∀ b ∈ ps, b ∉ fp) → ∀ s'' H'', GOk (X.gxb s4 H1 cenv fp X.A.in1.in1 (.GeneratorExp elt [⟨tg, iter, ifs, 0⟩] scope pos) it) (wipe σ (own.map (·.2))) tn fp ps H1 0 H'' s'' →
        (GenState.fresh (.compStart (.GeneratorExp elt [⟨tg, iter, ifs, 0⟩] scope pos) 0 (.ref it) .none cenv)).Goes (model X.prog X.w) X.A.in1.in1 (fun n s₀ r s₁ => r = .ok .next ∧ gP (X.gxb s4 H1 cenv fp X.A.in1.in1 (.GeneratorExp elt [⟨tg, iter, ifs, 0⟩] scope pos) it) (wipe σ (own.map (·.2))) ps H1 n s₀ s₁)
          (gY (X.gxb s4 H1 cenv fp X.A.in1.in1 (.GeneratorExp elt [⟨tg, iter, ifs, 0⟩] scope pos) it) (wipe σ (own.map (·.2))) tn fp ps H1 p n f) (passing p n 0).length (.send .none) s'') →
      kk ((passing p n 0).map f) H1 Q → Qf (.ref a) s5) :
    wpAny (model X.prog X.w) X.A (eval (.GeneratorExp elt [⟨tg, iter, ifs, 0⟩] scope pos) X.env) Qf X.xe s := by
  have hfree : ∀ y ∈ scope.names, y.2 = .free → ∃ c, X.env.cells.lookup y.1 = some c := fun y hy e => by
    rcases ok.free y hy e with k | k
    · exact I.ok.has _ (.inl k)
    · exact I.ok.has _ (.inr k)
  refine wpAny_GeneratorExp_make hco (closure_ok hfree) nc h0 ok.kind hr.depth (thn (hi pins s σ H _ I h) fun xv s1 hx => thn hx fun itv s2 h2 => ?_) hs
  obtain ⟨it, fp, tn, J, H2, e, I2, T, st2, f2, hP, n, p, f, rd, hstop, hk⟩ := h2
  subst e
  refine ⟨I2.nolimit, gen_code I2 hT hP fun code s3 I3 k3 => ?_⟩
  obtain ⟨bm, ob, b1, b2, b3, b4, b5, b6⟩ := I3.mod.bm
  refine wpAny_builtinsFor (by rw [I3.ok.glob]; exact I3.mod.glob.keeps I3.bk) b1 b2 (I3.bk _ _ b3) b4 b5 b6 ?_
  intro h' hn' hs'
  have sz : ∀ b ∈ fp, b ≠ P ∧ b < s3.heap.objs.size := fun b hb => by
    obtain ⟨o, e, _⟩ := T.obj _ _ st2 b hb
    have ne : b ≠ P := fun z => by have := (f2 b hb).1; rw [z, hP] at this; cases this
    exact ⟨ne, Heap.lt_size (k3 b o ne e)⟩
  have st3 : tn 0 s3.heap := T.keep _ _ _ st2 fun b hb o e => k3 b o (sz b hb).1 e
  generalize hfr : GenState.fresh (.compStart (.GeneratorExp elt [⟨tg, iter, ifs, 0⟩] scope pos) 0 (.ref it) .none (genEnv scope (cloFrom X.env.cells scope.names []) s3.heap.objs.size code builtinsNs X.env)) = fr
  have frb : fr.bare = true := by rw [← hfr]; rfl
  have pok : GensOk s3.gens (s3.gens.push fr) := ⟨I3.bare.bare.push frb, by rw [Array.size_push]; exact Nat.le_succ _⟩
  generalize hs4 : ({ s3 with gens := s3.gens.push fr } : Shared) = s4
  have h4 : s4.heap = s3.heap := by rw [← hs4]
  have g4 : s4.gens = s3.gens.push fr := by rw [← hs4]
  have I4 : Inv X pins σ H2 s4 := by rw [← hs4]; exact I3.gens (I3.bare.trans pok)
  generalize hcenv : genEnv scope (cloFrom X.env.cells scope.names []) s3.heap.objs.size code builtinsNs X.env = cenv at hfr
  have hcd : ∃ cl C cd, cenv = genEnv scope cl C cd builtinsNs X.env := ⟨_, _, _, hcenv.symm⟩
  have hh : X.A.in1.in1.handled = none := hr.hd
  generalize hG : Expr.GeneratorExp elt [⟨tg, iter, ifs, 0⟩] scope pos = G
  have room : Room k (X.A.in1.in1.over (.compLoop G 0 (.ref it) .none cenv) []) := by
    rw [← hG]
    refine ⟨hh, ?_, ?_, hr.gd⟩
    · have e : (X.A.in1.in1.over (.compLoop (.GeneratorExp elt [⟨tg, iter, ifs, 0⟩] scope pos) 0 (.ref it) .none cenv) []).depth = X.A.depth + 1 := rfl
      rw [e]; have := hr.dp; omega
    · have e : (X.A.in1.in1.over (.compLoop (.GeneratorExp elt [⟨tg, iter, ifs, 0⟩] scope pos) 0 (.ref it) .none cenv) []).units = X.A.units + 1 + 1 + 3 := rfl
      rw [e]; have := hr.un; omega
  have frm : (X.A.in1.in1.over (.compLoop G 0 (.ref it) .none cenv) []).frames = some (cenv :: X.stack) := by
    rw [← hG]
    show (X.A.frames).map (cenv :: ·) = _
    rw [I3.ok.frames]; rfl
  have fp4 : ∀ b ∈ fp, FpOk X pins H2 b ∧ b < s4.heap.objs.size := fun b hb => ⟨f2 b hb, by rw [h4]; exact (sz b hb).2⟩
  have start := gen_start (A' := X.A.in1.in1.over (.compLoop G 0 (.ref it) .none cenv) []) (code := code) (h' := h') (g' := s4.gens) (tk := s3.toks + 1 + 1 + 1)
    (og := { cls := .type "generator", data := .fields #[.int s3.gens.size 0, .str "<genexpr>" (s3.toks + 1), .str (X.env.qual ++ "<genexpr>") (s3.toks + 1 + 1)] }) I4 ok hN nc fp4 room.hd (by rw [h4, hcenv]; exact frm) (by rw [h4]; exact hn') (by rw [h4]; exact hs') I4.bare.self
  rw [h4, hcenv] at start
  have hsz : h'.objs.size = s3.heap.objs.size + 1 := by rw [hs'.1, Heap.size_push]
  have kp : ∀ b o, s3.heap.get? b = some o → (h'.push { cls := .type "generator", data := .fields #[.int s3.gens.size 0, .str "<genexpr>" (s3.toks + 1), .str (X.env.qual ++ "<genexpr>") (s3.toks + 1 + 1)] }).get? b = some o := fun b o e =>
    Heap.get?_push_of_some _ (hs'.extBut b o (Nat.ne_of_lt (Heap.lt_size e)) (Heap.get?_push_of_some _ e))
  have es5 : ({ s4 with heap := h'.push { cls := .type "generator", data := .fields #[.int s3.gens.size 0, .str "<genexpr>" (s3.toks + 1), .str (X.env.qual ++ "<genexpr>") (s3.toks + 1 + 1)] }, gens := s4.gens, toks := s3.toks + 1 + 1 + 1 } : Shared) =
      { s3 with gens := s3.gens.push fr, toks := s3.toks + 1 + 1 + 1, heap := h'.push { cls := .type "generator", data := .fields #[.int s3.gens.size 0, .str "<genexpr>" (s3.toks + 1), .str (X.env.qual ++ "<genexpr>") (s3.toks + 1 + 1)] } } := by
    rw [← hs4]
  rw [es5] at start
  subst hG
  refine use s4 H2 cenv fp it tn n p f h'.objs.size s3.gens.size _ I4 f2 (fun b hb => (fp4 b hb).2) (by rw [g4, Array.size_push]; exact Nat.lt_succ_self _) start (T.keep _ _ _ st3 fun b _ o e => kp b o e) T.keep (fun b hb => (f2 b hb).1) ⟨_, _, _, Heap.get?_push_size _ rfl, rfl, rfl, rfl⟩
    (by rw [h4, hsz]; exact Nat.lt_succ_self _) (by show _ < (h'.push _).objs.size; rw [Heap.size_push]; exact Nat.lt_succ_self _) (by rw [h4, ← hcenv]; rfl) (by rw [hfr]; exact Array.getElem?_push_size ..) (fun ps hps s'' H'' G2 => ?_) hk
  obtain ⟨cl, C, cd, ec⟩ := hcd
  refine ⟨rfl, gen_seg0 (vs := own.map (·.2)) hh T ?_ ?_ ?_ (by rw [ec]; exact hco) hps wipe_idem rd hstop s'' H'' G2⟩
  · subst ec; exact hg _ _ _ _ _ _ _ room
  · subst ec; exact ht _ _ _ _ _ _ _ room
  · subst ec; exact he _ _ _ _ _ _ _ room
end
end L2

end
section
set_option linter.all false
set_option maxRecDepth 100000
/-! THE HEAD: the law's promise, at the heap behind the top; the tables of the defs that bear generator expressions are tracked -/
namespace L2
open PySem PySem.Spec PyProof.Rows

/-- each def of gn has its code's table among TB -/
def Tabs (gn : List Str) (mg : Str → Option Value) (base : Heap) (TB : List Addr) : Prop :=
  ∀ y ∈ gn, ∀ f o fd, mg y = some (.ref f) → base.get? f = some o → o.data = .func fd → ∃ P, P ∈ TB ∧ TabOf base fd.code P
theorem law_call {P : Program} {w : World} {K : PySem.W.Frag} {mg mb : Str → Option Value} {CX : CXT} {k : Nat} {fa a : Addr} {fd : FuncData} {x : Str} {sp : Sp} {s₁ : Shared} {vs : List Value} {ns : List Int} {TB : List Addr}
    (KX : K.In s₁.heap) (hns : s₁.heap.Ns mainGlobals mg) (hb : s₁.heap.Ns builtinsNs mb) (hbb : ∀ x : Str, x ≠ "__name__" → mb x = bootBuiltins x) (hlim : s₁.heap.NoLimit)
    (hbm : ∃ bm ob, mg "__builtins__" = some (.ref bm) ∧ bm ≠ builtinsNs ∧ s₁.heap.get? bm = some ob ∧ ob.cls = .type "module" ∧ ob.dict = some builtinsNs ∧ ob.data = .plain) (hg : s₁.gens = #[])
    (ha : s₁.heap.get? a = some { cls := .type "list", data := .seq vs.toArray }) (hi : IntsAre vs ns) (hl : ns.length ≤ sizeLine) (hr : Room k callerA)
    (hTB : ∀ Q ∈ TB, s₁.heap.get? Q = some { cls := .none, data := .fields #[] } ∧ isCodeTable s₁.heap Q ∧ K.lookup Q = none)
    (F : ∀ base : Heap, K.In base → base.Ns mainGlobals mg → (∀ b o, s₁.heap.get? b = some o → b ∉ TB → b ≠ a → base.get? b = some o) → FnOk P w K mg base CX k fa fd [x] sp) (hbind : ∀ (s : Shared) (u : Value), BindsTo s fd ⟨[u], []⟩ [(x, u)])
    (hsp : ∀ H : Hp, (∀ Q ∈ TB, H Q = some (TblO Q)) → SqL K H a (ns.map V.int) → sp [.ref a] H (fun v H' => v = .bl true ∧ ∀ Q ∈ TB, H' Q = some (TblO Q)) fun _ _ _ => False)
    (hCX : ∀ H e s', CX [] H s₁ (fun _ _ _ => False) e s' → False) :
    codeAny (model P w) callerA (.call (.ref fa) ⟨[.ref a], []⟩) (fun r s' => r = .ok (.ret (.bool true)) ∧ OldK s₁.heap s'.heap ∧ s'.os = s₁.os ∧ AllBare s'.gens) s₁ := by
  have rv := vals_ints hi
  have lenV := hi.length
  have aTB : a ∉ TB := fun z => by
    have := (hTB a z).1
    rw [ha] at this; cases this
  -- from an abstract heap in which nothing but the script and the tables are tracked
  have core : ∀ H : Hp, SqL K H a (ns.map V.int) → HOk P w H s₁.heap → (∀ Q ∈ TB, H Q = some (TblO Q)) → (∀ b, b ∉ TB → b ≠ a → H b = none) → (H a = none ∨ (K.lookup a = none ∧ ∃ o xs, H a = some (.frz o (.lst xs)))) →
      codeAny (model P w) callerA (.call (.ref fa) ⟨[.ref a], []⟩) (fun r s' => r = .ok (.ret (.bool true)) ∧ OldK s₁.heap s'.heap ∧ s'.os = s₁.os ∧ AllBare s'.gens) s₁ := by
    intro H hS hok hT hA hK
    have base_of : ∀ {b : Addr} {o : Obj}, s₁.heap.get? b = some o → H b = none → (hidT s₁.heap H).get? b = some o := fun e n => hidT_get e n
    have nota : ∀ {b : Addr} {o : Obj}, s₁.heap.get? b = some o → o.cls ≠ .type "list" → b ≠ a := fun {b o} e c z => by
      subst z; rw [ha] at e; cases e; exact c rfl
    have noA : ∀ {b : Addr} {o : Obj} {es : Array DictEntry} {ep : Nat}, s₁.heap.get? b = some o → o.data = .dict es ep → H b = none := fun {b o es ep} e d => by
      refine hA b (fun z => ?_) fun z => ?_
      · have := (hTB b z).1
        rw [e] at this; cases this; cases d
      · subst z
        rw [ha] at e; cases e; cases d
    have nsK : ∀ {b : Addr} {m : Str → Option Value}, s₁.heap.Ns b m → (hidT s₁.heap H).Ns b m := fun {b m} ⟨o, es, ep, e, d, r⟩ => ⟨o, es, ep, base_of e (noA e d), d, r⟩
    have hKb : K.In (hidT s₁.heap H) := fun b o e => base_of (KX b o e) (by
      by_cases hb : b = a
      · subst hb
        rcases hK with z | ⟨z, _⟩
        · exact z
        · rw [z] at e; cases e
      · refine hA b (fun z => ?_) hb
        rw [(hTB b z).2.2] at e; cases e)
    have hM : Mod K mg (hidT s₁.heap H) := ⟨hKb, nsK hns, ⟨mb, nsK hb, hbb⟩, let ⟨mc, h1, h2⟩ := hlim; ⟨mc, nsK h1, h2⟩, by
      obtain ⟨bm, ob, b1, b2, b3, b4, b5, b6⟩ := hbm
      refine ⟨bm, ob, b1, b2, base_of b3 (hA bm (fun z => ?_) (nota b3 (by rw [b4]; decide))), b4, b5, b6⟩
      have := (hTB bm z).1
      rw [b3] at this; cases this; cases b4⟩
    have e0 : Env0 P w K mg (hidT s₁.heap H) callerA [] s₁ H := ⟨rfl, hM, fun b o e => of_hidT e, Nat.le_of_eq (hidT_size _ _), trivial, fun b hb => absurd (show b ∈ ([] : List Addr) from hb) (by simp), hok, .of_eq hg⟩
    refine codeAny_mono ((F _ hKb (nsK hns) fun b o e h1 h2 => base_of e (hA b h1 h2)).run callerA [] s₁ H ⟨[.ref a], []⟩ [.ref a] [.ref a] _ _ hr e0 (hbind s₁ (.ref a)) (.cons rfl .nil) (hsp H hT hS)) fun r s' h => ?_
    cases r with
    | error e => exact (hCX H e s' h).elim
    | ok fl =>
      cases fl with
      | next => exact False.elim h
      | brk => exact False.elim h
      | cont => exact False.elim h
      | ret u =>
        obtain ⟨v, H', os, bare, un, hok', r', q⟩ := h
        obtain ⟨q', qT⟩ : v = .bl true ∧ ∀ Q ∈ TB, H' Q = some (TblO Q) := q
        subst q'
        obtain rfl : u = Value.bool true := r'
        have keep : ∀ b o, s₁.heap.get? b = some o → b ∉ TB → s'.heap.get? b = some o := fun b o e hb => by
          cases q : H b with
          | none => exact un.keep b o e q (by intro z; exact absurd (show b ∈ ([] : List Addr) from z) (by simp)) (by simp)
          | some u =>
            have hba : b = a := by
              by_cases hba : b = a
              · exact hba
              · rw [hA b hb hba] at q; cases q
            subst hba
            rcases hK with z | ⟨_, ob, xs, z⟩
            · rw [q] at z; cases z
            · have z2 := un.frzs b ob _ z
              obtain ⟨e1, _⟩ := hok b _ z
              obtain ⟨e2, _⟩ := hok' b _ z2
              rw [e] at e1; cases e1
              exact e2
        have tabs : ∀ b ∈ TB, ∃ ps : Array Value, s'.heap.get? b = some { cls := .none, data := .fields ps } := fun b hb => by
          obtain ⟨⟨ps, e, _⟩, _⟩ := (show ObjOk P w H' s'.heap b (TblO b) from hok' b _ (qT b hb))
          exact ⟨ps, e⟩
        refine ⟨rfl, ⟨fun b o e => ?_, fun b o e => ?_⟩, os, bare.bare⟩
        · by_cases hb : b ∈ TB
          · obtain ⟨ps, e'⟩ := tabs b hb
            obtain ⟨e1, e2, _⟩ := hTB b hb
            rw [e] at e1; cases e1
            exact .inr (.inl ⟨e2, rfl, #[], ps, rfl, by rw [e']; simp⟩)
          · exact .inl (keep b o e hb)
        · by_cases hb : b ∈ TB
          · obtain ⟨ps, e'⟩ := tabs b hb
            exact ⟨_, e'⟩
          · exact ⟨o, keep b o e hb⟩
  have okT : ∀ {H : Hp} {b : Addr}, b ∈ TB → ObjOk P w H s₁.heap b (TblO b) := fun {H b} hb =>
    ⟨⟨#[], (hTB b hb).1, trivial⟩, ⟨_, (hTB b hb).1⟩, fun h1 h2 ⟨ps, x, y⟩ k => ⟨ps, k _ x, y⟩⟩
  cases hk : K.lookup a with
  | some o =>
    -- the script is one of the module's own objects
    have e := KX a o hk
    rw [ha] at e
    cases e
    refine core (fun b => if b ∈ TB then some (TblO b) else none) (.inr ⟨_, vs.toArray, _, hk, rfl, rfl, rfl, by rw [List.size_toArray, lenV]; exact hl, by simpa using rv⟩) (fun b u z => ?_) (fun b hb => if_pos hb) (fun b hb _ => if_neg hb) (.inl (if_neg aTB))
    by_cases hb : b ∈ TB
    · have z' := (if_pos hb).symm.trans z
      cases z'
      exact okT hb
    · have z' := (if_neg hb).symm.trans z
      cases z'
  | none =>
    refine core (fun b => if b ∈ TB then some (TblO b) else if b = a then some (.frz { cls := .type "list", data := .seq vs.toArray } (.lst (ns.map V.int))) else none) (.inl (.inr ⟨{ cls := .type "list", data := .seq vs.toArray }, (if_neg aTB).trans (if_pos rfl)⟩)) (fun b u z => ?_) (fun b hb => if_pos hb) (fun b hb hba => (if_neg hb).trans (if_neg hba))
      (.inr ⟨hk, _, _, (if_neg aTB).trans (if_pos rfl)⟩)
    by_cases hb : b ∈ TB
    · have z' := (if_pos hb).symm.trans z
      cases z'
      exact okT hb
    · have z1 := (if_neg hb).symm.trans z
      by_cases hba : b = a
      · have z' := (if_pos hba).symm.trans z1
        cases z'
        subst hba
        exact ⟨ha, by rw [List.length_map]; exact hl, vs, _, rv, ha⟩
      · have z' := (if_neg hba).symm.trans z1
        cases z'

/-- the tables of some defs, behind the top -/
theorem tabs_mk {p : Program} {loose : List Str} {mean : ExcName → Option Value} {mg mb : Str → Option Value} {h : Heap} (T : Top p loose mean mg mb h) : ∀ gn : List Str, (∀ y ∈ gn, ∃ d ∈ recsOf p, d.name = y) →
    ∃ TB : List Addr, (∀ Q ∈ TB, h.get? Q = some { cls := .none, data := .fields #[] } ∧ isCodeTable h Q) ∧
      ∀ y ∈ gn, ∃ a o fd c Q, Q ∈ TB ∧ mg y = some (.ref a) ∧ h.get? a = some o ∧ o.data = .func fd ∧ fd.code = .ref c ∧ h.IsCode c Q #[] ∧ h.TableAt c Q #[]
  | [], _ => ⟨[], fun _ z => (nomatch z), fun _ z => (nomatch z)⟩
  | y :: gn, hy => by
    obtain ⟨TB, h1, h2⟩ := tabs_mk T gn fun z hz => hy z (List.mem_cons_of_mem _ hz)
    obtain ⟨d, hd, rfl⟩ := hy y List.mem_cons_self
    obtain ⟨a, o, fd, c, Q, e1, e2, e3, e4, e5, e6⟩ := T.tab d hd
    refine ⟨Q :: TB, fun R hR => ?_, fun z hz => ?_⟩
    · rcases List.mem_cons.mp hR with rfl | hR
      · exact ⟨e6.2, e6.isCodeTable⟩
      · exact h1 R hR
    · rcases List.mem_cons.mp hz with rfl | hz
      · exact ⟨a, o, fd, c, Q, List.mem_cons_self, e1, e2, e3, e4, e5, e6⟩
      · obtain ⟨a, o, fd, c, Q, q, r⟩ := h2 z hz
        exact ⟨a, o, fd, c, Q, List.mem_cons_of_mem _ q, r⟩

/-- the goal that k_head leaves (case hc), from the law's promise -/
theorem walk_tab {l : PySem.W.OpenLaw} {n k : Nat} {q : Program} {loose : List Str} {XP : (Str → Option Value) → Heap → Prop} {YP : World → Heap → Prop} {d : DefRec} {K : Params → PySem.W.Frag} {CX : CXT} {sp : PySem.W.Frag → List Addr → Sp} {x : Str} (gn : List Str)
    (hn : l.most = some n) (hn2 : n ≤ sizeLine) (hdf : d.params.defaults = []) (hr : Room k callerA) (hgn : (gn.all fun y => (recsOf q).any fun d => d.name == y) = true)
    (hY : ∀ (w : World) (h : Heap), YP w h → (K w.params).In h) (hKc : ∀ w : World, PySem.W.kb_classed (K w.params) = true)
    (F : ∀ (w : World) (mg : Str → Option Value) (fa : Addr) (h : Heap), (K w.params).In h → h.Ns mainGlobals mg → mg d.name = some (.ref fa) →
      ∃ fd : FuncData, (∀ (s : Shared) (u : Value), BindsTo s fd ⟨[u], []⟩ [(x, u)]) ∧
        ∀ (TB : List Addr) (base : Heap), (K w.params).In base → base.Ns mainGlobals mg → Tabs gn mg base TB → FnOk l.prog w (K w.params) mg base CX k fa fd [x] (sp (K w.params) TB))
    (hsp : ∀ (K : PySem.W.Frag) (TB : List Addr) (H : Hp) (a : Addr) (ns : List Int) (Q : VK), ns.length ≤ n → (∀ P ∈ TB, H P = some (TblO P)) → SqL K H a (ns.map V.int) → (∀ H', Ext H H' → Q (.bl true) H') → sp K TB [.ref a] H Q fun _ _ _ => False)
    (hCX : ∀ (H : Hp) (s : Shared) (e : Value) (s' : Shared), CX [] H s (fun _ _ _ => False) e s' → False) :
    PySem.W.WalkO q loose XP YP l.row.toRowW d [] (fun f vs => PySem.call f vs) := by
  refine Att.attach_call hn hdf fun w s₀ s₁ mg mb fa o pm cd doc a vs ns G Y ho hd hcd hmg hobj hints hlen hg => ?_
  have KX := hY w _ Y
  obtain ⟨fd, hb, hF⟩ := F w mg fa _ KX G.T.g hmg
  have hgn' : ∀ y ∈ gn, ∃ d ∈ recsOf q, d.name = y := fun y hy => by
    obtain ⟨d, h1, h2⟩ := List.any_eq_true.mp (List.all_eq_true.mp hgn y hy)
    exact ⟨d, h1, beq_iff_eq.mp h2⟩
  obtain ⟨TB, hT1, hT2⟩ := tabs_mk G.T gn hgn'
  have kno : ∀ Q ∈ TB, (K w.params).lookup Q = none := fun Q hQ => by
    cases e : (K w.params).lookup Q with
    | none => rfl
    | some o =>
      exfalso
      have e1 := KX Q o e
      rw [(hT1 Q hQ).1] at e1
      cases e1
      have z := List.all_eq_true.mp (hKc w) _ (PySem.W.kb_mem e)
      simp only [Bool.or_eq_true, decide_eq_true_eq, beq_iff_eq] at z
      rcases z with (z | z) | z
      · exact z rfl
      · obtain ⟨mc, ⟨o, es, ep, h1, h2, _⟩, _⟩ := G.T.nodigits
        rw [← z, (hT1 Q hQ).1] at h1; cases h1; cases h2
      · obtain ⟨o, es, ep, h1, h2, _⟩ := G.T.g
        rw [← z, (hT1 Q hQ).1] at h1; cases h1; cases h2
  refine law_call (TB := TB) KX G.T.g G.T.b G.T.builtins G.T.nolimit G.T.bmain hg hobj hints (Nat.le_trans hlen hn2) hr (fun Q hQ => ⟨(hT1 Q hQ).1, (hT1 Q hQ).2, kno Q hQ⟩)
    (fun base hk hns hkeep => hF TB base hk hns fun y hy f o fd' e1 e2 e3 => ?_) hb (fun H h1 h2 => hsp _ TB H a ns _ hlen h1 h2 fun H' ext => ⟨rfl, fun Q hQ => ext Q _ (h1 Q hQ)⟩) fun H e s' => hCX H s₁ e s'
  obtain ⟨a', o', fd, c, Q, hQ, g1, g2, g3, g4, g5, g6⟩ := hT2 y hy
  rw [e1] at g1; cases g1
  have ne : ∀ {b : Addr} {o : Obj}, s₁.heap.get? b = some o → o.cls ≠ .none → o.cls ≠ .type "list" → base.get? b = some o := fun {b o} e c1 c2 => by
    refine hkeep b o e (fun z => ?_) fun z => ?_
    · have := (hT1 b z).1
      rw [e] at this; cases this; exact c1 rfl
    · subst z; rw [e] at hobj; cases hobj; exact c2 rfl
  have nf : ∀ {b : Addr} {o : Obj} {fd : FuncData}, s₁.heap.get? b = some o → o.data = .func fd → base.get? b = some o := fun {b o fd} e c1 => by
    refine hkeep b o e (fun z => ?_) fun z => ?_
    · have := (hT1 b z).1
      rw [e] at this; cases this; cases c1
    · subst z; rw [e] at hobj; cases hobj; cases c1
  have e4 := nf g2 g3
  rw [e2] at e4; cases e4
  rw [e3] at g3; cases g3
  obtain ⟨⟨oc, vc, t1, t2, t3, t4⟩, _⟩ := g6
  obtain ⟨oc', vc', file, tf, flags, tg, inF, text, tt, op, i1, i2, i3, i4, i5, i6, i7, i8, i9, i10, i11⟩ := g5
  rw [t1] at i1; cases i1
  rw [t3] at i2; cases i2
  exact ⟨Q, hQ, ⟨c, oc, vc, file, tf, flags, tg, inF, text, tt, g4, ne t1 (by rw [t2]; decide) (by rw [t2]; decide), t2, t3, t4, i3, i4, i5, i6, i7, i11⟩⟩
end L2

end
section
set_option linter.all false
set_option maxRecDepth 100000
namespace L2
open PySem PySem.Spec PyProof.Rows

section
variable {X : Cx} {pins : List (Addr × Obj)} {σ : St} {H : Hp} {s : Shared}
/-- back in the def's context -/
theorem gen_back {s4 s' : Shared} {H1 H' : Hp} {cenv : Env} {fp : List Addr} {A1 : Around} {G : Expr} {it : Addr} {σw : St} (I4 : Inv X pins σ H1 s4) (hf : ∀ b ∈ fp, FpOk X pins H1 b) (I' : Inv (X.gxb s4 H1 cenv fp A1 G it) [] σw H' s') : Inv X pins σ H' s' :=
  I4.call' (ch := fp) I'.os I'.base I'.hok I'.bare fun b hb => ⟨(hf b hb).2.2.2.1, (hf b hb).2.1, (hf b hb).2.2.2.2.1, (hf b hb).2.2.2.2.2⟩
/-- a call of a built-in upon a generator expression -/
theorem pe_genB {elt tg iter : Expr} {ifs : List Expr} {scope : Scope} {own : List (Str × Nat)} {p pos gpos : Pos} {x : Str} {id : String} {wi : TI} {g : TG} {tt : TT} {te : TE} {P : Addr} {k : Nat} {kk : List V → Hp → VK → Prop}
    (use : ∀ (Q : VK) (pins : List (Addr × Obj)) (σ : St) (s4 : Shared) (H1 : Hp) (cenv : Env) (fp : List Addr) (it : Addr) (tn : Nat → Heap → Prop) (n : Nat) (p : Nat → Bool) (f : Nat → V) (a gi : Nat) (s5 : Shared), Inv X pins σ H1 s4 → (∀ b ∈ fp, FpOk X pins H1 b) → (∀ b ∈ fp, b < s4.heap.objs.size) → gi < s4.gens.size →
      Inv (X.gxb s4 H1 cenv fp X.A.in1.in1 (.GeneratorExp elt [⟨tg, iter, ifs, 0⟩] scope gpos) it) [] (wipe σ (own.map (·.2))) H1 s5 → tn 0 s5.heap → (∀ i h h', tn i h → (∀ b ∈ fp, ∀ o, h.get? b = some o → h'.get? b = some o) → tn i h') → (∀ b ∈ fp, H1 b = none) → s5.heap.IsGen a gi → s4.heap.objs.size < a → a < s5.heap.objs.size → cenv.locals = s4.heap.objs.size →
      s5.gens[gi]? = some (.fresh (.compStart (.GeneratorExp elt [⟨tg, iter, ifs, 0⟩] scope gpos) 0 (.ref it) .none cenv)) →
      (∀ ps, (∀ b ∈ ps, b ∉ fp) → ∀ s'' H'', GOk (X.gxb s4 H1 cenv fp X.A.in1.in1 (.GeneratorExp elt [⟨tg, iter, ifs, 0⟩] scope gpos) it) (wipe σ (own.map (·.2))) tn fp ps H1 0 H'' s'' →
        (GenState.fresh (.compStart (.GeneratorExp elt [⟨tg, iter, ifs, 0⟩] scope gpos) 0 (.ref it) .none cenv)).Goes (model X.prog X.w) X.A.in1.in1 (fun n s₀ r s₁ => r = .ok .next ∧ gP (X.gxb s4 H1 cenv fp X.A.in1.in1 (.GeneratorExp elt [⟨tg, iter, ifs, 0⟩] scope gpos) it) (wipe σ (own.map (·.2))) ps H1 n s₀ s₁)
          (gY (X.gxb s4 H1 cenv fp X.A.in1.in1 (.GeneratorExp elt [⟨tg, iter, ifs, 0⟩] scope gpos) it) (wipe σ (own.map (·.2))) tn fp ps H1 p n f) (passing p n 0).length (.send .none) s'') →
      kk ((passing p n 0).map f) H1 Q → wpAny (model X.prog X.w) X.A (call (.builtin id) [.ref a]) (EP X pins σ Q) X.xe s5)
    (hgl : Gl X x) (hm : X.mg x = none) (hv : bootBuiltins x = some (.builtin id))
    (hN : X.N.Nodup) (hi : PI X tg iter wi) (ok : BlkOk X.N X.env.scope scope own) (nc : ∀ y ∈ scope.names, y.2 ≠ .cell) (h0 : scope.names.lookup (".0" : Str) = some NameKind.local) (hco : scope.isCoroutine = false)
    (hT : TabOf X.base X.env.code P) (hr : Room (k + 1) X.A)
    (hg : ∀ (s : Shared) (H : Hp) (C : Addr) (cl : List (Str × Addr)) (cd : Value) (fp : List Addr) (A' : Around), Room k A' → PG (X.gen s H (genEnv scope cl C cd builtinsNs X.env) fp A') tg g)
    (ht : ∀ (s : Shared) (H : Hp) (C : Addr) (cl : List (Str × Addr)) (cd : Value) (fp : List Addr) (A' : Around), Room k A' → PTs (X.gen s H (genEnv scope cl C cd builtinsNs X.env) fp A') ifs tt)
    (he : ∀ (s : Shared) (H : Hp) (C : Addr) (cl : List (Str × Addr)) (cd : Value) (fp : List Addr) (A' : Around), Room k A' → PE (X.gen s H (genEnv scope cl C cd builtinsNs X.env) fp A') elt te)
    (hs : ∀ x, genFold iter X.env x = pure x := by intro _; rfl) (hn : x ≠ "__name__" := by decide) (hdb : (x == ("__debug__" : Str)) = false := by decide) :
    PE X (.Call (.Name x p) [.GeneratorExp elt [⟨tg, iter, ifs, 0⟩] scope gpos] [] pos) (tGen wi g tt te (own.map (·.2)) P kk) := by
  constructor
  intro pins s σ H Q I h
  refine wpAny_Call_Name_kw (ld_blt I hgl hm hv ?_ hn hdb)
  refine PyProof.Rows.callWith_builtin1 ?_ rfl rfl
  show wpAny _ _ (spliced ((false, eval (.GeneratorExp elt [⟨tg, iter, ifs, 0⟩] scope gpos) X.env) :: backTo pos (starEach [] X.env))) _ _ s
  refine Calls.spliced_cons (gen_core (Q := Q) hN I hi ok nc h0 hco hT hr hg ht he hs h fun s4 H1 cenv fp it tn n p f a gi s5 I4 f4 z4 gz I5 st5 tk5 n5 ig a1 a2 cl fr goes hk => ?_)
  exact Calls.spliced_nil (use Q pins σ s4 H1 cenv fp it tn n p f a gi s5 I4 f4 z4 gz I5 st5 tk5 n5 ig a1 a2 cl fr goes hk)

/-- the generator's object is pinned -/
theorem gen_pin {XB : Cx} {σw : St} {H1 : Hp} {s5 : Shared} {ps : List Addr} (I5 : Inv XB [] σw H1 s5) (h : ∀ b ∈ ps, XB.s_0.heap.objs.size < b ∧ XB.env.locals ≠ b ∧ H1 b = none ∧ ∃ o, s5.heap.get? b = some o ∧ ∀ v, o.data ≠ .cell v) : Inv XB (pinsAt ps s5.heap) σw H1 s5 :=
  I5.pins_of fun q hq => by
    obtain ⟨hb, e⟩ := of_pinsAt hq
    obtain ⟨h1, h2, h3, o, h4, h5⟩ := h q.1 hb
    rw [e] at h4; cases h4
    refine ⟨e, h3, h2.symm, fun z => ?_, h5⟩
    obtain ⟨_, o, ho, _⟩ := I5.ok.funs.mem z
    exact absurd (Nat.lt_trans (Heap.lt_size ho) h1) (Nat.lt_irrefl _)

theorem getD_get {α : Type} {l : List α} {i : Nat} {d : α} (h : i < l.length) : l.getD i d = l[i] := by simp [List.getD, h]
theorem range_all {l : List Nat} {f : Nat → V} {bs : List Bool} (e : l.map f = bs.map V.bl) : (List.range l.length).all (fun j => bs.getD j false) = bs.all id := by
  have hl : l.length = bs.length := by have := congrArg List.length e; simpa using this
  rw [hl, Bool.eq_iff_iff, List.all_eq_true, List.all_eq_true]
  constructor
  · intro h b hb
    obtain ⟨i, hi, rfl⟩ := List.mem_iff_getElem.mp hb
    have := h i (List.mem_range.mpr hi)
    rw [getD_get hi] at this
    exact this
  · intro h j hj
    have hj := List.mem_range.mp hj
    rw [getD_get hj]
    exact h _ (List.getElem_mem hj)
theorem val_at {l : List Nat} {f : Nat → V} {bs : List Bool} {j i : Nat} {v : Value} (e : l.map f = bs.map V.bl) (hi : l[j]? = some i) (r : RelV (f i) v) : v = .bool (bs.getD j false) := by
  have h1 : (l.map f)[j]? = some (f i) := by rw [List.getElem?_map, hi]; rfl
  rw [e, List.getElem?_map] at h1
  cases hb : bs[j]? with
  | none => rw [hb] at h1; cases h1
  | some b =>
    rw [hb] at h1
    have h2 : V.bl b = f i := Option.some.inj h1
    rw [← h2] at r
    have : bs.getD j false = b := by rw [List.getD_eq_getElem?_getD, hb]; rfl
    rw [this]
    exact r
theorem use_all {elt tg iter : Expr} {ifs : List Expr} {scope : Scope} {own : List (Str × Nat)} {gpos : Pos} {k : Nat} (hr : Room k X.A) (Q : VK) (pins : List (Addr × Obj)) (σ : St) (s4 : Shared) (H1 : Hp) (cenv : Env) (fp : List Addr) (it : Addr) (tn : Nat → Heap → Prop) (n : Nat) (p : Nat → Bool) (f : Nat → V) (a gi : Nat) (s5 : Shared) (I4 : Inv X pins σ H1 s4) (f4 : ∀ b ∈ fp, FpOk X pins H1 b) (z4 : ∀ b ∈ fp, b < s4.heap.objs.size) (gz : gi < s4.gens.size)
    (I5 : Inv (X.gxb s4 H1 cenv fp X.A.in1.in1 (.GeneratorExp elt [⟨tg, iter, ifs, 0⟩] scope gpos) it) [] (wipe σ (own.map (·.2))) H1 s5) (st5 : tn 0 s5.heap) (tk5 : ∀ i h h', tn i h → (∀ b ∈ fp, ∀ o, h.get? b = some o → h'.get? b = some o) → tn i h') (n5 : ∀ b ∈ fp, H1 b = none) (ig : s5.heap.IsGen a gi) (a1 : s4.heap.objs.size < a) (a2 : a < s5.heap.objs.size) (cl : cenv.locals = s4.heap.objs.size)
    (fr : s5.gens[gi]? = some (.fresh (.compStart (.GeneratorExp elt [⟨tg, iter, ifs, 0⟩] scope gpos) 0 (.ref it) .none cenv)))
    (goes : ∀ ps, (∀ b ∈ ps, b ∉ fp) → ∀ s'' H'', GOk (X.gxb s4 H1 cenv fp X.A.in1.in1 (.GeneratorExp elt [⟨tg, iter, ifs, 0⟩] scope gpos) it) (wipe σ (own.map (·.2))) tn fp ps H1 0 H'' s'' →
        (GenState.fresh (.compStart (.GeneratorExp elt [⟨tg, iter, ifs, 0⟩] scope gpos) 0 (.ref it) .none cenv)).Goes (model X.prog X.w) X.A.in1.in1 (fun n s₀ r s₁ => r = .ok .next ∧ gP (X.gxb s4 H1 cenv fp X.A.in1.in1 (.GeneratorExp elt [⟨tg, iter, ifs, 0⟩] scope gpos) it) (wipe σ (own.map (·.2))) ps H1 n s₀ s₁)
          (gY (X.gxb s4 H1 cenv fp X.A.in1.in1 (.GeneratorExp elt [⟨tg, iter, ifs, 0⟩] scope gpos) it) (wipe σ (own.map (·.2))) tn fp ps H1 p n f) (passing p n 0).length (.send .none) s'')
    (hk : kAll ((passing p n 0).map f) H1 Q) : wpAny (model X.prog X.w) X.A (call (.builtin "all") [.ref a]) (EP X pins σ Q) X.xe s5 := by
  obtain ⟨bs, eb, hq⟩ := hk
  have hna : H1 a = none := I4.hok.fresh (Nat.le_of_lt a1)
  have hpin : ∀ b ∈ [a], s4.heap.objs.size < b ∧ cenv.locals ≠ b ∧ H1 b = none ∧ ∃ o, s5.heap.get? b = some o ∧ ∀ v, o.data ≠ .cell v := fun b hb => by
    have e : b = a := by simpa using hb
    subst e
    obtain ⟨o, nm, qn, h1, h2, h3, h4⟩ := ig
    exact ⟨a1, by rw [cl]; exact Nat.ne_of_lt a1, hna, o, h1, fun v z => by rw [h3] at z; cases z⟩
  have hps : ∀ b ∈ [a], b ∉ fp := fun b hb z => by
    have e : b = a := by simpa using hb
    subst e
    exact absurd (Nat.lt_trans (z4 _ z) a1) (Nat.lt_irrefl _)
  have G5 : GOk (X.gxb s4 H1 cenv fp X.A.in1.in1 (.GeneratorExp elt [⟨tg, iter, ifs, 0⟩] scope gpos) it) (wipe σ (own.map (·.2))) tn fp [a] H1 0 H1 s5 := ⟨gen_pin I5 hpin, st5, n5, Ext.refl _, fun b hb => let ⟨_, _, _, o, h, _⟩ := hpin b hb; ⟨o, h⟩⟩
  have c0 : CAt (X.gxb s4 H1 cenv fp X.A.in1.in1 (.GeneratorExp elt [⟨tg, iter, ifs, 0⟩] scope gpos) it) (wipe σ (own.map (·.2))) tn fp [a] H1 p n f X.A.in1.in1 a gi 0 s5 := ⟨0, H1, _, rfl, G5, ig, fr, goes [a] hps⟩
  refine call_function_tree F.kind_all F.plain_all F.entry_all (F.args_all1 _) ?_
  unfold Builtin.«all»
  refine wpAny_bind (m := oneArg "all" _) (wpAny_pure ?_)
  refine wpAny_bind (wpAny_pyIter_gen ig ?_)
  refine wpAny_pure ⟨plainId_quiet F.plain_all_loop _, all_loopG (n := (passing p n 0).length) (tr := fun j => bs.getD j false) (CI := fun j s => CAt (X.gxb s4 H1 cenv fp X.A.in1.in1 (.GeneratorExp elt [⟨tg, iter, ifs, 0⟩] scope gpos) it) (wipe σ (own.map (·.2))) tn fp [a] H1 p n f X.A.in1.in1 a gi j s)
    (Post := fun s' => ∃ H', Inv (X.gxb s4 H1 cenv fp X.A.in1.in1 (.GeneratorExp elt [⟨tg, iter, ifs, 0⟩] scope gpos) it) [] (wipe σ (own.map (·.2))) H' s' ∧ Ext H1 H') (fun j s hj c => ?_) (fun s c => ?_) (fun j s c => c.post) _ 0 s5 rfl (Nat.zero_le _) c0 (fun s' ⟨H', I', ext⟩ => ?_)⟩
  · have z := gen_item (A0 := X.A.in1) c hj (by simp) hr.hd hr.depth gz
    refine thnF z fun r s' ⟨i, v, e1, e2, rv, c', _⟩ => ?_
    refine ⟨?_, c'⟩
    rw [e1, val_at eb e2 rv]
  · have z := gen_done (A0 := X.A.in1) c (by simp) hr.hd hr.depth gz
    exact thnF z fun r s' ⟨e1, q, _⟩ => ⟨e1, q⟩
  · refine ⟨.bl (bs.all id), H', gen_back I4 f4 I', ?_, hq H' ext⟩
    rw [List.drop_zero, range_all eb]
    rfl
end
end L2

end
section
set_option linter.all false
set_option maxRecDepth 100000
/-! zip of two tuples, by iterators of any kind -/
namespace L2
open PySem PySem.Spec PyProof.Rows

/-- an iterator at it that stands by St, its k-th item val k; fl: what it leans on -/
structure NextI (prog : Program) (w : World) (A : Around) (it : Addr) (fl : List Addr) (St : Nat → Heap → Prop) (val : Nat → Option Value) : Prop where
  keep : ∀ k h h', St k h → (∀ b ∈ fl, ∀ o, h.get? b = some o → h'.get? b = some o) → St k h'
  item : ∀ k (s : Shared) (Q : Value → Shared → Prop) (E : Value → Shared → Prop) x, St k s.heap → val k = some x → (∀ h', St (k + 1) h' → Heap.SameBut it s.heap h' → Q x { s with heap := h' }) → wpAny (model prog w) A (Builtin.SmallTypes.nextOf (.ref it)) Q E s
  stop : ∀ k (s : Shared) (Q : Value → Shared → Prop) (E : Value → Shared → Prop), St k s.heap → val k = none → (∀ h' e, Heap.ExtBut it s.heap h' → (∃ o, h'.get? e = some o ∧ o.cls = .type "StopIteration") → E (.ref e) { s with heap := h' }) → wpAny (model prog w) A (Builtin.SmallTypes.nextOf (.ref it)) Q E s
theorem nextI_tuple {prog : Program} {w : World} {A : Around} (hh : A.handled = none) (it t : Addr) (items : Array Value) : NextI prog w A it [it, t] (fun k h => h.IsTupleIter it t k ∧ h.IsTuple t items ∧ t ≠ it) (fun k => items[k]?) where
  keep := fun k h h' ⟨a, b, c⟩ k' => ⟨a.at fun o e => k' it (by simp) o e, b.at fun o e => k' t (by simp) o e, c⟩
  item := fun k s Q E x ⟨hit, ht, hne⟩ hx hQ => by
    obtain ⟨o, ho, hc, hd⟩ := id hit
    obtain ⟨ol, hol, _, nl, hdl⟩ := id ht
    unfold Builtin.SmallTypes.nextOf
    refine wpAny_bind (wpAny_callSpecial?_slot (name := Str.ofString "__next__") hit.typeIs F.slot_tuple_iterator_next (wpAny_call_entry F.slot_tuple_iterator_next hit.typeIs F.entry_tuple_iterator_next ?_ (F.args_tuple_iterator_next_1 _)))
    show wpAny _ _ (field (.ref it) 0 >>= _) _ _ s
    refine wpAny_bind (wpAny_field ho hd (x := .ref t) rfl ?_)
    show wpAny _ _ (if (Value.ref t == Value.none) = true then _ else _) _ _ s
    rw [if_neg (show ¬ ((Value.ref t == Value.none) = true) from Bool.false_ne_true)]
    show wpAny _ _ (field (.ref it) 1 >>= _) _ _ s
    refine wpAny_bind (wpAny_field ho hd (x := .int k 0) rfl ?_)
    show wpAny _ _ (seqItems? (.ref t) >>= _) _ _ s
    refine wpAny_bind (wpAny_seqItems hol hdl ?_)
    simp only [Int.toNat_natCast, hx]
    refine wpAny_bind (wpAny_setField ho hd (by simp) (wpAny_pure ⟨x, rfl, wpAny_pure (hQ _ ⟨?_, ht.extBut (Heap.SameBut.update ..).extBut hne, hne⟩ (Heap.SameBut.update ..))⟩))
    exact ⟨_, Heap.get?_update_self _ ho (Obj.isFreed_of_fields (Obj.data_mapFields hd _)), (Obj.cls_mapFields ..).trans hc, by rw [Obj.data_mapFields hd]; simp [rawInt]⟩
  stop := fun k s Q E ⟨hit, ht, hne⟩ hx hE => by
    obtain ⟨o, ho, hc, hd⟩ := id hit
    obtain ⟨ol, hol, _, nl, hdl⟩ := id ht
    unfold Builtin.SmallTypes.nextOf
    refine wpAny_bind (wpAny_callSpecial?_slot (name := Str.ofString "__next__") hit.typeIs F.slot_tuple_iterator_next (wpAny_call_entry F.slot_tuple_iterator_next hit.typeIs F.entry_tuple_iterator_next ?_ (F.args_tuple_iterator_next_1 _)))
    show wpAny _ _ (field (.ref it) 0 >>= _) _ _ s
    refine wpAny_bind (wpAny_field ho hd (x := .ref t) rfl ?_)
    show wpAny _ _ (if (Value.ref t == Value.none) = true then _ else _) _ _ s
    rw [if_neg (show ¬ ((Value.ref t == Value.none) = true) from Bool.false_ne_true)]
    show wpAny _ _ (field (.ref it) 1 >>= _) _ _ s
    refine wpAny_bind (wpAny_field ho hd (x := .int k 0) rfl ?_)
    show wpAny _ _ (seqItems? (.ref t) >>= _) _ _ s
    refine wpAny_bind (wpAny_seqItems hol hdl ?_)
    simp only [Int.toNat_natCast, hx]
    refine wpAny_bind (wpAny_rule (wpAny_bind (wpAny_setField ho hd (by simp) ?_)))
    show wpAny _ _ (newExc (.type "StopIteration") [] >>= _) _ _ _
    refine wpAny_bind ?_
    simp only [newExc, newTuple]
    refine wpAny_bind (wpAny_newObj_type ?_ (by size_fits))
    refine wpAny_bind (m := firstArgMember _ _) (wpAny_of_eq (a := Value.none) (by first | rfl | (simp only [firstArgMember]; rfl)) ?_)
    refine wpAny_newObj_type ?_ (by size_fits)
    simp only [raiseNew]
    refine wpAny_bind (wpAny_handled ?_)
    first | rw [show A.in1.handled = none from hh] | rw [hh]
    refine wpAny_bind (wpAny_pure (wpAny_throw ?_))
    exact hE _ _ (((Heap.SameBut.update ..).extBut.push _).push _) ⟨_, Heap.get?_push_size _ rfl, rfl⟩

/-- what a zip's objects keep apart -/
structure ZApart (z TI TO i1 i2 : Addr) (f1 f2 : List Addr) : Prop where
  TIz : TI ≠ z
  TOz : TO ≠ z
  i1z : i1 ≠ z
  i2z : i2 ≠ z
  TITO : TI ≠ TO
  TIi1 : TI ≠ i1
  TIi2 : TI ≠ i2
  TOi1 : TO ≠ i1
  TOi2 : TO ≠ i2
  a1 : ∀ b ∈ f1, b ≠ z ∧ b ≠ TO ∧ b ≠ i2
  a2 : ∀ b ∈ f2, b ≠ z ∧ b ≠ TO ∧ b ≠ i1

section
variable {prog : Program} {w : World} {A : Around} {E : Value → Shared → Prop} {s : Shared} {z TI TO i1 i2 : Addr} {f1 f2 : List Addr} {S1 S2 : Nat → Heap → Prop} {v1 v2 : Nat → Option Value} {k : Nat}
theorem zip_item (N1 : NextI prog w A i1 f1 S1 v1) (N2 : NextI prog w A i2 f2 S2 v2) (D : ZApart z TI TO i1 i2 f1 f2) {x y a b : Value} {Q : Value → Shared → Prop}
    (hz : IsZip s.heap z TI TO .none) (hTI : IsPair s.heap TI (.ref i1) (.ref i2)) (hTO : IsPair s.heap TO a b) (h1 : S1 k s.heap) (h2 : S2 k s.heap) (hx : v1 k = some x) (hy : v2 k = some y)
    (hQ : ∀ h', IsZip h' z TI TO (rawInt s.heap.objs.size) → IsPair h' TO x y → S1 (k + 1) h' → S2 (k + 1) h' → IsPair h' s.heap.objs.size x y → (∀ c o, c ≠ z → c ≠ TO → c ≠ i1 → c ≠ i2 → s.heap.get? c = some o → h'.get? c = some o) → Q (.ref s.heap.objs.size) { s with heap := h' }) :
    wpAny (model prog w) A (Builtin.«zip.__next__» ⟨[.ref z], []⟩) (fun fin s' => ∃ v, fin = .done (.ret v) ∧ Q v s') E s := by
  show wpAny _ _ (field (.ref z) 2 >>= _) _ _ _
  refine wpAny_bind (wpAny_field hz rfl (x := .bool false) rfl ?_)
  show wpAny _ _ (field (.ref z) 3 >>= _) _ _ _
  refine wpAny_bind (wpAny_field hz rfl (x := .ref TI) rfl (wpAny_bind (wpAny_seqItems hTI rfl ?_)))
  show wpAny _ _ (Builtin.SmallTypes.ownedTupleIsFree (.ref z) >>= _) _ _ _
  refine wpAny_bind ?_
  unfold Builtin.SmallTypes.ownedTupleIsFree
  refine wpAny_bind (wpAny_field hz rfl (x := .none) rfl (wpAny_pure ?_))
  simp only [if_true]
  refine wpAny_bind (wpAny_rule (wpAny_bind (wpAny_field hz rfl (x := .ref TO) rfl (wpAny_bind (wpAny_setField_rec hz (by simp) fun ha za sa => ?_)))))
  replace za : IsZip ha z TI TO .ellipsis := za
  refine wpAny_bind ?_
  simp only [List.zipIdx_cons, List.zipIdx_nil, List.forIn_cons, List.forIn_nil]
  refine wpAny_bind (wpAny_bind (wpAny_onRaise ?_))
  show wpAny _ _ (Builtin.SmallTypes.nextOf (.ref i1) >>= _) _ _ _
  refine wpAny_bind (N1.item k _ _ _ x (N1.keep _ _ _ h1 fun c hc o e => sa.extBut c o (D.a1 c hc).1 e) hx fun hb1 t1 sb => wpAny_pure ?_)
  have tob : IsPair hb1 TO a b := sb.extBut _ _ D.TOi1 (sa.extBut _ _ D.TOz hTO)
  refine wpAny_bind (wpAny_seqItems tob rfl (wpAny_bind (wpAny_updateSeq_pair tob fun hc toc sc => wpAny_bind (wpAny_letGo (wpAny_pure ?_)))))
  replace toc : IsPair hc TO x b := toc
  refine wpAny_bind (wpAny_bind (wpAny_onRaise ?_))
  show wpAny _ _ (Builtin.SmallTypes.nextOf (.ref i2) >>= _) _ _ _
  have up3 : ∀ c o, c ≠ z → c ≠ TO → c ≠ i1 → s.heap.get? c = some o → hc.get? c = some o := fun c o c1 c2 c3 e => sc.extBut _ _ c2 (sb.extBut _ _ c3 (sa.extBut _ _ c1 e))
  refine wpAny_bind (N2.item k _ _ _ y (N2.keep _ _ _ h2 fun c hcc o e => up3 c o (D.a2 c hcc).1 (D.a2 c hcc).2.1 (D.a2 c hcc).2.2 e) hy fun hd t2 sd => wpAny_pure ?_)
  have tod : IsPair hd TO x b := sd.extBut _ _ D.TOi2 toc
  refine wpAny_bind (wpAny_seqItems tod rfl (wpAny_bind (wpAny_updateSeq_pair tod fun he toe se => wpAny_bind (wpAny_letGo (wpAny_pure (wpAny_pure ?_))))))
  replace toe : IsPair he TO x y := toe
  refine wpAny_bind (wpAny_seqItems toe rfl (wpAny_bind (wpAny_newTuple ?_)))
  have hsz : he.objs.size = s.heap.objs.size := by rw [se.1, sd.1, sc.1, sb.1, sa.1]
  have ze : IsZip he z TI TO .ellipsis := se.extBut _ _ D.TOz.symm (sd.extBut _ _ D.i2z.symm (sc.extBut _ _ D.TOz.symm (sb.extBut _ _ D.i1z.symm za)))
  have up5 : ∀ c o, c ≠ z → c ≠ TO → c ≠ i1 → c ≠ i2 → s.heap.get? c = some o → he.get? c = some o := fun c o c1 c2 c3 c4 e => se.extBut _ _ c2 (sd.extBut _ _ c4 (up3 c o c1 c2 c3 e))
  have e1 : S1 (k + 1) he := N1.keep _ _ _ t1 fun c hcc o e => se.extBut _ _ (D.a1 c hcc).2.1 (sd.extBut _ _ (D.a1 c hcc).2.2 (sc.extBut _ _ (D.a1 c hcc).2.1 e))
  have e2 : S2 (k + 1) he := N2.keep _ _ _ t2 fun c hcc o e => se.extBut _ _ (D.a2 c hcc).2.1 e
  have zl : z < he.objs.size := Heap.lt_size ze
  show wpAny _ _ (Builtin.SmallTypes.ownedTupleHandOut (.ref z) (.ref he.objs.size) >>= _) _ _ _
  refine wpAny_bind ?_
  unfold Builtin.SmallTypes.ownedTupleHandOut
  have zf : IsZip (he.push { cls := .type "tuple", data := .seq #[x, y] }) z TI TO .ellipsis := Heap.get?_push_of_some _ ze
  refine wpAny_bind (wpAny_setField_rec zf (by simp) fun hg zg sg => ?_)
  replace zg : IsZip hg z TI TO (rawInt he.objs.size) := zg
  refine wpAny_setField_rec zg (by simp) fun hi zi si => ?_
  replace zi : IsZip hi z TI TO (rawInt he.objs.size) := zi
  have up : ∀ c o, c ≠ z → he.get? c = some o → hi.get? c = some o := fun c o c1 e => si.extBut _ _ c1 (sg.extBut _ _ c1 (Heap.get?_push_of_some _ e))
  have hT : IsPair hi he.objs.size x y := si.extBut _ _ (Nat.ne_of_gt zl) (sg.extBut _ _ (Nat.ne_of_gt zl) (Heap.get?_push_size _ rfl))
  rw [hsz] at zi hT
  refine wpAny_pure ⟨_, rfl, ?_⟩
  show Q (.ref he.objs.size) _
  rw [hsz]
  exact hQ hi zi (up _ _ D.TOz toe) (N1.keep _ _ _ e1 fun c hcc o e => up c o (D.a1 c hcc).1 e) (N2.keep _ _ _ e2 fun c hcc o e => up c o (D.a2 c hcc).1 e) hT fun c o c1 c2 c3 c4 e => up c o c1 (up5 c o c1 c2 c3 c4 e)
theorem zip_stop (N1 : NextI prog w A i1 f1 S1 v1) (N2 : NextI prog w A i2 f2 S2 v2) (D : ZApart z TI TO i1 i2 f1 f2) {a b : Value} {Q : Fin → Shared → Prop}
    (hz : IsZip s.heap z TI TO .none) (hTI : IsPair s.heap TI (.ref i1) (.ref i2)) (hTO : IsPair s.heap TO a b) (h1 : S1 k s.heap) (h2 : S2 k s.heap) (hend : v1 k = none ∨ v2 k = none)
    (hE : ∀ h' e, (∀ c o, c ≠ z → c ≠ TO → c ≠ i1 → c ≠ i2 → s.heap.get? c = some o → h'.get? c = some o) → (∃ o, h'.get? e = some o ∧ o.cls = .type "StopIteration") → E (.ref e) { s with heap := h' }) :
    wpAny (model prog w) A (Builtin.«zip.__next__» ⟨[.ref z], []⟩) Q E s := by
  show wpAny _ _ (field (.ref z) 2 >>= _) _ _ _
  refine wpAny_bind (wpAny_field hz rfl (x := .bool false) rfl ?_)
  show wpAny _ _ (field (.ref z) 3 >>= _) _ _ _
  refine wpAny_bind (wpAny_field hz rfl (x := .ref TI) rfl (wpAny_bind (wpAny_seqItems hTI rfl ?_)))
  show wpAny _ _ (Builtin.SmallTypes.ownedTupleIsFree (.ref z) >>= _) _ _ _
  refine wpAny_bind ?_
  unfold Builtin.SmallTypes.ownedTupleIsFree
  refine wpAny_bind (wpAny_field hz rfl (x := .none) rfl (wpAny_pure ?_))
  simp only [if_true]
  refine wpAny_bind (wpAny_rule (wpAny_bind (wpAny_field hz rfl (x := .ref TO) rfl (wpAny_bind (wpAny_setField_rec hz (by simp) fun ha za sa => ?_)))))
  replace za : IsZip ha z TI TO .ellipsis := za
  refine wpAny_bind ?_
  simp only [List.zipIdx_cons, List.zipIdx_nil, List.forIn_cons, List.forIn_nil]
  refine wpAny_bind (wpAny_bind (wpAny_onRaise ?_))
  show wpAny _ _ (Builtin.SmallTypes.nextOf (.ref i1) >>= _) _ _ _
  have s1a := N1.keep _ _ _ h1 fun c hc o e => sa.extBut c o (D.a1 c hc).1 e
  cases hx : v1 k with
  | none =>
    refine wpAny_bind (N1.stop k _ _ _ s1a hx fun hb e sb he => ?_)
    obtain ⟨oe, hoe, hce⟩ := he
    have zb : IsZip hb z TI TO .ellipsis := sb _ _ D.i1z.symm za
    have hez : e ≠ z := fun q => by subst q; rw [zb] at hoe; cases hoe; simp at hce
    exact wpAny_setField_rec zb (by simp) fun hc _ sc => hE hc e (fun c o c1 _ c3 _ q => sc.extBut _ _ c1 (sb _ _ c3 (sa.extBut _ _ c1 q))) ⟨oe, sc.extBut _ _ hez hoe, hce⟩
  | some x =>
    have hy : v2 k = none := by
      rcases hend with h | h
      · rw [hx] at h; cases h
      · exact h
    refine wpAny_bind (N1.item k _ _ _ x s1a hx fun hb1 t1 sb => wpAny_pure ?_)
    have tob : IsPair hb1 TO a b := sb.extBut _ _ D.TOi1 (sa.extBut _ _ D.TOz hTO)
    refine wpAny_bind (wpAny_seqItems tob rfl (wpAny_bind (wpAny_updateSeq_pair tob fun hc toc sc => wpAny_bind (wpAny_letGo (wpAny_pure ?_)))))
    refine wpAny_bind (wpAny_bind (wpAny_onRaise ?_))
    show wpAny _ _ (Builtin.SmallTypes.nextOf (.ref i2) >>= _) _ _ _
    have up3 : ∀ c o, c ≠ z → c ≠ TO → c ≠ i1 → s.heap.get? c = some o → hc.get? c = some o := fun c o c1 c2 c3 e => sc.extBut _ _ c2 (sb.extBut _ _ c3 (sa.extBut _ _ c1 e))
    refine wpAny_bind (N2.stop k _ _ _ (N2.keep _ _ _ h2 fun c hcc o e => up3 c o (D.a2 c hcc).1 (D.a2 c hcc).2.1 (D.a2 c hcc).2.2 e) hy fun hd e sd he => ?_)
    obtain ⟨oe, hoe, hce⟩ := he
    have zd : IsZip hd z TI TO .ellipsis := sd _ _ D.i2z.symm (sc.extBut _ _ D.TOz.symm (sb.extBut _ _ D.i1z.symm za))
    have hez : e ≠ z := fun q => by subst q; rw [zd] at hoe; cases hoe; simp at hce
    exact wpAny_setField_rec zd (by simp) fun h5 _ s5 => hE h5 e (fun c o c1 c2 c3 c4 q => s5.extBut _ _ c1 (sd _ _ c4 (up3 c o c1 c2 c3 q))) ⟨oe, s5.extBut _ _ hez hoe, hce⟩
end
end L2

end
section
set_option linter.all false
set_option maxRecDepth 100000
namespace L2
open PySem PySem.Spec PyProof.Rows

abbrev tzA (h : Heap) (l1 : Addr) : Heap := h.push { cls := .type "tuple_iterator", data := .fields #[.ref l1, .int 0 0] }
abbrev tzB (h : Heap) (l1 l2 : Addr) : Heap := (tzA h l1).push { cls := .type "tuple_iterator", data := .fields #[.ref l2, .int 0 0] }
abbrev tzC (h : Heap) (l1 l2 : Addr) : Heap := (tzB h l1 l2).push { cls := .type "tuple", data := .seq #[.ref h.objs.size, .ref (tzA h l1).objs.size] }
abbrev tzD (h : Heap) (l1 l2 : Addr) : Heap := (tzC h l1 l2).push { cls := .type "tuple", data := .seq #[.none, .none] }
abbrev tzE (h : Heap) (l1 l2 : Addr) : Heap := (tzD h l1 l2).push { cls := .type "zip", data := .fields #[.none, .bool false, .bool false, .ref (tzB h l1 l2).objs.size, .ref (tzC h l1 l2).objs.size] }
theorem meets_zipT (l1 l2 : Addr) (xs ys : Array Value) :
    Meets (Builtin.«zip.__new__» ⟨[.type "zip", .ref l1, .ref l2], []⟩) (fun _ R s => s.heap.IsTuple l1 xs ∧ s.heap.IsTuple l2 ys ∧ R (.ok (.ret (.ref (tzD s.heap l1 l2).objs.size))) { s with heap := tzE s.heap l1 l2 }) :=
  .of_wp fun prog w A R s h => by
    obtain ⟨hp, g, d, tk, os⟩ := s; obtain ⟨hl1, hl2, h⟩ := h
    have hsub := sub_zip
    have hL1 : Heap.IsTuple (Shared.heap ⟨hp, g, d, tk, os⟩) l1 xs := hl1
    have hL2 : Heap.IsTuple (Shared.heap ⟨hp.push { cls := .type "tuple_iterator", data := .fields #[.ref l1, .int 0 0] }, g, d, tk, os⟩) l2 ys := Heap.IsTuple.push hl2 _
    wp_walk using wpAny_pyIter_tuple hL1, wpAny_pyIter_tuple hL2
    exact ⟨_, rfl, h⟩
section
variable {prog : Program} {w : World} {A : Around} {E : Value → Shared → Prop} {s : Shared}
theorem call_zipT {l1 l2 : Addr} {xs ys : Array Value} {Q : Value → Shared → Prop} (hl1 : s.heap.IsTuple l1 xs) (hl2 : s.heap.IsTuple l2 ys)
    (h : ∀ h', IsZip h' (s.heap.objs.size + 4) (s.heap.objs.size + 2) (s.heap.objs.size + 3) .none → IsPair h' (s.heap.objs.size + 2) (.ref s.heap.objs.size) (.ref (s.heap.objs.size + 1)) → IsPair h' (s.heap.objs.size + 3) .none .none →
      h'.IsTupleIter s.heap.objs.size l1 0 → h'.IsTupleIter (s.heap.objs.size + 1) l2 0 → (∀ c o, s.heap.get? c = some o → h'.get? c = some o) → Q (.ref (s.heap.objs.size + 4)) { s with heap := h' }) :
    wpAny (model prog w) A (call (.type "zip") [.ref l1, .ref l2]) Q E s := by
  refine callType_new F.called_zip (by decide) (F.typeCall_zip_2 _ _) (F.newCall_zip_2 _ _) (fun obj => F.args_object_init_3 obj _ _) F.entry_zip_new (meets_zipT l1 l2 xs ys) ⟨hl1, hl2, ?_⟩
  have z1 : (tzA s.heap l1).objs.size = s.heap.objs.size + 1 := Heap.size_push ..
  have z2 : (tzB s.heap l1 l2).objs.size = s.heap.objs.size + 2 := by rw [Heap.size_push, z1]
  have z3 : (tzC s.heap l1 l2).objs.size = s.heap.objs.size + 3 := by rw [Heap.size_push, z2]
  have z4 : (tzD s.heap l1 l2).objs.size = s.heap.objs.size + 4 := by rw [Heap.size_push, z3]
  have g5 : (tzE s.heap l1 l2).get? (tzD s.heap l1 l2).objs.size = some _ := Heap.get?_push_size _ rfl
  have g4 : (tzE s.heap l1 l2).get? (tzC s.heap l1 l2).objs.size = some _ := Heap.get?_push_of_some _ (Heap.get?_push_size _ rfl)
  have g3 : (tzE s.heap l1 l2).get? (tzB s.heap l1 l2).objs.size = some _ := Heap.get?_push_of_some _ (Heap.get?_push_of_some _ (Heap.get?_push_size _ rfl))
  have g2 : (tzE s.heap l1 l2).get? (tzA s.heap l1).objs.size = some _ := Heap.get?_push_of_some _ (Heap.get?_push_of_some _ (Heap.get?_push_of_some _ (Heap.get?_push_size _ rfl)))
  have g1 : (tzE s.heap l1 l2).get? s.heap.objs.size = some _ := Heap.get?_push_of_some _ (Heap.get?_push_of_some _ (Heap.get?_push_of_some _ (Heap.get?_push_of_some _ (Heap.get?_push_size _ rfl))))
  show _ ∧ _
  rw [z2, z3, z4] at g5
  rw [z1, z2] at g3
  rw [z3] at g4
  rw [z1] at g2
  rw [z4]
  exact ⟨⟨_, g5, rfl⟩, h _ g5 g3 g4 ⟨_, g1, rfl, rfl⟩ ⟨_, g2, rfl, rfl⟩ fun c o x => Heap.get?_push_of_some _ (Heap.get?_push_of_some _ (Heap.get?_push_of_some _ (Heap.get?_push_of_some _ (Heap.get?_push_of_some _ x))))⟩
end
/-- the tuples at a and b, the items in new pairs -/
def Itzt (K : PySem.W.Frag) (a b : Addr) : It :=
  ⟨fun i H => ∃ (xs ys : List V) (x y : V), SqT K H a xs ∧ SqT K H b ys ∧ xs[i]? = some x ∧ ys[i]? = some y,
    fun i H v H' => ∃ T x y, v = .ref T ∧ H T = none ∧ H' = upd H T (.tup [x, y]) ∧ (∀ xs, SqT K H a xs → xs[i]? = some x) ∧ ∀ ys, SqT K H b ys → ys[i]? = some y,
    fun i H => ∃ xs ys : List V, SqT K H a xs ∧ SqT K H b ys ∧ (xs.length ≤ i ∨ ys.length ≤ i)⟩
theorem turn_zipT {P : Program} {w : World} {K : PySem.W.Frag} {elts : List Expr} {kk : Nat} {tpos : Pos} {a b z TI TO i1 i2 : Addr} (D : ZApart z TI TO i1 i2 [i1, a] [i2, b]) (n1 : a ≠ i1) (n2 : b ≠ i2) :
    Turn P w K (.Tuple elts kk tpos) (Itzt K a b) [z, TI, TO, i1, i2] z (fun i h => IsZip h z TI TO .none ∧ IsPair h TI (.ref i1) (.ref i2) ∧ (∃ x y, IsPair h TO x y) ∧ h.IsTupleIter i1 a i ∧ h.IsTupleIter i2 b i) where
  mem := by simp
  obj := fun i h st c hc => by
    obtain ⟨hz, hTI, ⟨x, y, hTO⟩, ⟨o1, e1, _, d1⟩, ⟨o2, e2, _, d2⟩⟩ := st
    have e' : c = z ∨ c = TI ∨ c = TO ∨ c = i1 ∨ c = i2 := by simpa using hc
    rcases e' with q | q | q | q | q
    · rw [q]; exact ⟨_, hz, fun v q => nomatch q⟩
    · rw [q]; exact ⟨_, hTI, fun v q => nomatch q⟩
    · rw [q]; exact ⟨_, hTO, fun v q => nomatch q⟩
    · rw [q]; exact ⟨o1, e1, fun v q => by rw [d1] at q; cases q⟩
    · rw [q]; exact ⟨o2, e2, fun v q => by rw [d2] at q; cases q⟩
  keep := fun i h h' st k => by
    obtain ⟨hz, hTI, ⟨x, y, hTO⟩, h1, h2⟩ := st
    exact ⟨k z (by simp) _ hz, k TI (by simp) _ hTI, ⟨x, y, k TO (by simp) _ hTO⟩, h1.at fun o q => k i1 (by simp) o q, h2.at fun o q => k i2 (by simp) o q⟩
  item := by
    intro X hP hw hK hc i pins s σ H E I hf st hg
    subst hP hw hK
    obtain ⟨hz, hTI, ⟨x0, y0, hTO⟩, h1, h2⟩ := st
    obtain ⟨xs, ys, x, y, hqx, hqy, hx, hy⟩ := hg
    obtain ⟨its, rv, p, _⟩ := I.tuple hqx
    obtain ⟨its2, rv2, p2, _⟩ := I.tuple hqy
    obtain ⟨u, hu, ru⟩ := rv.get hx
    obtain ⟨u2, hu2, ru2⟩ := rv2.get hy
    have hh := I.ok.hd hc
    have hzl : z < s.heap.objs.size := Heap.lt_size hz
    have hT : s.TypeIs (.ref z) "zip" := ⟨_, hz, rfl⟩
    unfold pyNext
    refine wpAny_bind (wpAny_attempt (wpAny_callSpecial?_slot (name := Str.ofString "__next__") hT F.slot_zip_next (wpAny_call_entry F.slot_zip_next hT F.entry_zip_next
      (zip_item (nextI_tuple (A := X.A.in1) hh i1 a its.toArray) (nextI_tuple (A := X.A.in1) hh i2 b its2.toArray) D hz hTI hTO ⟨h1, p, n1⟩ ⟨h2, p2, n2⟩ (x := u) (y := u2) (by simpa using hu) (by simpa using hu2) fun h' z' TO' h1' h2' hT hk => wpAny_pure ?_) (F.args_zip_next_1 _))))
    refine ⟨_, rfl, wpAny_letOwnedTupleGo_zip (s := { s with heap := h' }) z' fun h'' z'' sb => ?_⟩
    have hT2 : h''.get? s.heap.objs.size = some { cls := .type "tuple", data := .seq #[u, u2] } := (sb.2 _ (Nat.ne_of_gt hzl)).trans hT
    have new : ObjOk X.prog X.w (upd H s.heap.objs.size (.tup [x, y])) h'' s.heap.objs.size (.tup [x, y]) := ⟨by show 2 ≤ sizeLine; decide, [u, u2], .cons ru (.cons ru2 .nil), ⟨_, hT2, rfl, _, rfl⟩⟩
    have I1 : Inv X pins σ (upd H s.heap.objs.size (.tup [x, y])) { s with heap := h'' } :=
      I.turnedNew (t' := s.toks) (ch := [z, TI, TO, i1, i2]) (fun c o hb q => (sb.2 c (fun q' => hb (by simp [q']))).trans (hk c o (fun q' => hb (by simp [q'])) (fun q' => hb (by simp [q'])) (fun q' => hb (by simp [q'])) (fun q' => hb (by simp [q'])) q)) hf (Nat.le_refl _) new
    refine ⟨.ref s.heap.objs.size, _, I1, rfl, ⟨_, x, y, rfl, I.hok.fresh (Nat.le_refl _), rfl, fun l hl => by rw [I.tuple_inj hl hqx]; exact hx, fun l hl => by rw [I.tuple_inj hl hqy]; exact hy⟩, ⟨z'', ?_, ⟨u, u2, ?_⟩, ?_, ?_⟩, fun c hcm => ?_⟩
    · exact (sb.2 _ D.TIz).trans (hk _ _ D.TIz D.TITO D.TIi1 D.TIi2 hTI)
    · exact (sb.2 _ D.TOz).trans TO'
    · exact h1'.1.at fun o q => (sb.2 _ D.i1z).trans q
    · exact h2'.1.at fun o q => (sb.2 _ D.i2z).trans q
    · have hlt : c < s.heap.objs.size := by
        have e' : c = z ∨ c = TI ∨ c = TO ∨ c = i1 ∨ c = i2 := by simpa using hcm
        rcases e' with q | q | q | q | q
        · rw [q]; exact hzl
        · rw [q]; exact Heap.lt_size hTI
        · rw [q]; exact Heap.lt_size hTO
        · rw [q]; obtain ⟨_, e1, _⟩ := h1; exact Heap.lt_size e1
        · rw [q]; obtain ⟨_, e2, _⟩ := h2; exact Heap.lt_size e2
      rw [upd_ne (Nat.ne_of_lt hlt)]
      exact (hf c hcm).1
  done := by
    intro X hP hw hK hc i pins s σ H E I hf st hg
    subst hP hw hK
    obtain ⟨hz, hTI, ⟨x0, y0, hTO⟩, h1, h2⟩ := st
    obtain ⟨xs, ys, hqx, hqy, hend⟩ := hg
    obtain ⟨its, rv, p, _⟩ := I.tuple hqx
    obtain ⟨its2, rv2, p2, _⟩ := I.tuple hqy
    have l1 := rv.length
    have l2 := rv2.length
    have he : its.toArray[i]? = none ∨ its2.toArray[i]? = none := by
      rcases hend with q | q
      · exact .inl (by simp; omega)
      · exact .inr (by simp; omega)
    have hh := I.ok.hd hc
    have hT : s.TypeIs (.ref z) "zip" := ⟨_, hz, rfl⟩
    unfold pyNext
    refine wpAny_bind (wpAny_attempt (wpAny_callSpecial?_slot (name := Str.ofString "__next__") hT F.slot_zip_next (wpAny_call_entry F.slot_zip_next hT F.entry_zip_next
      (zip_stop (nextI_tuple (A := X.A.in1) hh i1 a its.toArray) (nextI_tuple (A := X.A.in1) hh i2 b its2.toArray) D hz hTI hTO ⟨h1, p, n1⟩ ⟨h2, p2, n2⟩ he fun h' e hk he => ?_) (F.args_zip_next_1 _))))
    obtain ⟨o, ho, hc⟩ := he
    refine wpAny_bind (wpAny_isInstance (T := "StopIteration") (b := true) ⟨o, ho, hc⟩ isSubtype_stop (wpAny_pure ⟨rfl, ?_⟩))
    exact I.turnedL (t' := s.toks) (ch := [z, TI, TO, i1, i2]) (fun c o hb q => hk c o (fun q' => hb (by simp [q'])) (fun q' => hb (by simp [q'])) (fun q' => hb (by simp [q'])) (fun q' => hb (by simp [q'])) q) hf
  self := fun A i s Q E st h => wpAny_pyIter_zip st.1 h
def iZipT (K : PySem.W.Frag) (ta : TA) : TI := fun σ H R => ta σ H fun vs H1 => ∃ a b xs ys, vs = [.ref a, .ref b] ∧ SqT K H1 a xs ∧ SqT K H1 b ys ∧ R (Itzt K a b) H1
theorem neN {x y : Nat} (h : x < y ∨ y < x) : x ≠ y := by omega
theorem zapart (n a b : Nat) (la : a < n) (lb : b < n) : ZApart (n + 4) (n + 2) (n + 3) n (n + 1) [n, a] [n + 1, b] := by
  constructor
  any_goals (refine neN ?_; omega)
  · intro (c : Nat) hc
    have e' : c = n ∨ c = a := by simpa using hc
    refine ⟨neN ?_, neN ?_, neN ?_⟩ <;> (rcases e' with q | q <;> (rw [q]; omega))
  · intro (c : Nat) hc
    have e' : c = n + 1 ∨ c = b := by simpa using hc
    refine ⟨neN ?_, neN ?_, neN ?_⟩ <;> (rcases e' with q | q <;> (rw [q]; omega))
theorem pi_zipT {X : Cx} {e e2 : Expr} {ta : TA} {p pos tpos : Pos} {elts : List Expr} {kk : Nat} (hg : Gl X "zip") (hm : X.mg "zip" = none) (ha : PA X [e, e2] ta)
    (hs : starEach [e, e2] X.env = (false, eval e X.env) :: starEach [e2] X.env := by rfl) (hpl : (backTo pos (starEach [e2] X.env)).any (·.1) = false := by rfl) :
    PI X (.Tuple elts kk tpos) (.Call (.Name "zip" p) [e, e2] [] pos) (iZipT X.K ta) := by
  constructor
  intro pins s σ H R I h
  refine Call_ (ld_blt I hg hm boot_zip5 (PyProof.Rows.callWith_type1 (thn (ha pos pins s σ H _ I h) fun us s1 ⟨vs, H1, I1, r1, q1⟩ => ?_) hs hpl))
  obtain ⟨a, b, xs, ys, ex, hqx, hqy, q⟩ := q1
  subst ex
  cases r1 with
  | cons r rr =>
    cases rr with
    | cons r' rr =>
      cases rr
      cases r
      cases r'
      obtain ⟨its, rv, p1, _⟩ := I1.tuple hqx
      obtain ⟨its2, rv2, p2, _⟩ := I1.tuple hqy
      have la : a < s1.heap.objs.size := p1.lt
      have lb : b < s1.heap.objs.size := p2.lt
      refine call_zipT p1 p2 fun h' hz hTI hTO h1 h2 hk => wpAny_pyIter_zip hz ?_
      have I2 : Inv X pins σ H1 { s1 with heap := h' } := I1.kept (t' := s1.toks) hk
      refine ⟨s1.heap.objs.size + 4, [s1.heap.objs.size + 4, s1.heap.objs.size + 2, s1.heap.objs.size + 3, s1.heap.objs.size, s1.heap.objs.size + 1], _, _, H1, rfl, I2, turn_zipT ?_ (Nat.ne_of_lt la) (neN (.inl (by exact Nat.lt_succ_of_lt lb))), ⟨hz, hTI, ⟨_, _, hTO⟩, h1, h2⟩, fun c hcm => ?_, q⟩
      · exact zapart _ a b la lb
      · have e' : c = s1.heap.objs.size + 4 ∨ c = s1.heap.objs.size + 2 ∨ c = s1.heap.objs.size + 3 ∨ c = s1.heap.objs.size ∨ c = s1.heap.objs.size + 1 := by simpa using hcm
        have hle : s1.heap.objs.size ≤ c := by
          rcases e' with z | z | z | z | z
          · rw [z]; exact Nat.le_add_right _ _
          · rw [z]; exact Nat.le_add_right _ _
          · rw [z]; exact Nat.le_add_right _ _
          · rw [z]; exact Nat.le_refl _
          · rw [z]; exact Nat.le_add_right _ _
        exact I1.fpOk hle (I1.hok.fresh hle)
end L2

end
section
set_option linter.all false
set_option maxRecDepth 100000
namespace L2
open PySem PySem.Spec PyProof.Rows

/-! ### two rules for one construct -/
section
variable {X : Cx}
theorem pi_alt {tg l : Expr} {t u : TI} (a : PI X tg l t) (b : PI X tg l u) : PI X tg l (fun σ H R => t σ H R ∨ u σ H R) := ⟨fun pins s σ H R I h => h.elim (a pins s σ H R I) (b pins s σ H R I)⟩
end

theorem Ext.rd {H H' : Hp} {a : Addr} {o : HO} (x : Ext H H') (h : Rd H a o) : Rd H' a o := h.elim (fun e => .inl (x _ _ e)) fun ⟨u, e⟩ => .inr ⟨u, x _ _ e⟩
theorem Ext.sqL {K : PySem.W.Frag} {H H' : Hp} {a : Addr} {xs : List V} (x : Ext H H') (h : SqL K H a xs) : SqL K H' a xs := h.imp x.rd id
theorem Ext.sqT {K : PySem.W.Frag} {H H' : Hp} {a : Addr} {xs : List V} (x : Ext H H') (h : SqT K H a xs) : SqT K H' a xs := h.imp x.rd id
theorem ext_upd {H : Hp} {a : Addr} {o : HO} (hn : H a = none) : Ext H (upd H a o) := (Ext.refl H).upd hn

/-! ### kinds -/
inductive TyD (K : PySem.W.Frag) (H : Hp) : V → String → Prop
  | non : TyD K H .non "NoneType"
  | bl (b : Bool) : TyD K H (.bl b) "bool"
  | int (i : Int) : TyD K H (.int i) "int"
  | str (x : Str) : TyD K H (.str x) "str"
  | lst {a : Addr} {xs : List V} : SqL K H a xs → TyD K H (.ref a) "list"
  | tup {a : Addr} {xs : List V} : SqT K H a xs → TyD K H (.ref a) "tuple"
def isa (t n : String) : Bool := t == n || (t == "bool" && n == "int")
theorem kit_tab {K : PySem.W.Frag} {t n : String} (ht : t ∈ ["NoneType", "bool", "int", "str", "list", "tuple"]) (hn : n ∈ ["bool", "int", "str", "list", "tuple"]) : PySem.W.kitOne K (.type t) (.type n) = some (isa t n) := by
  simp only [List.mem_cons, List.not_mem_nil, or_false] at ht hn
  rcases ht with rfl | rfl | rfl | rfl | rfl | rfl <;> rcases hn with rfl | rfl | rfl | rfl | rfl <;> rfl
section
variable {X : Cx}
def rIsi (K : PySem.W.Frag) : List V → Hp → VK → Prop := fun xs H Q => ∃ x t n, xs = [x, .ty n] ∧ TyD K H x t ∧ n ∈ ["bool", "int", "str", "list", "tuple"] ∧ Q (.bl (isa t n)) H
theorem call_isi : CallR X (.builtin "isinstance") (rIsi X.K) := by
  intro pins s σ H xs us Q I r h
  obtain ⟨x, t, n, rfl, ty, hn, q⟩ := h
  cases r with
  | cons r1 rr =>
    cases rr with
    | cons r2 rr =>
      cases rr
      cases r2
      have fin : ∀ tk, EP X pins σ Q (.bool (isa t n)) { s with toks := tk } := fun tk => ⟨.bl _, H, I.tok tk, rfl, q⟩
      cases ty with
      | non => cases r1; exact PySem.W.kia_one PySem.W.kitx_none I.kIn True.intro (kit_tab (by simp) hn) (fun z => nomatch z) fin
      | bl b => cases r1; exact PySem.W.kia_one PySem.W.kitx_bool I.kIn True.intro (kit_tab (by simp) hn) (fun z => nomatch z) fin
      | int i => obtain ⟨t, rfl⟩ := r1; exact PySem.W.kia_one PySem.W.kitx_int I.kIn True.intro (kit_tab (by simp) hn) (fun z => nomatch z) fin
      | str y => obtain ⟨t, rfl⟩ := r1; exact PySem.W.kia_one PySem.W.kitx_str I.kIn True.intro (kit_tab (by simp) hn) (fun z => nomatch z) fin
      | lst hs =>
        cases r1
        obtain ⟨its, rv, ⟨o, n, ho, hc, _, hd⟩, _⟩ := I.list hs
        exact PySem.W.kia_one PySem.W.kitx_list I.kIn ⟨_, ho, hc⟩ (kit_tab (by simp) hn) (fun z => nomatch z) fin
      | tup hs =>
        cases r1
        obtain ⟨its, rv, ⟨o, ho, hc, n, hd⟩, _⟩ := I.tuple hs
        exact PySem.W.kia_one PySem.W.kitx_tuple I.kIn ⟨_, ho, hc⟩ (kit_tab (by simp) hn) (fun z => nomatch z) fin
/-- a built-in class's name as a value -/
theorem pe_ty {x : Str} {n : String} {pos : Pos} (hg : Gl X x) (hm : X.mg x = none) (hv : bootBuiltins x = some (.type n)) (hn : x ≠ "__name__" := by decide) (hd : (x == ("__debug__" : Str)) = false := by decide) : PE X (.Name x pos) (tC (.ty n)) :=
  pe_bltn hg hm hv rfl hn hd

/-! ### x *= y -/
/-! ### t + u of tuples, whichever is empty -/
def rCatG (K : PySem.W.Frag) : R2 := fun x y H Q => ∃ a b xs ys, x = .ref a ∧ y = .ref b ∧ SqT K H a xs ∧ SqT K H b ys ∧ xs.length + ys.length ≤ sizeLine ∧ ∀ p H', Ext H H' → SqT K H' p (xs ++ ys) → Q (.ref p) H'
theorem op_catG : OpR X (binaryOp .Add) (rCatG X.K) := by
  intro pins s σ H x y v u Q I rx ry h
  obtain ⟨a, b, xs, ys, rfl, rfl, ha, hb, hz, q⟩ := h
  by_cases hx : xs = []
  · subst hx
    cases rx
    cases ry
    obtain ⟨its, r1, ⟨⟨cls, dd, data, sl⟩, ho, hc, n, hd⟩, _⟩ := I.tuple ha
    obtain ⟨its2, r2, ⟨⟨cls2, dd2, data2, sl2⟩, ho2, hc2, n2, hd2⟩, _⟩ := I.tuple hb
    simp only at hc hd hc2 hd2
    subst hc hd hc2 hd2
    have e : its = [] := r1.nil_iff.mpr rfl
    subst e
    exact concat_meets ⟨_, ho, rfl⟩ ⟨_, ho2, rfl⟩ noFill_tuple_add seq_tuple_add PySem.F.slot_tuple_add PySem.F.entry_tuple_add (PySem.F.args_tuple_add_2 _ _)
      (tuple_addW0 a b #[] its2.toArray n n2 dd dd2 sl sl2 rfl) ⟨ho, ho2, .ref b, H, I, rfl, q b H (Ext.refl H) hb⟩
  · refine op_catT pins s σ H _ _ v u Q I rx ry ⟨a, b, xs, ys, rfl, rfl, ha, hb, hx, hz, fun e => ?_, fun _ p hp => q p _ (ext_upd hp) (SqT.of upd_same)⟩
    subst e
    exact q a H (Ext.refl H) (by rw [List.append_nil]; exact ha)
end
end L2

end
section
set_option linter.all false
set_option maxRecDepth 100000
namespace L2
open PySem PySem.Spec PyProof.Rows

/-! ### t[a:b] of a tuple, the whole too -/
section
variable {prog : Program} {w : World} {A : Around} {E : Value → Shared → Prop} {s : Shared}
theorem getItem_tuple_whole {t sl : Addr} {items : Array Value} {vl vu : Value} {lo hi : Option Int} {Q : Value → Shared → Prop} (ht : IsTup s.heap t items) (hs : s.heap.IsSliceOf sl vl vu .none) (pl : IsPart vl lo) (pu : IsPart vu hi)
    (hw : HT.sIx items.size 0 lo = 0 ∧ HT.sIx items.size items.size hi = items.size) (h : Q (.ref t) s) : wpAny (model prog w) A (getItem (.ref t) (.ref sl)) Q E s := by
  obtain ⟨os, hos, hcs, hds⟩ := id hs
  have hTs : s.TypeIs (.ref sl) "slice" := ⟨os, hos, hcs⟩
  unfold getItem
  try with_reducible refine wpAny_holding ?_
  first | refine wpAny_bind (wpAny_pure ?_) | skip
  refine wpAny_bind (wpAny_sequenceKey ht.typeIs (by decide) ?_)
  refine wpAny_bind (wpAny_callSpecial?_slot (name := Str.ofString "__getitem__") ht.typeIs PyProof.Rows.slot_tuple_getitem (wpAny_call_entry PyProof.Rows.slot_tuple_getitem ht.typeIs entry_tuple_getitem ?_ (args_tuple_getitem _ _)))
  show wpAny _ _ (Builtin.Tuple.tupleItemsOf (.ref t) >>= _) _ _ s
  refine wpAny_bind (tupleItemsOf_ ht (wpAny_bind (wpAny_typeOf hTs ?_)))
  rw [if_pos (by decide)]
  refine wpAny_bind (HT.sliceApplied_gen hs pl pu ?_)
  have hyes : (((HT.sIx items.size 0 lo : Nat) : Int) == 0 && (1 : Int) == 1 && (HT.sIx items.size items.size hi - HT.sIx items.size 0 lo) == items.size) = true := by
    rw [hw.1, hw.2]; simp
  show wpAny _ _ (if (((HT.sIx items.size 0 lo : Nat) : Int) == 0 && (1 : Int) == 1 && (HT.sIx items.size items.size hi - HT.sIx items.size 0 lo) == items.size) = true then _ else _) _ _ s
  rw [if_pos hyes]
  unfold Builtin.Tuple.tupleIsExact
  refine wpAny_bind (wpAny_bind (wpAny_typeOf ht.typeIs (wpAny_pure ?_)))
  rw [if_pos (by decide)]
  exact wpAny_bind (wpAny_rule (wpAny_bind (wpAny_pure (wpAny_pure ⟨_, rfl, wpAny_pure h⟩))))
end
section
variable {X : Cx}
def rSlG (K : PySem.W.Frag) : V → Option Int → Option Int → Hp → VK → Prop := fun x lo hi H Q => ∃ a xs, x = .ref a ∧ SqT K H a xs ∧ ∀ p H', Ext H H' → SqT K H' p (cutV xs lo hi) → Q (.ref p) H'
theorem sl_tupG : SlR X (rSlG X.K) := by
  intro pins s σ H x v vl vu lo hi sl Q I rx hs pl pu h
  obtain ⟨a, xs, rfl, hx, q⟩ := h
  by_cases hw : HT.sIx xs.length 0 lo = 0 ∧ HT.sIx xs.length xs.length hi = xs.length
  · cases rx
    obtain ⟨its, r, ht, hz⟩ := I.tuple hx
    have hlen : its.toArray.size = xs.length := by rw [List.size_toArray]; exact r.length.symm
    refine ⟨"tuple", _, PyProof.Rows.slot_tuple_getitem.lookup, ht.typeIs, getItem_tuple_whole ht hs pl pu (by rw [hlen]; exact hw) ⟨.ref a, H, I, rfl, q a H (Ext.refl H) ?_⟩⟩
    have e : cutV xs lo hi = xs := by unfold cutV; rw [hw.1, hw.2]; simp
    rw [e]; exact hx
  · exact sl_tup pins s σ H _ v vl vu lo hi sl Q I rx hs pl pu ⟨a, xs, rfl, hx, hw, fun p hp => q p _ (ext_upd hp) (SqT.of upd_same)⟩
/-- xs[a:b] of a list, read anywhere -/
def rSlLG (K : PySem.W.Frag) : V → Option Int → Option Int → Hp → VK → Prop := fun x lo hi H Q => ∃ a xs, x = .ref a ∧ SqL K H a xs ∧ ∀ p H', Ext H H' → H p = none → H' p = some (.lst (cutV xs lo hi)) → Q (.ref p) H'
theorem sl_listG : SlR X (rSlLG X.K) := by
  intro pins s σ H x v vl vu lo hi sl Q I rx hs pl pu h
  obtain ⟨a, xs, rfl, hx, q⟩ := h
  exact sl_list pins s σ H _ v vl vu lo hi sl Q I rx hs pl pu ⟨a, xs, rfl, hx, fun p hp => q p _ (ext_upd hp) hp upd_same⟩

/-! ### a[::k] -/
theorem Vals.pick : ∀ {is : List Nat} {xs : List V} {us : List Value}, Vals xs us → Vals (is.filterMap (xs[·]?)) (is.filterMap (us.toArray[·]?))
  | [], _, _, _ => .nil
  | i :: is, xs, us, r => by
    rw [List.filterMap_cons, List.filterMap_cons]
    have hl := r.length
    cases e : xs[i]? with
    | none =>
      have : us.toArray[i]? = none := by simpa using r.none_of e
      simp only [this]
      exact Vals.pick r
    | some x =>
      obtain ⟨u, hu, ru⟩ := r.get e
      have : us.toArray[i]? = some u := by simpa using hu
      simp only [this]
      exact .cons ru (Vals.pick r)
end
end L2

end
section
set_option linter.all false
set_option maxRecDepth 100000
namespace L2
open PySem PySem.Spec PyProof.Rows

/-! ### t[::-1] of a tuple -/
section
variable {prog : Program} {w : World} {A : Around} {E : Value → Shared → Prop} {s : Shared}
end
section
variable {X : Cx}
/-! ### a dict of the module's top, by texts -/
structure TopD (K : PySem.W.Frag) (P : Params) (a : Addr) (tab : List (Str × V)) : Prop where
  obj : ∃ es n, K.lookup a = some ⟨.type "dict", none, .dict es n, #[]⟩ ∧ PySem.W.KeysLit P es.toList
  at_ : ∀ x v, tab.lookup x = some v → ∃ u, PySem.W.nsIn K a x = some (some u) ∧ RelV v u
/-! ### the def that a name holds is called -/
/-! ### is True, is False -/
/-! ### list(range(..)) -/
def tLR (ta : TE) : TE := fun σ H Q => ta σ H fun v H1 => ∃ n : Nat, v = .int (n : Nat) ∧ n ≤ 100000 ∧ ∀ l, H1 l = none → Q (.ref l) (upd H1 l (.lst ((List.range n).map fun (i : Nat) => V.int (i : Nat))))
theorem pe_listRange {a : Expr} {ta : TE} {p p2 pos pos2 : Pos} (hc : X.calm = true) (hgl : Gl X "list") (hml : X.mg "list" = none) (hg : Gl X "range") (hm : X.mg "range" = none) (ha : PE X a ta)
    (hs : starEach [a] X.env = [(false, eval a X.env)] := by rfl) (hs2 : starEach [Expr.Call (.Name "range" p2) [a] [] pos2] X.env = [(false, eval (.Call (.Name "range" p2) [a] [] pos2) X.env)] := by rfl) :
    PE X (.Call (.Name "list" p) [.Call (.Name "range" p2) [a] [] pos2] [] pos) (tLR ta) := by
  constructor
  intro pins s σ H Q I h
  refine wpAny_Call_Name_kw (ld_blt I hgl hml (by decide +kernel : bootBuiltins "list" = some (.type "list")) ?_)
  refine PyProof.Rows.callWith_type1 ?_ (by rw [hs2]; rfl) rfl
  rw [hs2]
  refine Calls.spliced_cons ?_
  refine Call_ (ld_blt I hg hm boot_range (PyProof.Rows.callWith_type1 ?_ hs rfl))
  rw [hs]
  refine Calls.spliced_cons (thn (ha pins s σ H _ I h) fun u s1 ⟨v, H1, I1, r1, n, ev, hn, q⟩ => Calls.spliced_nil ?_)
  subst ev
  obtain ⟨t, rfl⟩ := r1
  refine call_range_1 (Calls.spliced_nil ?_)
  have hr : IsRange (s1.heap.push { cls := .type "range", data := .fields #[.int 0 s1.toks, .int (n : Nat) t, .int 1 (s1.toks + 1)] }) s1.heap.objs.size 0 (n : Nat) 1 s1.toks t (s1.toks + 1) := Heap.get?_push_size _ rfl
  have I2 : Inv X pins σ H1 { s1 with heap := s1.heap.push { cls := .type "range", data := .fields #[.int 0 s1.toks, .int (n : Nat) t, .int 1 (s1.toks + 1)] }, toks := s1.toks + 1 + 1 } := I1.kept fun b o e => Heap.get?_push_of_some _ e
  refine call_list_range (n := n) (I2.ok.hd hc) hr (small_one (by omega) (by omega) (by omega) (by omega)) (by rw [rangeSize_one]; split <;> omega) (by omega) fun h' tk acc' c' hk hS' hacc => ?_
  generalize hz : (s1.heap.push { cls := .type "range", data := .fields #[.int 0 s1.toks, .int (n : Nat) t, .int 1 (s1.toks + 1)] }).objs.size = z at hS'
  have hfr : H1 z = none := I2.hok.fresh (Nat.le_of_eq hz)
  refine ⟨.ref z, _, I2.laid (t' := tk) (a := z) (o := .lst ((List.range n).map fun (i : Nat) => V.int (i : Nat))) (fun b o e => hk b o e) (Nat.le_of_eq hz) ⟨?_, acc'.toList, c', ?_, ?_⟩, rfl, q z hfr⟩
  · rw [List.length_map, List.length_range]
    exact Nat.le_trans hn (by decide)
  · have go : ∀ (ys : List V) (us : List Value), ys.length = us.length → (∀ (j : Nat) y u, ys[j]? = some y → us[j]? = some u → RelV y u) → Vals ys us := by
      intro ys
      induction ys with
      | nil => intro us hl _; cases us with | nil => exact .nil | cons _ _ => cases hl
      | cons y ys ih =>
        intro us hl h
        cases us with
        | nil => cases hl
        | cons u us => exact .cons (h 0 y u rfl rfl) (ih us (by simpa using hl) fun j y' u' e1 e2 => h (j + 1) y' u' (by simpa using e1) (by simpa using e2))
    refine go _ _ (by simp [hacc.1]) fun j y u e1 e2 => ?_
    have e2' : acc'[j]? = some u := by simpa using e2
    obtain ⟨tk', e3⟩ := hacc.2 j u e2'
    have hj : j < n := by
      have := (Array.getElem?_eq_some_iff.mp e2').1
      rw [hacc.1] at this; exact this
    rw [List.getElem?_map, List.getElem?_range hj] at e1
    have e4 : V.int (j : Nat) = y := Option.some.inj e1
    subst e4
    refine ⟨tk', ?_⟩
    rw [e3]
    simp
  · simpa using hS'

/-! ### repr of data -/
mutual
def noDict : PyData → Bool
  | .dict _ => false
  | .list ds => noDictAll ds
  | .tuple ds => noDictAll ds
  | _ => true
def noDictAll : List PyData → Bool
  | [] => true
  | d :: ds => noDict d && noDictAll ds
end
end
end L2

end
section
set_option linter.all false
set_option maxRecDepth 100000
namespace L2
open PySem PySem.Spec PyProof.Rows

/-- THE RULE for a def that bears generator expressions: its code is told -/
theorem Fun.okG {P : Program} {w : World} {K : PySem.W.Frag} {mg : Str → Option Value} {base : Heap} {x qual : Str} {st : Stmt} {f : Addr} {fd : FuncData} {N ps : List Str} {k : Nat} {sp : Sp} (F : Fun K x qual st f fd) (S : FnScope N ps (defScope st)) (len : ∀ vs H Q E, sp vs H Q E → vs.length = ps.length)
    (hbody : ∀ (cdv : Value) (A : Around) (outer : List Env) (s : Shared) (H : Hp) (vs : List V) (Q : VK) (E : XK), fd.code = cdv → Room k (A.deeper (envOfC qual (defScope st) s.heap.objs.size f cdv)) → sp vs H Q E →
      ∃ t, PSs (cxOf CX0 P w K mg base N qual (defScope st) f cdv A outer s H E).nox (defBody st) t ∧ t { nx := fun _ H' => Q .non H', rt := Q } (start N vs) H) : FnOk P w K mg base CX0 (k + 1) f fd ps sp := by
  obtain ⟨oc, od, kV, doc, pm, an, cdv, ct, osl, rfl, lk, hcd⟩ := F.ex
  refine fn_of lk hcd S len fun A outer s H vs Q E hr hsp => ?_
  obtain ⟨t, h, q⟩ := hbody cdv A outer s H vs Q E rfl hr hsp
  exact ⟨t, h.nox, q⟩
theorem Fun.tab {K : PySem.W.Frag} {mg : Str → Option Value} {base : Heap} {gn : List Str} {TB : List Addr} {x qual : Str} {st : Stmt} {f : Addr} {fd : FuncData} (F : Fun K x qual st f fd) (hk : K.In base) (ht : Tabs gn mg base TB) (hx : x ∈ gn) (hm : mg x = some (.ref f)) : ∃ P, P ∈ TB ∧ TabOf base fd.code P := by
  obtain ⟨oc, od, kV, doc, pm, an, cdv, ct, osl, rfl, lk, hcd⟩ := F.ex
  exact ht x hx f _ _ hm (hk _ _ lk) rfl

/-- all but the list at j stays -/
def Keep (j : Addr) (H H' : Hp) : Prop := ∀ b o, H b = some o → b ≠ j → H' b = some o
theorem Keep.refl (j : Addr) (H : Hp) : Keep j H H := fun _ _ e _ => e
theorem Keep.trans {j : Addr} {H H1 H2 : Hp} (a : Keep j H H1) (b : Keep j H1 H2) : Keep j H H2 := fun c o e n => b c o (a c o e n) n
theorem Ext.keep {j : Addr} {H H' : Hp} (a : Ext H H') : Keep j H H' := fun c o e _ => a c o e
theorem Keep.sqT {K : PySem.W.Frag} {j a : Addr} {H H' : Hp} {xs ys : List V} (k : Keep j H H') (hj : H j = some (.lst ys)) (h : SqT K H a xs) : SqT K H' a xs := by
  rcases h with (h | ⟨o, h⟩) | h
  · exact .inl (.inl (k _ _ h (ne_of h hj (by intro z; cases z))))
  · exact .inl (.inr ⟨o, k _ _ h (ne_of h hj (by intro z; cases z))⟩)
  · exact .inr h
theorem Keep.tbl {j P : Addr} {H H' : Hp} {ys : List V} (k : Keep j H H') (hj : H j = some (.lst ys)) (h : H P = some (TblO P)) : H' P = some (TblO P) := k _ _ h (ne_of h hj (by intro z; cases z))
theorem Keep.upd {j : Addr} {H : Hp} {o : HO} : Keep j H (upd H j o) := fun b u e n => by rw [upd_ne n]; exact e

/-- the law's jar: a list of three: the script's list at l, how often it was dipped into, what is left -/
def Jr (H : Hp) (j l : Addr) (m : Nat) : Prop := ∃ (ns : List Int) (d : Nat) (c : Int), H j = some (.lst [.ref l, .int d, .int c]) ∧ H l = some (.lst (ns.map V.int)) ∧ l ≠ j ∧ d ≤ m ∧ 0 ≤ c
theorem Jr.mono {H : Hp} {j l : Addr} {m n : Nat} (h : Jr H j l m) (hm : m ≤ n) : Jr H j l n := by
  obtain ⟨ns, d, c, h1, h2, h3, h4, h5⟩ := h
  exact ⟨ns, d, c, h1, h2, h3, Nat.le_trans h4 hm, h5⟩
theorem Jr.lst {H : Hp} {j l : Addr} {m : Nat} (h : Jr H j l m) : ∃ ys, H j = some (.lst ys) := by
  obtain ⟨ns, d, c, h1, _⟩ := h
  exact ⟨_, h1⟩
theorem Jr.lst2 {H : Hp} {j l : Addr} {m : Nat} (h : Jr H j l m) : ∃ ys, H l = some (.lst ys) := by
  obtain ⟨ns, d, c, _, h2, _⟩ := h
  exact ⟨_, h2⟩
theorem Jr.ne {H : Hp} {j l p : Addr} {m : Nat} (h : Jr H j l m) (n : H p = none) : p ≠ j ∧ p ≠ l := by
  obtain ⟨ys, e⟩ := h.lst
  obtain ⟨zs, e2⟩ := h.lst2
  exact ⟨fun z => (by rw [← z, n] at e; cases e), fun z => (by rw [← z, n] at e2; cases e2)⟩
theorem Jr.upd {H : Hp} {j l p : Addr} {m : Nat} {o : HO} (h : Jr H j l m) (n1 : p ≠ j) (n2 : p ≠ l) : Jr (upd H p o) j l m := by
  obtain ⟨ns, d, c, h1, h2, h3⟩ := h
  exact ⟨ns, d, c, by rw [upd_ne (Ne.symm n1)]; exact h1, by rw [upd_ne (Ne.symm n2)]; exact h2, h3⟩
theorem Ext.jr {H H' : Hp} {j l : Addr} {m : Nat} (x : Ext H H') (h : Jr H j l m) : Jr H' j l m := by
  obtain ⟨ns, d, c, h1, h2, h3⟩ := h
  exact ⟨ns, d, c, x _ _ h1, x _ _ h2, h3⟩

/-- a tuple of ints -/
def IT (K : PySem.W.Frag) (H : Hp) (v : V) (ns : List Int) : Prop := ∃ a, v = .ref a ∧ SqT K H a (ns.map V.int)
/-- a part -/
def PtT (K : PySem.W.Frag) (H : Hp) (v : V) (p : List Int × List Int) : Prop := ∃ a x y, v = .ref a ∧ SqT K H a [x, y] ∧ IT K H x p.1 ∧ IT K H y p.2
/-- a sheet -/
def ShT (K : PySem.W.Frag) (H : Hp) (v : V) (s : List Int × List (List Int × List Int)) : Prop := ∃ a x b ps, v = .ref a ∧ SqT K H a [x, .ref b] ∧ IT K H x s.1 ∧ SqT K H b ps ∧ Paired (PtT K H) ps s.2
section
variable {K : PySem.W.Frag} {H H' : Hp} {v : V}
theorem IT.ext {ns : List Int} (x : Ext H H') (h : IT K H v ns) : IT K H' v ns := let ⟨a, e, q⟩ := h; ⟨a, e, x.sqT q⟩
theorem IT.keep {ns : List Int} {j : Addr} {ys : List V} (x : Keep j H H') (hj : H j = some (.lst ys)) (h : IT K H v ns) : IT K H' v ns := let ⟨a, e, q⟩ := h; ⟨a, e, x.sqT hj q⟩
theorem PtT.ext {p : List Int × List Int} (x : Ext H H') (h : PtT K H v p) : PtT K H' v p := let ⟨a, y, z, e, q, h1, h2⟩ := h; ⟨a, y, z, e, x.sqT q, h1.ext x, h2.ext x⟩
theorem PtT.keep {p : List Int × List Int} {j : Addr} {ys : List V} (x : Keep j H H') (hj : H j = some (.lst ys)) (h : PtT K H v p) : PtT K H' v p := let ⟨a, y, z, e, q, h1, h2⟩ := h; ⟨a, y, z, e, x.sqT hj q, h1.keep x hj, h2.keep x hj⟩
theorem ShT.ext {p : List Int × List (List Int × List Int)} (x : Ext H H') (h : ShT K H v p) : ShT K H' v p := let ⟨a, y, z, ps, e, q, h1, h2, h3⟩ := h; ⟨a, y, z, ps, e, x.sqT q, h1.ext x, x.sqT h2, Paired.mapP h3 fun _ _ r => r.ext x⟩
theorem ShT.keep {p : List Int × List (List Int × List Int)} {j : Addr} {ys : List V} (x : Keep j H H') (hj : H j = some (.lst ys)) (h : ShT K H v p) : ShT K H' v p := let ⟨a, y, z, ps, e, q, h1, h2, h3⟩ := h; ⟨a, y, z, ps, e, x.sqT hj q, h1.keep x hj, x.sqT hj h2, Paired.mapP h3 fun _ _ r => r.keep x hj⟩
end
/-- the product of a list -/
def prodI (ns : List Int) : Int := ns.foldl (· * ·) 1
theorem int_at {ns : List Int} {i : Nat} {y : V} (h : (ns.map V.int)[i]? = some y) : ∃ x, ns[i]? = some x ∧ y = .int x := by
  rw [List.getElem?_map] at h
  cases e : ns[i]? with
  | none => rw [e] at h; cases h
  | some x => rw [e] at h; exact ⟨x, rfl, (Option.some.inj h).symm⟩
/-! ### the promises of the law's own helpers, and of the plainest defs -/
def spPrime : Sp := fun vs H Q _ => ∃ n : Int, vs = [.int n] ∧ 0 ≤ n ∧ ∀ (r : Int) (H' : Hp), 2147483423 ≤ r → r ≤ 2147483647 → Ext H H' → Q (.int r) H'
end L2
namespace L2
open PySem PySem.Spec PyProof.Rows
def wholeV (x : V) (lo hi : Int) : Bool := match x with
  | .int i => decide (lo ≤ i) && decide (i ≤ hi)
  | _ => false
theorem TyD.ext {K : PySem.W.Frag} {H H' : Hp} {v : V} {t : String} (x : Ext H H') (h : TyD K H v t) : TyD K H' v t := by
  cases h with
  | non => exact .non
  | bl b => exact .bl b
  | int i => exact .int i
  | str s => exact .str s
  | lst s => exact .lst (x.sqL s)
  | tup s => exact .tup (x.sqT s)
end L2
namespace L2
/-- a cut behind a statement: M is what stands there -/
theorem seq_cut {t u : TS} {D : Ends} {σ : St} {H : Hp} (M : St → Hp → Prop) (h2 : ∀ σ' H', M σ' H' → u D σ' H') (h1 : ∀ N : St → Hp → Prop, (∀ σ' H', M σ' H' → N σ' H') → t { D with nx := N } σ H) : tSeq t u D σ H := h1 (u D) h2
end L2
namespace L2
open PySem PySem.Spec PyProof.Rows
/-! ### displays of constants -/
def constV : Expr → Option V
  | .Constant (.int i) _ _ => some (.int i)
  | .Constant (.bool b) _ _ => some (.bl b)
  | .Constant (.str x) _ _ => some (.str x)
  | .Constant .none _ _ => some .non
  | _ => none
def constVs : List Expr → Option (List V)
  | [] => some []
  | e :: es => match constV e, constVs es with
    | some v, some vs => some (v :: vs)
    | _, _ => none
theorem pe_const {X : Cx} {e : Expr} {v : V} (h : constV e = some v) : PE X e (tC v) := by
  unfold constV at h
  split at h <;> cases h
  · exact pe_int
  · exact pe_bl
  · exact pe_str
  · exact pe_non
theorem star_const {X : Cx} {e : Expr} {es : List Expr} {v : V} (h : constV e = some v) : starEach (e :: es) X.env = (false, eval e X.env) :: starEach es X.env := by
  unfold constV at h
  split at h <;> first | rfl | cases h
def tVs (vs : List V) : TA := fun _ H Q => Q vs H
theorem pa_const {X : Cx} : ∀ {es : List Expr} {vs : List V}, constVs es = some vs → PA X es (tVs vs)
  | [], vs, h => by cases h; exact pa_nil
  | e :: es, vs, h => by
    unfold constVs at h
    split at h
    · rename_i v vs' h1 h2
      cases h
      exact pa_cons (pe_const h1) (pa_const h2) (star_const h1)
    · cases h
end L2

end
section
set_option linter.all false
set_option maxRecDepth 100000
namespace L2
open PySem PySem.Spec PyProof.Rows

/-! ### exceptions of one's own as objects -/
section
variable {prog : Program} {w : World} {A : Around} {E : Value → Shared → Prop} {s : Shared} {K : PySem.W.Frag} {x C : Addr} {ox : Obj} {od : Option Obj} {name : Str} {tk : Tok}

end

end L2

end
section
set_option linter.all false
set_option maxRecDepth 100000
namespace L2
open PySem PySem.Spec PyProof.Rows

abbrev vMro : List Value := [.type "ValueError", .type "Exception", .type "BaseException", .type "object"]
structure ExFacts (h : Heap) (C : Addr) (ini : Option Value) (nm q : Str) (N : Addr) (bs bm : List Value) (hdct : Bool) (sn : List Str) (sub : List Value) (ab : Bool) (col : Option Bool) (dd : Option Addr) (k0 k1 k2 k3 k5 : Option Value) (mN : Str → Option Value) : Prop where
  at_ : h.get? C = some (excClassObj nm q C N bs bm hdct sn sub ab col dd k0 k1 k2 k3 k5 "ValueError.__new__")
  ns : h.Ns N mN
  ini : mN "__init__" = ini
  tail : OwnTail h vMro bm
/-! ### such an object, tracked -/
def ExO (a C : Addr) (d : Option Addr) : HO := .ext fun h => ∃ o vs v0, h.get? a = some o ∧ o.cls = .ref C ∧ o.dict = d ∧ o.data = .fields vs ∧ vs.size = 6 ∧ vs[0]? = some (.ref v0)
theorem ObjOk.ex {P : Program} {w : World} {H : Hp} {h : Heap} {a : Addr} {o : HO} (x : ObjOk P w H h a o) : ∃ u, h.get? a = some u := by
  cases o with
  | lst xs => obtain ⟨_, _, _, _, e⟩ := x; exact ⟨_, e⟩
  | tup xs => obtain ⟨_, _, _, u, e, _⟩ := x; exact ⟨u, e⟩
  | dK kvs => obtain ⟨_, _, _, _, u, _, _, e, _⟩ := x; exact ⟨u, e⟩
  | dT kvs => obtain ⟨_, _, _, _, u, _, _, e, _⟩ := x; exact ⟨u, e⟩
  | set S n => obtain ⟨u, _, _, _, e, _⟩ := x; exact ⟨u, e⟩
  | ins C dx fs => obtain ⟨_, _, _, e, _⟩ := x; exact ⟨_, e⟩
  | own y => exact x
  | xd fs => obtain ⟨_, ⟨u, _, _, e, _⟩, _⟩ := x; exact ⟨u, e⟩
  | rng lo hi => obtain ⟨_, _, _, e⟩ := x; exact ⟨_, e⟩
  | frz ob u => obtain ⟨e, _⟩ := x; exact ⟨_, e⟩
  | tbl ps => exact ⟨_, (show h.get? a = some _ from x)⟩
  | met f y => exact ⟨_, (show h.get? a = some _ from x)⟩
  | ext φ => obtain ⟨_, e, _⟩ := x; exact e
  | code q => obtain ⟨o, _, _, e, _⟩ := x; exact ⟨o, e⟩
  | ctab q => obtain ⟨_, e, _⟩ := x; exact ⟨_, e⟩
theorem HOk.none {P : Program} {w : World} {H : Hp} {h : Heap} {a : Addr} (x : HOk P w H h) (e : h.get? a = Option.none) : H a = Option.none := by
  cases q : H a with
  | none => rfl
  | some u => obtain ⟨o, z⟩ := ObjOk.ex (x a u q); rw [e] at z; cases z
section
variable {X : Cx} {pins : List (Addr × Obj)} {σ : St} {H : Hp} {s : Shared} {h' : Heap}
/-! ### isinstance of such objects -/
def Ex (H : Hp) (a C : Addr) : Prop := H a = some (ExO a C none) ∨ ∃ dx o, H a = some (ExO a C (some dx)) ∧ H dx = some o
theorem Ext.ex {H H' : Hp} {a C : Addr} (x : Ext H H') (h : Ex H a C) : Ex H' a C := h.imp (x _ _) fun ⟨dx, o, h1, h2⟩ => ⟨dx, o, x _ _ h1, x _ _ h2⟩
/-! ### e.f of an object that has a dict -/
end
end L2

end
section
set_option linter.all false
set_option maxRecDepth 100000
namespace L2
open PySem PySem.Spec PyProof.Rows

section
variable {prog : Program} {w : World} {A : Around} {E : Value → Shared → Prop} {h : Heap} {g : Array GenState} {d : Drawn} {t : Nat} {os : OsState} {C fI N : Addr} {rest : List Value}
  {nm qn : Str} {bs bm : List Value} {hd : Bool} {sn : List Str} {sub : List Value} {ab : Bool} {col : Option Bool} {dd : Option Addr} {k0 k1 k2 k3 k5 : Option Value} {mN : Str → Option Value}

end
end L2

end
section
set_option linter.all false
set_option maxRecDepth 100000
namespace L2
open PySem PySem.Spec PyProof.Rows

section
variable {prog : Program} {w : World} {A : Around} {E : Value → Shared → Prop} {h : Heap} {g : Array GenState} {d : Drawn} {t : Nat} {os : OsState} {C N x : Addr}
  {nm qn : Str} {bs bm : List Value} {hd : Bool} {sn : List Str} {sub : List Value} {ab : Bool} {col : Option Bool} {dd : Option Addr} {k0 k1 k2 k3 k5 : Option Value} {mN : Str → Option Value} {K : PySem.W.Frag}

variable {X : Cx} {pins : List (Addr × Obj)} {σ : St} {H : Hp} {s : Shared}
end
end L2

end
section
set_option linter.all false
set_option maxRecDepth 100000
namespace L2
open PySem PySem.Spec PyProof.Rows

section
variable {X : Cx} {pins : List (Addr × Obj)} {σ : St} {H : Hp} {s : Shared}
end
end L2

end
section
set_option linter.all false
set_option maxRecDepth 100000
namespace L2
open PySem PySem.Spec PyProof.Rows
section
variable {X : Cx}
end
end L2

end
section
set_option linter.all false
set_option maxRecDepth 100000
namespace L2
open PySem PySem.Spec PyProof.Rows
theorem op_catGK {X : Cx} {K : PySem.W.Frag} (h : X.K = K) : OpR X (binaryOp .Add) (rCatG K) := by subst h; exact op_catG
theorem pg_tupK {X : Cx} {K : PySem.W.Frag} {pos : Pos} {es : List Expr} {k : Nat} {t : TGs} {n : Nat} (h : X.K = K) (hc : X.calm = true) (hp : PGs X es t)
    (hn : (assignEach es X.env).length = n := by rfl) (hst : (assignEach es X.env).findIdx? (·.1) = none := by rfl) : PG X (.Tuple es k pos) (gTup K n t) := by subst h; exact pg_tup hc hp hn hst
theorem ix_seqK {X : Cx} {K : PySem.W.Frag} (h : X.K = K) : IxR X (rIx K) := by subst h; exact ix_seq
end L2

end
section
set_option linter.all false
set_option maxRecDepth 100000
namespace L2
open PySem PySem.Spec PyProof.Rows

/-! ### raising -/
/-- the heap without the objects at l -/
def without (h : Heap) (l : List Addr) : Heap := { h with objs := h.objs.mapIdx fun i o => if i ∈ l then { o with data := .freed } else o }
theorem ExFacts.keeps {h h' : Heap} {C N : Addr} {ini : Option Value} {nm q : Str} {bs bm : List Value} {hdct : Bool} {sn : List Str} {sub : List Value} {ab : Bool} {col : Option Bool} {dd : Option Addr} {k0 k1 k2 k3 k5 : Option Value} {mN : Str → Option Value}
    (F : ExFacts h C ini nm q N bs bm hdct sn sub ab col dd k0 k1 k2 k3 k5 mN) (k : ∀ b o, h.get? b = some o → h'.get? b = some o) : ExFacts h' C ini nm q N bs bm hdct sn sub ab col dd k0 k1 k2 k3 k5 mN := ⟨k _ _ F.at_, F.ns.keeps k, F.ini, F.tail.keeps k⟩
section
variable {P : Program} {w : World} {K : PySem.W.Frag} {mg : Str → Option Value} {base : Heap} {N : List Str} {qual : Str} {scope : Scope} {f : Addr} {cd : Value} {A : Around} {outer : List Env} {s0 : Shared} {H0 : Hp} {E : XK}
end
end L2

end
section
set_option linter.all false
set_option maxRecDepth 100000
namespace L2
open PySem PySem.Spec PyProof.Rows

/-! ### a caught exception, tracked by its class alone -/
def Ca0 (h : Heap) (x C : Addr) : Prop := ∃ o, h.get? x = some o ∧ o.cls = .ref C ∧ PySem.W.notCls o = true
section
variable {prog : Program} {w : World} {A : Around} {E : Value → Shared → Prop} {s : Shared} {K : PySem.W.Frag} {x C : Addr} {name : Str} {tk : Tok}
theorem Ca0.type {M : Model} {h : Heap} (I : Ca0 h x C) : PySem.W.Looks M h (typeOf (.ref x)) (.ref C) := by
  obtain ⟨o, e, hc, _⟩ := I
  rw [← hc]
  exact (PySem.W.Looks.ld e).andThen .now
end
/-! ### isinstance of a caught one -/
/-! ### try: f(..) / except S as n: .. -/
section
variable {X : Cx} {pins : List (Addr × Obj)} {σ : St} {H : Hp} {s : Shared} {e : Value} {xe : Value → Shared → Prop}
end

end L2

end
section
set_option linter.all false
set_option maxRecDepth 100000
namespace L2
open PySem PySem.Spec PyProof.Rows

/-! ### list.count, flat items -/
section
variable {X : Cx}
end
/-! ### how long a thing's text is at most -/
mutual
def szD : PyData → Nat
  | .none => 5
  | .bool _ => 5
  | .int i => i.natAbs.log2 + 2
  | .str x => (reprText x).length
  | .list xs => szA xs + 3
  | .tuple xs => szA xs + 3
  | .dict _ => 0
def szA : List PyData → Nat
  | [] => 0
  | x :: xs => szD x + 2 + szA xs
end
theorem textFrom_le : ∀ (ts : List Str) (k : Nat) (acc : Str), (textFrom k acc ts).length ≤ acc.length + piled ts
  | [], _, acc => Nat.le_add_right _ _
  | t :: ts, k, acc => by
    refine Nat.le_trans (textFrom_le ts (k + 1) _) ?_
    rw [strLen_append, strLen_append, piled_cons]
    have : ((if k > 0 then ", " else "" : String) : Str).length ≤ 2 := by split <;> decide
    omega
theorem tupleText_le (ts : List Str) : (tupleText ts).length ≤ piled ts + 3 := by
  unfold tupleText
  rw [strLen_append, strLen_append]
  have e1 : ((("(" : String) : Str)).length = 1 := rfl
  have e3 : (((if ts.length == 1 then ",)" else ")" : String) : Str)).length ≤ 2 := by split <;> decide
  rw [e1]
  by_cases h : ts = []
  · subst h
    have : (Str.join ", " ([] : List Str)).length = 0 := rfl
    omega
  · have := join_length_add ts h
    omega
theorem listText_le (ts : List Str) : (listText ts).length ≤ piled ts + 3 := by
  unfold listText
  rw [strLen_append]
  have := textFrom_le ts 0 "["
  have e1 : ((("[" : String) : Str)).length = 1 := rfl
  have e2 : ((("]" : String) : Str)).length = 1 := rfl
  omega
mutual
theorem shown_le : ∀ d : PyData, d.showable = true → d.hasDict = false → d.shown.length ≤ szD d
  | .none, _, _ => by decide
  | .bool b, _, _ => by cases b <;> decide
  | .int i, h, _ => by
    have := int_text_length_le (a := i) (k := i.natAbs.log2 + 1) (Nat.succ_pos _) (Nat.lt_succ_self _)
    show (Str.ofString (toString i)).length ≤ i.natAbs.log2 + 2
    rw [PySem.ofString_length]
    omega
  | .str x, _, _ => Nat.le_refl _
  | .list xs, h, g => by
    have h' : PyData.showableAll xs = true := by simpa [PyData.showable] using h
    have g' : PyData.hasDictAll xs = false := by simpa [PyData.hasDict] using g
    have := shownAll_le xs h' g'
    have := listText_le (PyData.shownAll xs)
    have e : PyData.shown (.list xs) = listText (PyData.shownAll xs) := by simp only [PyData.shown]
    rw [e]
    show _ ≤ szA xs + 3
    omega
  | .tuple xs, h, g => by
    have h' : PyData.showableAll xs = true := by simpa [PyData.showable] using h
    have g' : PyData.hasDictAll xs = false := by simpa [PyData.hasDict] using g
    have := shownAll_le xs h' g'
    have := tupleText_le (PyData.shownAll xs)
    have e : PyData.shown (.tuple xs) = tupleText (PyData.shownAll xs) := by simp only [PyData.shown]
    rw [e]
    show _ ≤ szA xs + 3
    omega
  | .dict kvs, _, g => by simp [PyData.hasDict] at g
theorem shownAll_le : ∀ ds : List PyData, PyData.showableAll ds = true → PyData.hasDictAll ds = false → piled (PyData.shownAll ds) ≤ szA ds
  | [], _, _ => Nat.le_refl _
  | d :: ds, h, g => by
    have h' : d.showable = true ∧ PyData.showableAll ds = true := by simpa [PyData.showableAll] using h
    have g' : d.hasDict = false ∧ PyData.hasDictAll ds = false := by simpa [PyData.hasDictAll] using g
    have a := shown_le d h'.1 g'.1
    have b := shownAll_le ds h'.2 g'.2
    have e : PyData.shownAll (d :: ds) = d.shown :: PyData.shownAll ds := by simp only [PyData.shownAll]
    rw [e, piled_cons]
    show _ ≤ szD d + 2 + szA ds
    omega
end
/-- a thing that can be looked at and shown -/
structure Thing (K : PySem.W.Frag) (H : Hp) (v : V) (d : PyData) : Prop where
  dp : Dp K H v d
  sh : d.showable = true
  nd : d.hasDict = false
  de : d.depth ≤ 60
  sz : szD d ≤ sizeLine
mutual
theorem Dp.ext {K : PySem.W.Frag} {H H' : Hp} (x : Ext H H') : ∀ {v : V} {d : PyData}, Dp K H v d → Dp K H' v d
  | _, _, .non => .non
  | _, _, .bl b => .bl b
  | _, _, .int i => .int i
  | _, _, .str s => .str s
  | _, _, .lst s a => .lst (x.sqL s) (DpAll.ext x a)
  | _, _, .tup s a => .tup (x.sqT s) (DpAll.ext x a)
theorem DpAll.ext {K : PySem.W.Frag} {H H' : Hp} (x : Ext H H') : ∀ {vs : List V} {ds : List PyData}, DpAll K H vs ds → DpAll K H' vs ds
  | _, _, .nil => .nil
  | _, _, .cons h t => .cons (Dp.ext x h) (DpAll.ext x t)
end
theorem Thing.ext {K : PySem.W.Frag} {H H' : Hp} {v : V} {d : PyData} (x : Ext H H') (h : Thing K H v d) : Thing K H' v d := ⟨h.dp.ext x, h.sh, h.nd, h.de, h.sz⟩
theorem Dp.ty {K : PySem.W.Frag} {H : Hp} {v : V} {d : PyData} (h : Dp K H v d) : ∃ t, TyD K H v t := by
  cases h with
  | non => exact ⟨_, .non⟩
  | bl b => exact ⟨_, .bl b⟩
  | int i => exact ⟨_, .int i⟩
  | str x => exact ⟨_, .str x⟩
  | lst s _ => exact ⟨_, .lst s⟩
  | tup s _ => exact ⟨_, .tup s⟩
theorem DpAll.ty {K : PySem.W.Frag} {H : Hp} : ∀ {vs : List V} {ds : List PyData}, DpAll K H vs ds → ∀ y ∈ vs, ∃ t, TyD K H y t
  | _, _, .nil => fun _ z => nomatch z
  | _, _, .cons h t => fun y hy => by
    rcases List.mem_cons.mp hy with rfl | hy
    · exact h.ty
    · exact DpAll.ty t y hy
theorem DpAll.app {K : PySem.W.Frag} {H : Hp} : ∀ {vs ws : List V} {ds es : List PyData}, DpAll K H vs ds → DpAll K H ws es → DpAll K H (vs ++ ws) (ds ++ es)
  | _, _, _, _, .nil, h => h
  | _, _, _, _, .cons a t, h => .cons a (DpAll.app t h)
theorem DpAll.ints {K : PySem.W.Frag} {H : Hp} : ∀ ns : List Int, DpAll K H (ns.map V.int) (ns.map PyData.int)
  | [] => .nil
  | n :: ns => .cons (.int n) (DpAll.ints ns)

/-- a thing, by how deep and how long it is at most -/
def Item (K : PySem.W.Frag) (H : Hp) (n z : Nat) (v : V) : Prop := ∃ d, Dp K H v d ∧ d.showable = true ∧ d.hasDict = false ∧ d.depth ≤ n ∧ szD d ≤ z
section
variable {K : PySem.W.Frag} {H H' : Hp} {n z : Nat} {v : V} {xs : List V} {a : Addr}
theorem Item.mono {n' z' : Nat} (h : Item K H n z v) (hn : n ≤ n') (hz : z ≤ z') : Item K H n' z' v := let ⟨d, a, b, c, e, f⟩ := h; ⟨d, a, b, c, Nat.le_trans e hn, Nat.le_trans f hz⟩
theorem Item.ext (x : Ext H H') (h : Item K H n z v) : Item K H' n z v := let ⟨d, a, b⟩ := h; ⟨d, a.ext x, b⟩
theorem Item.ty (h : Item K H n z v) : ∃ t, TyD K H v t := let ⟨d, a, _⟩ := h; a.ty
theorem Item.int {i : Int} (h : i.natAbs < 2 ^ 138) : Item K H 0 140 (.int i) := by
  have hl : i.natAbs.log2 < 138 := by
    by_cases z : i.natAbs = 0
    · rw [z]; decide
    · exact (Nat.log2_lt z).mpr h
  refine ⟨_, .int i, ?_, rfl, Nat.le_refl _, ?_⟩
  · show decide (i.natAbs.log2 < 1920) = true
    exact decide_eq_true (by omega)
  · show i.natAbs.log2 + 2 ≤ 140
    omega
theorem Item.small {i : Int} (h1 : -(10 ^ 41) ≤ i) (h2 : i ≤ 10 ^ 41) : Item K H 0 140 (.int i) := Item.int (Nat.lt_of_le_of_lt (show i.natAbs ≤ 10 ^ 41 by omega) (by decide +kernel))
theorem Item.bl (b : Bool) : Item K H 0 5 (.bl b) := ⟨_, .bl b, rfl, rfl, Nat.le_refl _, Nat.le_refl _⟩
theorem Item.non : Item K H 0 5 .non := ⟨_, .non, rfl, rfl, Nat.le_refl _, Nat.le_refl _⟩
theorem Item.str (x : Str) (h : (reprText x).length ≤ z) : Item K H 0 z (.str x) := ⟨_, .str x, rfl, rfl, Nat.le_refl _, h⟩
theorem items_all : ∀ {xs : List V}, (∀ y ∈ xs, Item K H n z y) → ∃ ds, DpAll K H xs ds ∧ PyData.showableAll ds = true ∧ PyData.hasDictAll ds = false ∧ PyData.depthAll ds ≤ n ∧ szA ds ≤ (z + 2) * xs.length
  | [], _ => ⟨[], .nil, rfl, rfl, Nat.zero_le _, Nat.zero_le _⟩
  | x :: xs, h => by
    obtain ⟨d, a1, a2, a3, a4, a5⟩ := h x (List.mem_cons_self ..)
    obtain ⟨ds, b1, b2, b3, b4, b5⟩ := items_all (xs := xs) fun y hy => h y (List.mem_cons_of_mem _ hy)
    refine ⟨d :: ds, .cons a1 b1, by simp only [PyData.showableAll, a2, b2, Bool.and_self], by simp only [PyData.hasDictAll, a3, b3, Bool.or_self], ?_, ?_⟩
    · simp only [PyData.depthAll]; omega
    · show szD d + 2 + szA ds ≤ (z + 2) * (xs.length + 1)
      rw [Nat.mul_succ]; omega
theorem Item.tup (h : SqT K H a xs) (hi : ∀ y ∈ xs, Item K H n z y) : Item K H (n + 1) ((z + 2) * xs.length + 3) (.ref a) := by
  obtain ⟨ds, b1, b2, b3, b4, b5⟩ := items_all hi
  refine ⟨_, .tup h b1, by simpa [PyData.showable] using b2, by simpa [PyData.hasDict] using b3, ?_, ?_⟩
  · simp only [PyData.depth]; omega
  · show szA ds + 3 ≤ _; omega
theorem Item.lst (h : SqL K H a xs) (hi : ∀ y ∈ xs, Item K H n z y) : Item K H (n + 1) ((z + 2) * xs.length + 3) (.ref a) := by
  obtain ⟨ds, b1, b2, b3, b4, b5⟩ := items_all hi
  refine ⟨_, .lst h b1, by simpa [PyData.showable] using b2, by simpa [PyData.hasDict] using b3, ?_, ?_⟩
  · simp only [PyData.depth]; omega
  · show szA ds + 3 ≤ _; omega
theorem cutV_mem {lo hi : Option Int} {y : V} (h : y ∈ cutV xs lo hi) : y ∈ xs := List.mem_of_mem_drop (List.mem_of_mem_take h)
end
end L2
namespace L2
open PySem PySem.Spec PyProof.Rows
def AllAt (K : PySem.W.Frag) (a : Addr) : List (Str × V) → Prop
  | [] => True
  | (x, v) :: r => (∃ u, PySem.W.nsIn K a x = some (some u) ∧ RelV v u) ∧ AllAt K a r
theorem AllAt.get {K : PySem.W.Frag} {a : Addr} : ∀ {tab : List (Str × V)}, AllAt K a tab → ∀ x v, tab.lookup x = some v → ∃ u, PySem.W.nsIn K a x = some (some u) ∧ RelV v u
  | [], _, _, _, h => by cases h
  | (y, u) :: r, h, x, v, e => by
    rw [List.lookup_cons] at e
    cases hh : x == y with
    | true =>
      rw [hh] at e
      cases e
      rw [beq_iff_eq.mp hh]
      exact h.1
    | false =>
      rw [hh] at e
      exact AllAt.get h.2 x v e
theorem TopD.of {K : PySem.W.Frag} {P : Params} {a : Addr} {es : Array DictEntry} {n : Nat} {tab : List (Str × V)} (l : K.lookup a = some ⟨.type "dict", none, .dict es n, #[]⟩) (k : PySem.W.KeysLit P es.toList) (h : AllAt K a tab) : TopD K P a tab := ⟨⟨es, n, l, k⟩, h.get⟩
end L2

end
section
set_option linter.all false
set_option maxRecDepth 100000
set_option maxHeartbeats 4000000
namespace L2
open PySem PySem.Spec PyProof.Rows
/-! ### t * n of a tuple -/
section
variable {X : Cx}
end
end L2

end
section
set_option linter.all false
set_option maxRecDepth 100000
/-! what is asked of anything: by its data -/
namespace L2
open PySem PySem.Spec PyProof.Rows
def wholeD (d : PyData) (lo hi : Int) : Bool := match d with
  | .int i => decide (lo ≤ i) && decide (i ≤ hi)
  | _ => false
theorem call_len_seqK {X : Cx} {K : PySem.W.Frag} (h : X.K = K) : CallR X (.builtin "len") (fun xs H Q => ∃ p ys, xs = [.ref p] ∧ (SqL K H p ys ∨ SqT K H p ys) ∧ Q (.int ys.length) H) := by subst h; exact call_len_seq
section
variable {K : PySem.W.Frag} {H H' : Hp} {v : V} {d : PyData}
theorem Dp.whole (h : Dp K H v d) (lo hi : Int) : wholeV v lo hi = wholeD d lo hi := by cases h <;> rfl
theorem DpAll.len {xs : List V} {ds : List PyData} : DpAll K H xs ds → xs.length = ds.length
  | .nil => rfl
  | .cons _ t => congrArg (· + 1) (DpAll.len t)
theorem DpAll.at_ : ∀ {xs : List V} {ds : List PyData}, DpAll K H xs ds → ∀ {i : Nat} {x : V}, xs[i]? = some x → ∃ d, ds[i]? = some d ∧ Dp K H x d
  | _, _, .nil, _, _, h => by simp at h
  | _, _, .cons a t, 0, x, h => by simp at h; subst h; exact ⟨_, rfl, a⟩
  | _, _, .cons (vs := vs) a t, i + 1, x, h => by
    have h' : vs[i]? = some x := by simpa using h
    obtain ⟨d, e, q⟩ := DpAll.at_ t h'
    exact ⟨d, by simpa using e, q⟩
theorem Dp.pair {xs : List V} {ds : List PyData} (h : DpAll K H xs ds) (e : ds.length = 2) : ∃ x y d1 d2, xs = [x, y] ∧ ds = [d1, d2] ∧ Dp K H x d1 ∧ Dp K H y d2 := by
  match h with
  | .cons a (.cons b .nil) => exact ⟨_, _, _, _, rfl, rfl, a, b⟩
  | .nil => cases e
  | .cons _ .nil => cases e
  | .cons _ (.cons _ (.cons _ _)) => simp at e
end
end L2

end
section
set_option linter.all false
set_option maxRecDepth 100000
set_option maxHeartbeats 1000000
/-! things that are drawn: an expression makes a thing of some kind, whatever the jar holds; what stood stays, the jar's own list aside -/
namespace L2
open PySem PySem.Spec PyProof.Rows
/-- the heap without some lists, the jar's own among them -/
noncomputable def Kj (S : Addr → Prop) (H : Hp) : Hp := fun b => open Classical in if S b then none else H b
section
variable {K : PySem.W.Frag} {j lj : Addr} {S : Addr → Prop} {H H' H1 H2 B : Hp} {v : V} {σ : St} {n z d e L : Nat}
/-- all but the jar's list stays -/
structure KX (j : Addr) (S : Addr → Prop) (H H' : Hp) : Prop where
  k : Keep j H H'
  x : Ext (Kj S H) (Kj S H')
theorem KX.refl : KX j S H H := ⟨Keep.refl _ _, Ext.refl _⟩
theorem KX.trans (a : KX j S H H1) (b : KX j S H1 H2) : KX j S H H2 := ⟨a.k.trans b.k, a.x.trans b.x⟩
/-- the jar, and lists that are left out -/
structure Jx (S : Addr → Prop) (H : Hp) (j lj : Addr) (m : Nat) : Prop where
  jr : Jr H j lj m
  sj : S j
  ls : ∀ b, S b → ∃ ys, H b = some (.lst ys)
theorem Jx.mono {m m' : Nat} (h : Jx S H j lj m) (hm : m ≤ m') : Jx S H j lj m' := ⟨h.jr.mono hm, h.sj, h.ls⟩
theorem Jx.to {m m' : Nat} (h : Jx S H j lj m) (k : Keep j H H') (hj : Jr H' j lj m') : Jx S H' j lj m' := ⟨hj, h.sj, fun b hb => by
  by_cases e : b = j
  · subst e; exact hj.lst
  · obtain ⟨ys, y⟩ := h.ls b hb
    exact ⟨ys, k b _ y e⟩⟩
theorem Ext.jx {m : Nat} (x : Ext H H') (h : Jx S H j lj m) : Jx S H' j lj m := h.to x.keep (x.jr h.jr)
/-- all lists that there are -/
def lsts (H : Hp) : Addr → Prop := fun b => ∃ ys, H b = some (.lst ys)
theorem Jr.jx {m : Nat} (h : Jr H j lj m) : Jx (lsts H) H j lj m := ⟨h, h.lst, fun _ hb => hb⟩
/-- t makes a thing of kind P in at most d dips, from B on -/
structure Dr (K : PySem.W.Frag) (S : Addr → Prop) (j lj : Addr) (B : Hp) (σ : St) (d : Nat) (t : TE) (P : V → Hp → Prop) : Prop where
  run : ∀ (H : Hp) (m : Nat) (Q : VK), Jx S H j lj m → m + d ≤ 1000000 → Ext B (Kj S H) → (∀ v H', Jx S H' j lj (m + d) → KX j S H H' → P v (Kj S H') → Q v H') → t σ H Q
structure DrA (K : PySem.W.Frag) (S : Addr → Prop) (j lj : Addr) (B : Hp) (σ : St) (d : Nat) (t : TA) (P : List V → Hp → Prop) : Prop where
  run : ∀ (H : Hp) (m : Nat) (Q : List V → Hp → Prop), Jx S H j lj m → m + d ≤ 1000000 → Ext B (Kj S H) → (∀ vs H', Jx S H' j lj (m + d) → KX j S H H' → P vs (Kj S H') → Q vs H') → t σ H Q
/-- kinds -/
abbrev Kd := V → Hp → Prop
def Kd.Mono (P : Kd) : Prop := ∀ v H H', Ext H H' → P v H → P v H'
/-- this very value -/
def isV (x : V) : Kd := fun v _ => v = x
def inI (lo hi : Int) : Kd := fun v _ => ∃ i, v = .int i ∧ lo ≤ i ∧ i ≤ hi
def isIt (K : PySem.W.Frag) (n z : Nat) : Kd := fun v H => Item K H n z v
/-- a tuple of at most L things -/
def isTp (K : PySem.W.Frag) (n z L : Nat) : Kd := fun v H => ∃ a xs, v = .ref a ∧ SqT K H a xs ∧ xs.length ≤ L ∧ ∀ y ∈ xs, Item K H n z y
theorem isV.mono {x : V} : Kd.Mono (isV x) := fun _ _ _ _ h => h
theorem inI.mono {lo hi : Int} : Kd.Mono (inI lo hi) := fun _ _ _ _ h => h
theorem isIt.mono : Kd.Mono (isIt K n z) := fun _ _ _ x h => Item.ext x h
theorem isTp.mono : Kd.Mono (isTp K n z L) := fun _ _ _ x ⟨a, xs, e, s, l, i⟩ => ⟨a, xs, e, x.sqT s, l, fun y hy => (i y hy).ext x⟩
theorem Dr.of {t : TE} {P P' : Kd} (h : Dr K S j lj B σ d t P) (hP : ∀ v H, Ext B H → P v H → P' v H) : Dr K S j lj B σ d t P' := ⟨fun H m Q hj hm hB q => h.run H m Q hj hm hB fun v H' hj' x p => q v H' hj' x (hP v _ (hB.trans x.x) p)⟩
theorem Dr.le {t : TE} {P : Kd} (h : Dr K S j lj B σ d t P) (hd : d ≤ e) : Dr K S j lj B σ e t P := ⟨fun H m Q hj hm hB q => h.run H m Q hj (by omega) hB fun v H' hj' x p => q v H' (hj'.mono (by omega)) x p⟩
theorem DrA.le {t : TA} {P : List V → Hp → Prop} (h : DrA K S j lj B σ d t P) (hd : d ≤ e) : DrA K S j lj B σ e t P := ⟨fun H m Q hj hm hB q => h.run H m Q hj (by omega) hB fun v H' hj' x p => q v H' (hj'.mono (by omega)) x p⟩
theorem Dr.base {B' : Hp} {t : TE} {P : Kd} (h : Dr K S j lj B σ d t P) (x : Ext B B') : Dr K S j lj B' σ d t P := ⟨fun H m Q hj hm hB q => h.run H m Q hj hm (x.trans hB) q⟩
/-! kinds one from another -/
theorem V.small {x : Int} {H : Hp} (h1 : -(10 ^ 41) ≤ x) (h2 : x ≤ 10 ^ 41) : Item K H 0 140 (.int x) := Item.small h1 h2
/-! arguments -/
/-- things alike -/
def alike (K : PySem.W.Frag) (n z L : Nat) : List V → Hp → Prop := fun vs H => vs.length = L ∧ ∀ y ∈ vs, Item K H n z y
/-! displays -/
/-- a list of L things -/
def isLs (K : PySem.W.Frag) (n z L : Nat) : Kd := fun v H => ∃ p vs, v = .ref p ∧ H p = some (.lst vs) ∧ alike K n z L vs H
theorem isLs.mono : Kd.Mono (isLs K n z L) := fun _ _ _ x ⟨p, vs, e, h, l, i⟩ => ⟨p, vs, e, x _ _ h, l, fun y hy => (i y hy).ext x⟩
/-! operations -/
end
end L2

end
section
set_option linter.all false
set_option maxRecDepth 100000
set_option maxHeartbeats 1000000
namespace L2
open PySem PySem.Spec PyProof.Rows
section
variable {K : PySem.W.Frag} {j lj : Addr} {S : Addr → Prop} {H H' H1 H2 B : Hp} {v : V} {σ : St} {n z d e L : Nat}
end
end L2

end
section
set_option linter.all false
set_option maxRecDepth 100000
/-! tuple(.. for ..) -/
namespace L2
open PySem PySem.Spec PyProof.Rows
section
variable {X : Cx} {pins : List (Addr × Obj)} {σ : St} {H : Hp} {s : Shared}
end
/-! ### the consumer's loop -/
section
variable {prog : Program} {w : World} {A : Around} {R : Result → Shared → Prop} {I : Addr} {CI : Nat → Shared → Prop} {Post : Shared → Prop} {n : Nat}
theorem extend_loopG {S : Addr} {val : Nat → Value → Prop} (hn : n ≤ sizeLine)
    (item : ∀ j s, j < n → CI j s → wpAny (model prog w) A.in1 (pyNext (.ref I)) (fun r s' => (∃ v, r = some v ∧ val j v) ∧ CI (j + 1) s' ∧ ∀ o, s.heap.get? S = some o → s'.heap.get? S = some o) (fun _ _ => False) s)
    (done : ∀ s, CI n s → wpAny (model prog w) A.in1 (pyNext (.ref I)) (fun r s' => r = none ∧ Post s' ∧ ∀ o, s.heap.get? S = some o → s'.heap.get? S = some o) (fun _ _ => False) s)
    (wr : ∀ j s t h', CI j s → (∀ b o, b ≠ S → s.heap.get? b = some o → h'.get? b = some o) → (∃ (o : Obj) (its : Array Value) (c : Nat), h'.get? S = some o ∧ o.data = .seq its c) → CI j { s with heap := h', toks := t }) (res : Value) :
    ∀ (k i : Nat) (s : Shared) (acc : Array Value) (c : Nat), n - i = k → i ≤ n → CI i s → s.heap.get? S = some { cls := .type "list", dict := none, data := .seq acc c, slots := #[] } → ItemsOf val acc i →
      (∀ s' acc' c', Post s' → s'.heap.get? S = some { cls := .type "list", dict := none, data := .seq acc' c', slots := #[] } → ItemsOf val acc' n → R (.ok (.ret res)) s') → codeAny (model prog w) A (.builtin "list.extend.loop" ⟨[.ref S, .ref I, res], []⟩) R s := by
  intro k
  induction k with
  | zero =>
    intro i s acc c hk hi hst hS hacc hR
    have hin : i = n := by omega
    subst hin
    refine codeAny_builtin F.entry_extend_loop ?_
    rw [Around.under_plainId F.plain_extend_loop _]
    show wpAny _ A.in1 (pyNext (.ref I) >>= _) _ _ s
    refine wpAny_bind (thnF (done s hst) fun r s' ⟨hr, hp, hkS⟩ => ?_)
    subst hr
    exact wpAny_pure (hR s' acc c hp (hkS _ hS) hacc)
  | succ k ih =>
    intro i s acc c hk hi hst hS hacc hR
    have hlt : i < n := by omega
    refine codeAny_builtin F.entry_extend_loop ?_
    rw [Around.under_plainId F.plain_extend_loop _]
    show wpAny _ A.in1 (pyNext (.ref I) >>= _) _ _ s
    refine wpAny_bind (thnF (item i s hlt hst) fun r s' ⟨⟨v, hr, hv⟩, hst', hkS⟩ => ?_)
    subst hr
    have hS' := hkS _ hS
    show wpAny _ A.in1 (updateSeq S (·.push v) >>= _) _ _ _
    refine wpAny_bind ?_
    refine wpAny_updateSeq hS' rfl (wpAny_pure ⟨plainId_quiet F.plain_extend_loop _, ih (i + 1) _ (acc.push v) _ (by omega) hlt (wr _ s' _ _ hst' (fun b o hb e => ?_) ⟨_, _, _, Heap.get?_update_self _ hS' rfl, rfl⟩) (Heap.get?_update_self _ hS' rfl) (hacc.push hv) hR⟩) (by rw [hacc.1]; omega) (by show (acc.push v).size ≤ sizeLine + 1; rw [Array.size_push, hacc.1]; omega)
    exact (Heap.get?_update_other _ _ (fun h : S = b => hb h.symm)).trans e
end
section
variable {prog : Program} {w : World}
end
section
variable {X : Cx} {pins : List (Addr × Obj)} {σ : St} {H : Hp} {s : Shared}
end
end L2

end
section
set_option linter.all false
set_option maxRecDepth 100000
/-! zip of a list and a tuple; isinstance with a pair of classes -/
namespace L2
open PySem PySem.Spec PyProof.Rows
section
variable {prog : Program} {w : World} {A : Around} {E : Value → Shared → Prop} {s : Shared}
end
end L2
namespace L2
open PySem PySem.Spec PyProof.Rows
section
variable {X : Cx}
theorem op_in_seqK {K : PySem.W.Frag} (h : X.K = K) : OpR X (compareOp .In) (rIn K false) := by subst h; exact op_in_seq
theorem op_notIn_seqK {K : PySem.W.Frag} (h : X.K = K) : OpR X (compareOp .NotIn) (rIn K true) := by subst h; exact op_notIn_seq
end
end L2

end
section
set_option linter.all false
set_option maxRecDepth 100000
/-! walks, whatever a turn does -/
namespace L2
open PySem PySem.Spec PyProof.Rows
section
variable {K : PySem.W.Frag} {a b D : Addr} {xs ys : List V} {H0 : Hp} {Qd : Hp → Prop} {B : (Hp → Prop) → V → Hp → Prop}
theorem W_list (Pv : Nat → Hp → Prop) (h0 : Pv 0 H0) (hl : ∀ i H, i ≤ xs.length → Pv i H → SqL K H a xs) (hs : ∀ i x H, xs[i]? = some x → Pv i H → B (Pv (i + 1)) x H) (hd : ∀ H, Pv xs.length H → Qd H) :
    ∃ W : Nat → Nat → Hp → Prop, (∃ m, W 0 m H0) ∧ ∀ i m H, W i m H → ((Itl K a).stop i H ∧ Qd H) ∨ ((Itl K a).go i H ∧ ∃ Nx : Hp → Prop, (∀ H', Nx H' → ∃ m', m' < m ∧ W (i + 1) m' H') ∧ ∀ x H', (Itl K a).yld i H x H' → B Nx x H') := by
  refine ⟨fun i m H => m = xs.length - i ∧ i ≤ xs.length ∧ Pv i H, ⟨xs.length, by simp, Nat.zero_le _, h0⟩, ?_⟩
  rintro i m H ⟨rfl, hi, p⟩
  have q := hl i H hi p
  by_cases hlt : i < xs.length
  · refine .inr ⟨⟨xs, xs[i], q, by simp [hlt]⟩, Pv (i + 1), fun H' p' => ⟨xs.length - (i + 1), by omega, rfl, hlt, p'⟩, fun x H' y => ?_⟩
    obtain ⟨e, y⟩ := y
    subst e
    exact hs i x _ (y xs q) p
  · have e : i = xs.length := by omega
    subst e
    exact .inl ⟨⟨xs, q, Nat.le_refl _⟩, hd H p⟩
theorem W_tup (Pv : Nat → Hp → Prop) (h0 : Pv 0 H0) (hl : ∀ i H, i ≤ xs.length → Pv i H → SqT K H a xs) (hs : ∀ i x H, xs[i]? = some x → Pv i H → B (Pv (i + 1)) x H) (hd : ∀ H, Pv xs.length H → Qd H) :
    ∃ W : Nat → Nat → Hp → Prop, (∃ m, W 0 m H0) ∧ ∀ i m H, W i m H → ((Itt K a).stop i H ∧ Qd H) ∨ ((Itt K a).go i H ∧ ∃ Nx : Hp → Prop, (∀ H', Nx H' → ∃ m', m' < m ∧ W (i + 1) m' H') ∧ ∀ x H', (Itt K a).yld i H x H' → B Nx x H') := by
  refine ⟨fun i m H => m = xs.length - i ∧ i ≤ xs.length ∧ Pv i H, ⟨xs.length, by simp, Nat.zero_le _, h0⟩, ?_⟩
  rintro i m H ⟨rfl, hi, p⟩
  have q := hl i H hi p
  by_cases hlt : i < xs.length
  · refine .inr ⟨⟨xs, xs[i], q, by simp [hlt]⟩, Pv (i + 1), fun H' p' => ⟨xs.length - (i + 1), by omega, rfl, hlt, p'⟩, fun x H' y => ?_⟩
    obtain ⟨e, y⟩ := y
    subst e
    exact hs i x _ (y xs q) p
  · have e : i = xs.length := by omega
    subst e
    exact .inl ⟨⟨xs, q, Nat.le_refl _⟩, hd H p⟩
theorem W_range {lo : Int} {n : Nat} (Pv : Nat → Hp → Prop) (h0 : Pv 0 H0) (hs : ∀ i H, i < n → Pv i H → B (Pv (i + 1)) (.int (lo + i)) H) (hd : ∀ H, Pv n H → Qd H) :
    ∃ W : Nat → Nat → Hp → Prop, (∃ m, W 0 m H0) ∧ ∀ i m H, W i m H → ((Itr lo n).stop i H ∧ Qd H) ∨ ((Itr lo n).go i H ∧ ∃ Nx : Hp → Prop, (∀ H', Nx H' → ∃ m', m' < m ∧ W (i + 1) m' H') ∧ ∀ x H', (Itr lo n).yld i H x H' → B Nx x H') := by
  refine ⟨fun i m H => m = n - i ∧ i ≤ n ∧ Pv i H, ⟨n, by simp, Nat.zero_le _, h0⟩, ?_⟩
  rintro i m H ⟨rfl, hi, p⟩
  by_cases hlt : i < n
  · refine .inr ⟨hlt, Pv (i + 1), fun H' p' => ⟨n - (i + 1), by omega, rfl, hlt, p'⟩, fun x H' y => ?_⟩
    obtain ⟨e, y⟩ := y
    subst e y
    exact hs i _ hlt p
  · have e : i = n := by omega
    subst e
    exact .inl ⟨Nat.le_refl _, hd H p⟩
theorem W_zipT (Pv : Nat → Hp → Prop) (h0 : Pv 0 H0) (hl : ∀ i H, i ≤ xs.length → Pv i H → SqT K H a xs ∧ SqT K H b ys) (hxy : xs.length = ys.length)
    (hs : ∀ i x y T H, xs[i]? = some x → ys[i]? = some y → Pv i H → H T = none → B (Pv (i + 1)) (.ref T) (upd H T (.tup [x, y]))) (hd : ∀ H, Pv xs.length H → Qd H) :
    ∃ W : Nat → Nat → Hp → Prop, (∃ m, W 0 m H0) ∧ ∀ i m H, W i m H → ((Itzt K a b).stop i H ∧ Qd H) ∨ ((Itzt K a b).go i H ∧ ∃ Nx : Hp → Prop, (∀ H', Nx H' → ∃ m', m' < m ∧ W (i + 1) m' H') ∧ ∀ x H', (Itzt K a b).yld i H x H' → B Nx x H') := by
  refine ⟨fun i m H => m = xs.length - i ∧ i ≤ xs.length ∧ Pv i H, ⟨xs.length, by simp, Nat.zero_le _, h0⟩, ?_⟩
  rintro i m H ⟨rfl, hi, p⟩
  obtain ⟨q1, q2⟩ := hl i H hi p
  by_cases hlt : i < xs.length
  · have e1 : xs[i]? = some xs[i] := List.getElem?_eq_getElem hlt
    have e2 : ys[i]? = some (ys[i]'(by omega)) := List.getElem?_eq_getElem (by omega)
    refine .inr ⟨⟨xs, ys, _, _, q1, q2, e1, e2⟩, Pv (i + 1), fun H' p' => ⟨xs.length - (i + 1), by omega, rfl, hlt, p'⟩, ?_⟩
    rintro v H' ⟨T, x, y, rfl, hT, rfl, c1, c2⟩
    exact hs i x y T H (c1 _ q1) (c2 _ q2) p hT
  · have e : i = xs.length := by omega
    subst e
    exact .inl ⟨⟨xs, ys, q1, q2, .inl (Nat.le_refl _)⟩, hd H p⟩
end
end L2

end
section
namespace My
open PySem

/-- The table's places rise. -/
def Ris (t : SetTable) : Prop := t.place.toList.Pairwise (· < ·)

theorem below_go (xs : Array Nat) (j : Nat) (hs : xs.toList.Pairwise (· < ·)) : ∀ (f lo hi : Nat), lo ≤ hi → hi ≤ xs.size → hi - lo ≤ f →
    (∀ i (h : i < xs.size), i < lo → xs[i] < j) → (∀ i (h : i < xs.size), hi ≤ i → j ≤ xs[i]) →
    SetTable.below.go xs j f lo hi ≤ xs.size ∧ (∀ i (h : i < xs.size), i < SetTable.below.go xs j f lo hi → xs[i] < j)
      ∧ (∀ i (h : i < xs.size), SetTable.below.go xs j f lo hi ≤ i → j ≤ xs[i]) := by
  have hmono : ∀ i k (hi : i < xs.size) (hk : k < xs.size), i < k → xs[i] < xs[k] := by
    intro i k hi hk hik
    have := List.pairwise_iff_getElem.mp hs i k (by simpa using hi) (by simpa using hk) hik
    simpa using this
  intro f
  induction f with
  | zero =>
    intro lo hi h1 h2 h3 hA hB
    have : hi = lo := by omega
    subst this
    exact ⟨h2, hA, hB⟩
  | succ f ih =>
    intro lo hi h1 h2 h3 hA hB
    unfold SetTable.below.go
    by_cases hlt : lo < hi
    · rw [if_pos hlt]
      dsimp only
      have hm : (lo + hi) / 2 < xs.size := by omega
      have hg : xs.getD ((lo + hi) / 2) j = xs[(lo + hi) / 2] := by simp [Array.getD, hm]
      rw [hg]
      by_cases hc : xs[(lo + hi) / 2] < j
      · rw [if_pos hc]
        refine ih _ _ (by omega) h2 (by omega) ?_ hB
        intro i h hi'
        rcases Nat.lt_or_ge i ((lo + hi) / 2) with h' | h'
        · exact Nat.lt_trans (hmono i _ h hm h') hc
        · have : i = (lo + hi) / 2 := by omega
          subst this; exact hc
      · rw [if_neg hc]
        refine ih _ _ (by omega) (by omega) (by omega) hA ?_
        intro i h hi'
        rcases Nat.lt_or_ge ((lo + hi) / 2) i with h' | h'
        · exact Nat.le_of_lt (Nat.lt_of_le_of_lt (Nat.le_of_not_lt hc) (hmono _ i hm h h'))
        · have : i = (lo + hi) / 2 := by omega
          subst this; exact Nat.le_of_not_lt hc
    · rw [if_neg hlt]
      have : hi = lo := by omega
      subst this
      exact ⟨h2, hA, hB⟩

theorem below_spec {xs : Array Nat} (hs : xs.toList.Pairwise (· < ·)) (j : Nat) :
    SetTable.below xs j ≤ xs.size ∧ (∀ i (h : i < xs.size), i < SetTable.below xs j → xs[i] < j) ∧ (∀ i (h : i < xs.size), SetTable.below xs j ≤ i → j ≤ xs[i]) :=
  below_go xs j hs xs.size 0 xs.size (Nat.zero_le _) (Nat.le_refl _) (by omega) (fun i _ h => absurd h (Nat.not_lt_zero i)) (fun i h h' => absurd h (Nat.not_lt_of_le h'))

/-- How many places lie under j: the one number with these bounds. -/
theorem below_eq {xs : Array Nat} (hs : xs.toList.Pairwise (· < ·)) {j p : Nat} (hp : p ≤ xs.size) (h1 : ∀ i (h : i < xs.size), i < p → xs[i] < j)
    (h2 : ∀ i (h : i < xs.size), p ≤ i → j ≤ xs[i]) : SetTable.below xs j = p := by
  obtain ⟨a, b, c⟩ := below_spec hs j
  rcases Nat.lt_trichotomy (SetTable.below xs j) p with h | h | h
  · have q := c (SetTable.below xs j) (by omega) (Nat.le_refl _)
    have q' := h1 (SetTable.below xs j) (by omega) h
    omega
  · exact h
  · have q := h2 p (by omega) (Nat.le_refl _)
    have q' := b p (by omega) h
    omega

theorem below_zero {xs : Array Nat} (hs : xs.toList.Pairwise (· < ·)) : SetTable.below xs 0 = 0 :=
  below_eq hs (Nat.zero_le _) (fun i _ h => absurd h (Nat.not_lt_zero i)) (fun _ _ _ => Nat.zero_le _)

theorem below_next {xs : Array Nat} (hs : xs.toList.Pairwise (· < ·)) {i : Nat} (hi : i < xs.size) : SetTable.below xs (xs[i] + 1) = i + 1 := by
  have hmono : ∀ i k (hi : i < xs.size) (hk : k < xs.size), i < k → xs[i] < xs[k] := by
    intro i k hi hk hik
    have := List.pairwise_iff_getElem.mp hs i k (by simpa using hi) (by simpa using hk) hik
    simpa using this
  refine below_eq hs (by omega) ?_ ?_
  · intro k hk hlt
    rcases Nat.lt_or_ge k i with h | h
    · exact Nat.lt_succ_of_lt (hmono k i hk hi h)
    · have : k = i := by omega
      subst this; exact Nat.lt_succ_self _
  · intro k hk hle
    exact hmono i k hi hk (by omega)

theorem insert_ris {xs : Array Nat} (hs : xs.toList.Pairwise (· < ·)) {j : Nat} (hj : j ∉ xs.toList) : (SetTable.insertAt xs (SetTable.below xs j) j).toList.Pairwise (· < ·) := by
  obtain ⟨a, b, c⟩ := below_spec hs j
  rw [SetTable.toList_insertAt, List.pairwise_append, List.pairwise_cons]
  have lo : ∀ x ∈ xs.toList.take (SetTable.below xs j), x < j := by
    intro x hx
    obtain ⟨i, hi, e⟩ := List.mem_iff_getElem.mp hx
    rw [List.length_take] at hi
    rw [List.getElem_take] at e
    have := b i (by have := Array.length_toList (xs := xs); omega) (by omega)
    rw [← e]; simpa using this
  have hi : ∀ x ∈ xs.toList.drop (SetTable.below xs j), j < x := by
    intro x hx
    obtain ⟨i, hi, e⟩ := List.mem_iff_getElem.mp hx
    rw [List.length_drop] at hi
    rw [List.getElem_drop] at e
    have h1 : SetTable.below xs j + i < xs.size := by have := Array.length_toList (xs := xs); omega
    have h2 := c (SetTable.below xs j + i) h1 (by omega)
    have h3 : x = xs[SetTable.below xs j + i] := by rw [← e]; simp
    have h4 : x ≠ j := fun q => hj (by rw [← q]; exact List.mem_of_mem_drop hx)
    omega
  refine ⟨hs.sublist (List.take_sublist _ _), ⟨hi, hs.sublist (List.drop_sublist _ _)⟩, ?_⟩
  intro x hx y hy
  rcases List.mem_cons.mp hy with rfl | hy
  · exact lo x hx
  · exact Nat.lt_trans (lo x hx) (hi y hy)

theorem slot_notLive {t : SetTable} (hr : Ris t) {j : Nat} (h : ∀ i, t.slot j ≠ .live i) : j ∉ t.place.toList := by
  intro hj
  obtain ⟨i, hi, e⟩ := List.mem_iff_getElem.mp hj
  have hi' : i < t.place.size := by simpa using hi
  have e' : t.place[i] = j := by rw [← e]; simp
  have hmono : ∀ i k (hi : i < t.place.size) (hk : k < t.place.size), i < k → t.place[i] < t.place[k] := by
    intro i k hi hk hik
    have := List.pairwise_iff_getElem.mp hr i k (by simpa using hi) (by simpa using hk) hik
    simpa using this
  have hb : SetTable.below t.place j = i := by
    refine below_eq hr (by omega) ?_ ?_
    · intro k hk hlt; have := hmono k i hk hi' hlt; omega
    · intro k hk hle
      rcases Nat.lt_or_ge i k with h' | h'
      · have := hmono i k hi' hk h'; omega
      · have : k = i := by omega
        subst this; omega
  refine h i ?_
  unfold SetTable.slot
  dsimp only
  rw [hb, Array.getElem?_eq_getElem hi', e']
  simp

theorem probe_go_empty (t : SetTable) (hashAt : Nat → Int) (h : Int) : ∀ (f : Nat) (p : SetTable.Probe) (j : Nat) (d : Option Nat),
    (∀ e, p.dummy = some e → t.slot e = .dummy) → SetTable.probe.go t hashAt h f p = some (.empty j d) → t.slot j = .empty ∧ (∀ e, d = some e → t.slot e = .dummy) := by
  intro f
  induction f with
  | zero => intro p j d _ h'; simp [SetTable.probe.go] at h'
  | succ f ih =>
    intro p j d hd h'
    have adv : ∀ q : SetTable.Probe, (t.advance q).dummy = q.dummy := by
      intro q; unfold SetTable.advance; split <;> rfl
    unfold SetTable.probe.go at h'
    split at h'
    · rename_i hs
      injection h' with h'
      injection h' with h1 h2
      subst h1; subst h2
      exact ⟨hs, hd⟩
    · rename_i hs
      refine ih _ j d ?_ h'
      intro e he
      rw [adv] at he
      injection he with he
      subst he; exact hs
    · split at h'
      · simp at h'
      · refine ih _ j d ?_ h'
        intro e he
        rw [adv] at he
        exact hd e he

theorem freeSlot_new {t : SetTable} (hr : Ris t) {h : Int} {j : Nat} {b : Bool} (hf : t.freeSlot h = some (j, b)) : j ∉ t.place.toList := by
  unfold SetTable.freeSlot at hf
  split at hf
  · rename_i k d hp
    obtain ⟨h1, h2⟩ := probe_go_empty t _ h _ _ k d (by intro e he; simp [SetTable.probeStart] at he) hp
    injection hf with hf
    injection hf with hf _
    cases d with
    | none => simp at hf; subst hf; exact slot_notLive hr (fun i => by rw [h1]; exact fun q => SetTable.Slot.noConfusion q)
    | some d => simp at hf; subst hf; exact slot_notLive hr (fun i => by rw [h2 d rfl]; exact fun q => SetTable.Slot.noConfusion q)
  · simp at hf

theorem standIn_ris (t : SetTable) (n : Nat) : Ris (t.standIn n) := by
  show (Array.range n).toList.Pairwise (· < ·)
  rw [Array.toList_range]; exact List.pairwise_lt_range

theorem orStandIn_ris {t : SetTable} (h : Ris t) (n : Nat) : Ris (t.orStandIn n) := by
  unfold SetTable.orStandIn; split
  · exact h
  · exact standIn_ris t n

theorem orStandIn_led (t : SetTable) (n : Nat) : (t.orStandIn n).led = t.led := by
  unfold SetTable.orStandIn; split <;> rfl

theorem layNew_ris {t : SetTable} (hr : Ris t) (es : Array (Int × Value)) (h : Int) (x : Value) : Ris (layNew t es h x).2.1 ∧ (layNew t es h x).2.1.led = t.led := by
  unfold layNew
  split
  · rename_i j b hf
    have hn := freeSlot_new hr hf
    exact ⟨orStandIn_ris (t := (t.put j).1) (insert_ris hr hn) _, orStandIn_led _ _⟩
  · exact ⟨standIn_ris _ _, rfl⟩

theorem laid_ris {mask finger moves : Nat} {led plain : Bool} {hs : Array Int} {t : SetTable} {o : Array Nat} (h : SetTable.laid mask finger moves led plain hs = some (t, o)) : Ris t ∧ t.led = led := by
  unfold SetTable.laid at h
  cases hl : SetTable.layClean mask hs with
  | none => rw [hl] at h; simp at h
  | some owner =>
    rw [hl] at h
    simp only [Option.bind_eq_bind, Option.bind_some, Option.pure_def, Option.some.injEq, Prod.mk.injEq] at h
    obtain ⟨rfl, _⟩ := h
    refine ⟨?_, rfl⟩
    show ((((List.range (mask + 1)).filterMap fun j => (owner.getD j none).map (j, ·)).map (·.1)).toArray).toList.Pairwise (· < ·)
    rw [List.pairwise_map, List.pairwise_filterMap]
    refine List.pairwise_lt_range.imp ?_
    intro a b hab x hx y hy
    cases h1 : owner.getD a none with
    | none => rw [h1] at hx; simp at hx
    | some v =>
      rw [h1] at hx
      cases h2 : owner.getD b none with
      | none => rw [h2] at hy; simp at hy
      | some v' =>
        rw [h2] at hy
        simp at hx hy
        subst hx; subst hy; exact hab

theorem relayAll_ris (t : SetTable) (es : Array (Int × Value)) (wanted : Nat) : Ris (relayAll t es wanted).2.1 ∧ (relayAll t es wanted).2.1.led = t.led := by
  unfold relayAll
  split
  · rename_i t' o h
    dsimp only
    split
    · exact laid_ris h
    · exact ⟨standIn_ris _ _, rfl⟩
  · exact ⟨standIn_ris _ _, rfl⟩

theorem erase_permL {α : Type} : ∀ (l : List α) (i : Nat) (h : i < l.length), (l[i] :: l.eraseIdx i).Perm l
  | a :: r, 0, _ => by simp
  | a :: r, i + 1, h => by
    have h' : i < r.length := by simpa using h
    have := erase_permL r i h'
    simp only [List.getElem_cons_succ, List.eraseIdx_cons_succ]
    exact (List.Perm.swap a _ _).trans (this.cons a)

/-- pickOrder tells the same things, in another order. -/
theorem pickOrder_go_perm {α : Type} (next : Nat → Nat) : ∀ (f k : Nat) (l : List α) (out : Array α), l.length ≤ f → (pickOrder.go next f k l out).toList.Perm (out.toList ++ l) := by
  intro f
  induction f with
  | zero =>
    intro k l out h
    have : l = [] := List.eq_nil_of_length_eq_zero (by omega)
    subst this
    simp [pickOrder.go]
  | succ f ih =>
    intro k l out h
    unfold pickOrder.go
    cases hl : l with
    | nil => simp
    | cons a r =>
      rw [← hl]
      have hpos : 0 < l.length := by rw [hl]; simp
      have hm : next k % l.length < l.length := Nat.mod_lt _ hpos
      rw [List.getElem?_eq_getElem hm]
      dsimp only
      refine (ih _ _ _ (by rw [List.length_eraseIdx_of_lt hm]; omega)).trans ?_
      rw [Array.toList_push, List.append_assoc]
      refine List.Perm.append_left _ ?_
      exact erase_permL l _ hm

theorem pickOrder_perm {α : Type} (next : Nat → Nat) (xs : Array α) : (pickOrder next xs).toList.Perm xs.toList := by
  have := pickOrder_go_perm next xs.size 0 xs.toList #[] (by simp)
  simpa [pickOrder] using this

end My

end
section
set_option maxRecDepth 100000
namespace My
open PySem

/-! ### the facts of set_iterator -/
theorem slot_setit_next : Slot "set_iterator" "__next__" "set_iterator.__next__" :=
  .of (owner := "set_iterator") (n := "__next__") (by rw [typeLookup_type, builtinLookup_eq_fast]; kernel_rfl) (by decide +kernel) (by decide +kernel) (by decide +kernel)
    (by first | exact .inl (by decide +kernel) | exact .inr (by decide +kernel)) (by rw [isSubtype_type]; kernel_rfl)
theorem entry_setit_next : entryFor table "set_iterator.__next__" = some Builtin.«set_iterator.__next__» := entryFor_of_tree (by kernel_rfl)
theorem owner_setit : Manifest.owners.lookup (String.ofList ['r', 'o', 't', 'a', 'r', 'e', 't', 'i', '_', 't', 'e', 's'].reverse) = some Manifest.sig_set_iterator := by kernel_rfl
theorem args_setit_next (a : Value) : argsOk "set_iterator.__next__" ⟨[a], []⟩ := by
  unfold argsOk; rw [signature?_of (id := "set_iterator.__next__") (n := ['_', '_', 't', 'x', 'e', 'n', '_', '_']) (o := ['r', 'o', 't', 'a', 'r', 'e', 't', 'i', '_', 't', 'e', 's']) (by kernel_rfl) owner_setit]; kernel_rfl
theorem entry_set_iter : entryFor table "set.__iter__" = some Builtin.«frozenset.__iter__» :=
  entryFor_alias (id' := "frozenset.__iter__") (by kernel_rfl) rfl (by decide +kernel) (by kernel_rfl)

section
variable {prog : Program} {w : World} {A : Around} {E : Value → Shared → Prop} {s : Shared}

theorem wpAny_choose' {src : Source} {n : Nat} {Q : Nat → Shared → Prop} (hn : n ≠ 0) (h : ∀ i d, i < n → Q i { s with drawn := d }) : wpAny (model prog w) A (choose src n) Q E s :=
  fun _ _ _ => ⟨hn, h _ _ (Nat.mod_lt _ (Nat.pos_of_ne_zero hn))⟩

theorem wpAny_drawOrder {α : Type} : ∀ (n : Nat) (xs : List α) {s : Shared} {Q : List α → Shared → Prop}, xs.length ≤ n → (∀ ys d, ys.Perm xs → Q ys { s with drawn := d }) →
    wpAny (model prog w) A (drawOrder n xs) Q E s := by
  intro n
  induction n with
  | zero =>
    intro xs s Q h hQ
    have : xs = [] := List.eq_nil_of_length_eq_zero (by omega)
    subst this
    exact wpAny_pure (hQ [] s.drawn .rfl)
  | succ n ih =>
    intro xs s Q h hQ
    cases hx : xs with
    | nil => subst hx; exact wpAny_pure (hQ [] s.drawn .rfl)
    | cons a r =>
      have hpos : 0 < xs.length := by rw [hx]; simp
      unfold drawOrder
      rw [← hx]
      refine wpAny_bind (wpAny_choose' (Nat.ne_of_gt hpos) fun i d hi => ?_)
      rw [List.getElem?_eq_getElem hi]
      dsimp only
      refine wpAny_bind (ih _ (by rw [List.length_eraseIdx_of_lt hi]; omega) fun ys d' hp => wpAny_pure ?_)
      exact hQ _ d' ((hp.cons _).trans (erase_permL xs i hi))

/-- a set at a: its entries, epoch, table -/
def SAt (h : Heap) (a : Addr) (es : Array (Int × Value)) (ep : Nat) (t : SetTable) : Prop :=
  ∃ o, h.get? a = some o ∧ o.ExactSet ∧ o.data = .set es ep t ∧ t.fits es.size = true

theorem SAt.keep {h h' : Heap} {a : Addr} {es : Array (Int × Value)} {ep : Nat} {t : SetTable} (x : SAt h a es ep t) (k : ∀ o, h.get? a = some o → h'.get? a = some o) : SAt h' a es ep t :=
  let ⟨o, ho, r⟩ := x; ⟨o, k o ho, r⟩
theorem SAt.typeIs {a : Addr} {es : Array (Int × Value)} {ep : Nat} {t : SetTable} (x : SAt s.heap a es ep t) : s.TypeIs (.ref a) "set" :=
  let ⟨o, ho, hc, _⟩ := x; ⟨o, ho, hc.1⟩

/-- what the iterator has in its first field, and the values that it gives, in their order -/
def SMode (w : World) (h : Heap) (a : Addr) (es : Array (Int × Value)) (ep : Nat) (t : SetTable) (us : List Value) (i : Nat) (first : Value) : Prop :=
  (w.params.followText "set-order" = true ∧ us = (pickOrder (w.params.setOrder a ep) es).toList.map (·.2) ∧ first = .int 0 0)
  ∨ (w.params.followText "set-order" = false ∧ (!t.plain && decide (es.size > 1)) = false ∧ t.led = true ∧ Ris t ∧ us = es.toList.map (·.2) ∧ ∃ slot : Nat, first = .int slot 0 ∧ SetTable.below t.place slot = i)
  ∨ (∃ (tp : Addr) (ps : List Nat), first = .ref tp ∧ (∃ o c, h.get? tp = some o ∧ o.data = .seq (ps.map fun (p : Nat) => rawInt p).toArray c) ∧ (∀ p ∈ ps, p < es.size) ∧ us = ps.map fun p => (es[p]?.map (·.2)).getD .none)

def SIt (w : World) (h : Heap) (it a S : Addr) (us : List Value) (i : Nat) : Prop :=
  ∃ o es ep t first, SAt h a es ep t ∧ h.get? it = some o ∧ o.cls = .type "set_iterator" ∧ o.data = .fields #[first, .int i 0, .ref a, .int es.size 0, .int ep 0] ∧ SMode w h a es ep t us i first
    ∧ i ≤ us.length ∧ us.length = es.size ∧ (∀ tp, first = .ref tp → tp ≠ it ∧ tp ≠ S) ∧ a ≠ S ∧ it ≠ S

theorem SIt.typeIs {it a S : Addr} {us : List Value} {i : Nat} (x : SIt w s.heap it a S us i) : s.TypeIs (.ref it) "set_iterator" :=
  let ⟨o, _, _, _, _, _, ho, hc, _⟩ := x; ⟨o, ho, hc⟩
theorem SMode.keep {h h' : Heap} {a : Addr} {es : Array (Int × Value)} {ep : Nat} {t : SetTable} {us : List Value} {i : Nat} {first : Value} (x : SMode w h a es ep t us i first)
    (k : ∀ tp o, first = .ref tp → h.get? tp = some o → h'.get? tp = some o) : SMode w h' a es ep t us i first := by
  rcases x with x | x | ⟨tp, ps, e, ⟨o, c, ho, hd⟩, r⟩
  · exact .inl x
  · exact .inr (.inl x)
  · exact .inr (.inr ⟨tp, ps, e, ⟨o, c, k tp o e ho, hd⟩, r⟩)
theorem SIt.keep {h h' : Heap} {it a S : Addr} {us : List Value} {i : Nat} (x : SIt w h it a S us i) (k : ∀ b o, b ≠ S → h.get? b = some o → h'.get? b = some o) : SIt w h' it a S us i := by
  obtain ⟨o, es, ep, t, first, h1, h2, h3, h4, h5, h6, h7, h8, h9, h10⟩ := x
  exact ⟨o, es, ep, t, first, h1.keep fun o ho => k a o h9 ho, k it o h10 h2, h3, h4, h5.keep fun tp o e ho => k tp o (h8 tp e).2 ho, h6, h7, h8, h9, h10⟩

theorem wpAny_setsByText {Q : Bool → Shared → Prop} (h : Q (w.params.followText "set-order") s) : wpAny (model prog w) A setsByText Q E s := by
  unfold setsByText
  exact wpAny_bind (wpAny_askSetting (wpAny_pure h))

theorem wpAny_setNext {a : Addr} {es : Array (Int × Value)} {ep : Nat} {t : SetTable} {us : List Value} {i slot : Nat} {Q : Option (Value × Nat) → Shared → Prop} (hS : SAt s.heap a es ep t)
    (hm : SMode w s.heap a es ep t us i (.int slot 0))
    (h0 : us[i]? = none → Q none s) (h1 : ∀ (x : Value) (slot' : Nat), us[i]? = some x → SMode w s.heap a es ep t us (i + 1) (.int slot' 0) → Q (some (x, slot')) s) :
    wpAny (model prog w) A (setNext a slot i ep) Q E s := by
  obtain ⟨o, ho, hex, hd, hf⟩ := hS
  unfold setNext
  refine wpAny_bind (wpAny_setState_of ho hd hf ?_)
  dsimp only
  refine wpAny_bind (wpAny_setsByText ?_)
  rcases hm with ⟨hb, hu, hfst⟩ | ⟨hb, hdr, hl, hr, hu, sl, hfst, hbe⟩ | ⟨tp, ps, hfst, _⟩
  · rw [hb]
    simp only [bne_self_eq_false, Bool.false_eq_true, ↓reduceIte]
    refine wpAny_bind ?_
    unfold setWalk
    refine wpAny_bind (wpAny_setState_of ho hd hf ?_)
    dsimp only
    refine wpAny_bind (wpAny_setsByText ?_)
    rw [hb]
    simp only [↓reduceIte]
    refine wpAny_bind (wpAny_askSetting (wpAny_pure (wpAny_pure ?_)))
    have hsl : slot = 0 := by injection hfst with e; omega
    subst hsl
    have e : us[i]? = ((pickOrder (w.params.setOrder a ep) es)[i]?).map (·.2) := by rw [hu, List.getElem?_map, Array.getElem?_toList]
    show Q (Option.map _ ((pickOrder (w.params.setOrder a ep) es)[i]?)) s
    cases hg : (pickOrder (w.params.setOrder a ep) es)[i]? with
    | none => rw [hg] at e; exact h0 e
    | some x => rw [hg] at e; exact h1 x.2 0 e (.inl ⟨hb, hu, rfl⟩)
  · rw [hb]
    simp only [Bool.false_eq_true, ↓reduceIte]
    show wpAny _ _ (if (!t.plain && decide (es.size > 1)) = true then _ else _) _ _ _
    rw [hdr]
    simp only [Bool.false_eq_true, ↓reduceIte]
    refine wpAny_bind ?_
    show wpAny _ _ (if (!t.led && !es.isEmpty) = true then _ else _) _ _ _
    rw [hl]
    simp only [Bool.not_true, Bool.false_and, Bool.false_eq_true, ↓reduceIte]
    refine wpAny_pure (wpAny_pure ?_)
    have hsl : sl = slot := by injection hfst with e; omega
    subst hsl
    rw [hbe]
    have hps : t.place.size = es.size := by
      simp only [SetTable.fits, Bool.and_eq_true, beq_iff_eq] at hf; exact hf.1
    have e : us[i]? = (es[i]?).map (·.2) := by rw [hu, List.getElem?_map, Array.getElem?_toList]
    rcases Nat.lt_or_ge i es.size with hlt | hge
    · have hlt' : i < t.place.size := by omega
      rw [Array.getElem?_eq_getElem hlt] at e
      rw [Array.getElem?_eq_getElem hlt, Array.getElem?_eq_getElem hlt']
      exact h1 _ _ e (.inr (.inl ⟨hb, hdr, hl, hr, hu, _, rfl, below_next hr hlt'⟩))
    · rw [Array.getElem?_eq_none hge] at e
      rw [Array.getElem?_eq_none hge]
      exact h0 e
  · cases hfst

theorem SMode.next {h : Heap} {a : Addr} {es : Array (Int × Value)} {ep : Nat} {t : SetTable} {us : List Value} {i j : Nat} {tp : Addr} (x : SMode w h a es ep t us i (.ref tp)) : SMode w h a es ep t us j (.ref tp) := by
  rcases x with ⟨_, _, e⟩ | ⟨_, _, _, _, _, _, e, _⟩ | x
  · cases e
  · cases e
  · exact .inr (.inr x)

theorem wpAny_pyNext_set_item {it a S : Addr} {us : List Value} {i : Nat} {x : Value} {Q : Option Value → Shared → Prop} (hit : SIt w s.heap it a S us i) (hia : it ≠ a) (hx : us[i]? = some x)
    (hQ : ∀ h', SIt w h' it a S us (i + 1) → Heap.SameBut it s.heap h' → Q (some x) { s with heap := h' }) : wpAny (model prog w) A (pyNext (.ref it)) Q E s := by
  obtain ⟨o, es, ep, t, first, hS, ho, hc, hd, hm, hle, hlen, hne, haS, hiS⟩ := id hit
  obtain ⟨oa, hoa, hexa, hda, hfa⟩ := id hS
  have hlt : i < us.length := by
    rcases Nat.lt_or_ge i us.length with h | h
    · exact h
    · rw [List.getElem?_eq_none h] at hx; cases hx
  unfold pyNext
  refine wpAny_bind (wpAny_attempt (wpAny_callSpecial?_slot (name := Str.ofString "__next__") hit.typeIs slot_setit_next
    (wpAny_call_entry slot_setit_next hit.typeIs entry_setit_next ?_ (args_setit_next _))))
  unfold Builtin.«set_iterator.__next__»
  refine wpAny_bind (wpAny_pure ?_)
  refine wpAny_bind (wpAny_fieldsOf ho hd ?_)
  dsimp only
  refine wpAny_bind (wpAny_setEntries_of hoa hda hfa ?_)
  rw [if_neg (by simp)]
  have up : ∀ (f : Array Value → Array Value), (Heap.update s.heap it (Obj.mapFields f)).get? it = some (Obj.mapFields f o) := fun f =>
    Heap.get?_update_self _ ho (Obj.isFreed_of_fields (Obj.data_mapFields hd _))
  cases first with
  | int sl tk =>
    have htk : tk = 0 ∧ 0 ≤ sl := by
      rcases hm with ⟨_, _, e⟩ | ⟨_, _, _, _, _, n, e, _⟩ | ⟨_, _, e, _⟩
      · injection e with e1 e2; exact ⟨e2, by omega⟩
      · injection e with e1 e2; exact ⟨e2, by omega⟩
      · cases e
    obtain ⟨rfl, hsl⟩ := htk
    obtain ⟨n, rfl⟩ := Int.eq_ofNat_of_zero_le hsl
    dsimp only
    simp only [Int.toNat_natCast]
    refine wpAny_bind (wpAny_setNext (slot := n) (us := us) hS hm (fun e => by rw [hx] at e; cases e) fun y slot' hy hm' => ?_)
    rw [hx] at hy
    injection hy with hy
    subst hy
    dsimp only
    refine wpAny_bind (wpAny_setField ho hd (by simp) ?_)
    refine wpAny_bind (wpAny_setField (up _) (Obj.data_mapFields hd _) (by simp) ?_)
    refine wpAny_pure ⟨_, rfl, wpAny_pure (hQ _ ?_ ((Heap.SameBut.update ..).trans (Heap.SameBut.update ..)))⟩
    have sb := (Heap.SameBut.update s.heap it (Obj.mapFields (·.setIfInBounds 0 (rawInt slot')))).trans (Heap.SameBut.update _ it (Obj.mapFields (·.setIfInBounds 1 (rawInt ((i : Int) + 1)))))
    refine ⟨_, es, ep, t, .int slot' 0, hS.keep fun o ho => sb.extBut a o (Ne.symm hia) ho, Heap.get?_update_self _ (up _) (Obj.isFreed_of_fields (Obj.data_mapFields (Obj.data_mapFields hd _) _)), ?_, ?_, hm'.keep (fun tp o e => by cases e), by omega, hlen, (fun tp e => by cases e), haS, hiS⟩
    · exact (Obj.cls_mapFields ..).trans ((Obj.cls_mapFields ..).trans hc)
    · rw [Obj.data_mapFields (Obj.data_mapFields hd _)]; simp [rawInt]
  | ref tp =>
    rcases hm with ⟨_, _, e⟩ | ⟨_, _, _, _, _, n, e, _⟩ | ⟨tp', ps, e, ⟨ot, c, hot, hdt⟩, hps, hu⟩
    · cases e
    · cases e
    · injection e with e
      subst e
      dsimp only
      refine wpAny_bind (wpAny_seqItems hot hdt ?_)
      dsimp only
      have hlp : i < ps.length := by rw [hu, List.length_map] at hlt; exact hlt
      have hg : (List.map (fun (p : Nat) => rawInt p) ps).toArray[((i : Nat) : Int).toNat]? = some (rawInt (ps[i] : Nat)) := by simp [hlp]
      rw [hg]
      dsimp only [rawInt]
      have hpi : ps[i] < es.size := hps _ (List.getElem_mem hlp)
      refine wpAny_bind ?_
      unfold setNextDrawn
      refine wpAny_bind (wpAny_setState_of hoa hda hfa ?_)
      simp only [bne_self_eq_false, Bool.false_eq_true, ↓reduceIte, Int.toNat_natCast, Array.getElem?_eq_getElem hpi]
      refine wpAny_pure ?_
      refine wpAny_bind (wpAny_setField ho hd (by simp) ?_)
      have ex : es[ps[i]].2 = x := by
        have := hx
        rw [hu, List.getElem?_map, List.getElem?_eq_getElem hlp] at this
        simpa [hpi] using this
      rw [ex]
      refine wpAny_pure ⟨_, rfl, wpAny_pure (hQ _ ?_ (Heap.SameBut.update ..))⟩
      have sb := Heap.SameBut.update s.heap it (Obj.mapFields (·.setIfInBounds 1 (rawInt ((i : Int) + 1))))
      refine ⟨_, es, ep, t, .ref tp, hS.keep fun o ho => sb.extBut a o (Ne.symm hia) ho, up _, (Obj.cls_mapFields ..).trans hc, ?_, ?_, by omega, hlen, hne, haS, hiS⟩
      · rw [Obj.data_mapFields hd]; simp [rawInt]
      · exact .inr (.inr ⟨tp, ps, rfl, ⟨ot, c, sb.extBut tp ot (hne tp rfl).1 hot, hdt⟩, hps, hu⟩)
  | _ => rcases hm with ⟨_, _, e⟩ | ⟨_, _, _, _, _, n, e, _⟩ | ⟨_, _, e, _⟩ <;> cases e

theorem wpAny_pyNext_set_end {it a S : Addr} {us : List Value} {i : Nat} {Q : Option Value → Shared → Prop} (hh : A.handled = none) (hit : SIt w s.heap it a S us i) (hx : us[i]? = none)
    (hQ : ∀ h', Heap.ExtBut it s.heap h' → Q none { s with heap := h' }) : wpAny (model prog w) A (pyNext (.ref it)) Q E s := by
  obtain ⟨o, es, ep, t, first, hS, ho, hc, hd, hm, hle, hlen, hne, haS, hiS⟩ := id hit
  obtain ⟨oa, hoa, hexa, hda, hfa⟩ := id hS
  have hge : us.length ≤ i := by
    rcases Nat.lt_or_ge i us.length with h | h
    · rw [List.getElem?_eq_getElem h] at hx; cases hx
    · exact h
  unfold pyNext
  refine wpAny_bind (wpAny_attempt (wpAny_callSpecial?_slot (name := Str.ofString "__next__") hit.typeIs slot_setit_next
    (wpAny_call_entry slot_setit_next hit.typeIs entry_setit_next ?_ (args_setit_next _))))
  unfold Builtin.«set_iterator.__next__»
  refine wpAny_bind (wpAny_pure ?_)
  refine wpAny_bind (wpAny_fieldsOf ho hd ?_)
  dsimp only
  refine wpAny_bind (wpAny_setEntries_of hoa hda hfa ?_)
  rw [if_neg (by simp)]
  have up : ∀ (f : Array Value → Array Value), (Heap.update s.heap it (Obj.mapFields f)).get? it = some (Obj.mapFields f o) := fun f =>
    Heap.get?_update_self _ ho (Obj.isFreed_of_fields (Obj.data_mapFields hd _))
  have fin : ∀ (h1 : Heap), Heap.ExtBut it s.heap h1 → wpAny (model prog w) A.in1 (newExc (.type "StopIteration") [] >>= fun e => raiseNew e) (fun (fin : Fin) s' => ∃ v, fin = .done (.ret v) ∧ wpAny (model prog w) A (pure (some v)) Q E s')
      (fun e s' => wpAny (model prog w) A (do if ← isInstance e (.type "StopIteration") then pure none else throw e) Q E s') { s with heap := h1 } := by
    intro h1 he
    refine wpAny_bind ?_
    simp only [newExc, newTuple]
    refine wpAny_bind (wpAny_newObj_type ?_ (by size_fits))
    refine wpAny_bind (m := firstArgMember _ _) (wpAny_of_eq (a := Value.none) (by first | rfl | (simp only [firstArgMember]; rfl)) ?_)
    refine wpAny_newObj_type ?_ (by size_fits)
    simp only [raiseNew]
    refine wpAny_bind (wpAny_handled ?_)
    rw [show A.in1.handled = none from hh]
    refine wpAny_bind (wpAny_pure (wpAny_throw ?_))
    refine wpAny_bind (wpAny_isInstance (T := "StopIteration") (b := true) ⟨_, Heap.get?_push_size _ rfl, rfl⟩ isSubtype_stop ?_)
    exact wpAny_pure (hQ _ ((he.push _).push _))
  cases first with
  | int sl tk =>
    have htk : tk = 0 ∧ 0 ≤ sl := by
      rcases hm with ⟨_, _, e⟩ | ⟨_, _, _, _, _, n, e, _⟩ | ⟨_, _, e, _⟩
      · injection e with e1 e2; exact ⟨e2, by omega⟩
      · injection e with e1 e2; exact ⟨e2, by omega⟩
      · cases e
    obtain ⟨rfl, hsl⟩ := htk
    obtain ⟨n, rfl⟩ := Int.eq_ofNat_of_zero_le hsl
    dsimp only
    simp only [Int.toNat_natCast]
    refine wpAny_bind (wpAny_setNext (slot := n) (us := us) hS hm (fun _ => ?_) fun y slot' hy hm' => by rw [hx] at hy; cases hy)
    dsimp only
    refine wpAny_bind (wpAny_setField ho hd (by simp) ?_)
    exact fin _ (Heap.SameBut.update ..).extBut
  | ref tp =>
    rcases hm with ⟨_, _, e⟩ | ⟨_, _, _, _, _, n, e, _⟩ | ⟨tp', ps, e, ⟨ot, c, hot, hdt⟩, hps, hu⟩
    · cases e
    · cases e
    · injection e with e
      subst e
      dsimp only
      refine wpAny_bind (wpAny_seqItems hot hdt ?_)
      dsimp only
      have hlp : ps.length ≤ i := by rw [hu, List.length_map] at hge; exact hge
      have hg : (List.map (fun (p : Nat) => rawInt p) ps).toArray[((i : Nat) : Int).toNat]? = none := by simp [hlp]
      rw [hg]
      dsimp only
      refine wpAny_bind (wpAny_setField ho hd (by simp) ?_)
      refine wpAny_bind (wpAny_setField (up _) (Obj.data_mapFields hd _) (by simp) ?_)
      exact fin _ ((Heap.SameBut.update ..).trans (Heap.SameBut.update ..)).extBut
  | _ => rcases hm with ⟨_, _, e⟩ | ⟨_, _, _, _, _, n, e, _⟩ | ⟨_, _, e, _⟩ <;> cases e

/-- iter of a set: what it gives is the entries' values in some order -/
theorem wpAny_pyIter_set {a S : Addr} {es : Array (Int × Value)} {ep : Nat} {t : SetTable} {Q : Value → Shared → Prop} (hS : SAt s.heap a es ep t) (hr : Ris t)
    (hl : w.params.followText "set-order" = true ∨ t.led = true) (haS : a ≠ S) (hSl : S < s.heap.objs.size) (hz : es.size ≤ sizeLine)
    (hQ : ∀ it h' d us, us.Perm (es.toList.map (·.2)) → SIt w h' it a S us 0 → s.heap.objs.size ≤ it → it < h'.objs.size → (∀ b o, s.heap.get? b = some o → h'.get? b = some o) → Q (.ref it) { s with heap := h', drawn := d }) :
    wpAny (model prog w) A (pyIter (.ref a)) Q E s := by
  obtain ⟨oa, hoa, hexa, hda, hfa⟩ := id hS
  have hT := hS.typeIs
  have hal : a < s.heap.objs.size := Heap.lt_size hoa
  refine wpAny_pyIter_slot hT F.slot_set_iter (wpAny_call_entry F.slot_set_iter hT entry_set_iter ?_ (F.args_set_iter_1 _))
  unfold Builtin.«frozenset.__iter__» Builtin.Frozenset.slot0 slotArgs
  simp only [List.isEmpty_nil, Bool.not_true, Bool.false_eq_true, ↓reduceIte, bind_assoc, List.length_nil, bne_self_eq_false]
  unfold Builtin.Frozenset.addrOf Builtin.Frozenset.sizeOf
  refine wpAny_bind (wpAny_pure ?_)
  try dsimp only
  refine wpAny_bind (wpAny_pure ?_)
  refine wpAny_bind (wpAny_bind (wpAny_setEntries_of hoa hda hfa (wpAny_pure ?_)))
  refine wpAny_bind ?_
  unfold setDrawn
  refine wpAny_bind (wpAny_setState_of hoa hda hfa ?_)
  dsimp only
  refine wpAny_bind (wpAny_setsByText (wpAny_pure ?_))
  have tail : ∀ (s1 : Shared) (first : Value) (us : List Value) (d), s1.os = s.os → s1.gens = s.gens → s1.toks = s.toks → s1.drawn = d → (∀ b o, s.heap.get? b = some o → s1.heap.get? b = some o) → s.heap.objs.size ≤ s1.heap.objs.size →
      SMode w s1.heap a es ep t us 0 first → us.Perm (es.toList.map (·.2)) → (∀ tp, first = .ref tp → tp < s1.heap.objs.size ∧ tp ≠ S) →
      wpAny (model prog w) A.in1 (setEpoch a >>= fun e => newFields "set_iterator" [first, rawInt 0, .ref a, rawInt es.size, rawInt e] >>= fun it => ret it)
        (fun fin s' => ∃ r, fin = .done (.ret r) ∧ ∃ T' r', s'.TypeIs r T' ∧ typeLookup (.type T') "__next__" = pure (some r') ∧ Q r s') E s1 := by
    intro s1 first us d e1 e2 e3 e4 k hsz hm hp htp
    have hS1 : SAt s1.heap a es ep t := hS.keep fun o ho => k a o ho
    refine wpAny_bind (wpAny_setEpoch_of (k a oa hoa) hda hfa ?_)
    refine wpAny_bind (wpAny_newObj_type (wpAny_pure ⟨_, rfl, "set_iterator", _, ⟨_, Heap.get?_push_size _ rfl, rfl⟩, slot_setit_next.lookup, ?_⟩))
    have hq := hQ s1.heap.objs.size (s1.heap.push { cls := .type "set_iterator", data := .fields #[first, .int ((0 : Nat) : Int) 0, .ref a, .int es.size 0, .int ep 0] }) d us hp
      ⟨_, es, ep, t, first, hS1.keep fun o ho => Heap.get?_push_of_some _ ho, Heap.get?_push_size _ rfl, rfl, rfl, hm.keep fun tp o _ ho => Heap.get?_push_of_some _ ho, Nat.zero_le _, by rw [hp.length_eq]; simp,
        fun tp e => ⟨Nat.ne_of_lt (htp tp e).1, (htp tp e).2⟩, haS, Nat.ne_of_gt (Nat.lt_of_lt_of_le hSl hsz)⟩ hsz (by rw [Heap.size_push]; exact Nat.lt_succ_self _) (fun b o ho => Heap.get?_push_of_some _ (k b o ho))
    have es1 : ({ s with heap := s1.heap.push { cls := .type "set_iterator", data := .fields #[first, .int ((0 : Nat) : Int) 0, .ref a, .int es.size 0, .int ep 0] }, drawn := d } : Shared) =
        { s1 with heap := s1.heap.push { cls := .type "set_iterator", data := .fields #[first, .int ((0 : Nat) : Int) 0, .ref a, .int es.size 0, .int ep 0] } } := by
      cases s1; cases s; simp_all
    rw [es1] at hq
    exact hq
  show wpAny _ _ (if (!(w.params.followText "set-order") && (!t.plain && decide (es.size > 1))) = true then _ else _) _ _ _
  cases hb : w.params.followText "set-order" with
  | true =>
    simp only [Bool.not_true, Bool.false_and, Bool.false_eq_true, ↓reduceIte]
    refine wpAny_bind (wpAny_pure ?_)
    exact tail s _ _ _ rfl rfl rfl rfl (fun _ _ h => h) (Nat.le_refl _) (.inl ⟨hb, rfl, rfl⟩) ((pickOrder_perm _ _).map _) (fun tp e => by cases e)
  | false =>
    have hl' : t.led = true := hl.resolve_left (by rw [hb]; exact Bool.false_ne_true)
    cases hdr : (!t.plain && decide (es.size > 1)) with
    | false =>
      simp only [Bool.not_false, Bool.and_false, Bool.false_eq_true, ↓reduceIte]
      refine wpAny_bind (wpAny_pure ?_)
      exact tail s _ _ _ rfl rfl rfl rfl (fun _ _ h => h) (Nat.le_refl _) (.inr (.inl ⟨hb, hdr, hl', hr, rfl, 0, rfl, below_zero hr⟩)) .rfl (fun tp e => by cases e)
    | true =>
      simp only [Bool.not_false, Bool.and_self, ↓reduceIte]
      refine wpAny_bind (wpAny_drawOrder _ _ (by simp) fun ps d hp => ?_)
      have hlen : ps.length = es.size := by rw [hp.length_eq]; simp
      refine wpAny_bind (wpAny_newObj_type ?_ (by show _ ≤ _; simpa [hlen] using hz))
      refine tail _ _ (ps.map fun p => (es[p]?.map (·.2)).getD .none) d rfl rfl rfl rfl (fun b o h => Heap.get?_push_of_some _ h) (by show _ ≤ (s.heap.push _).objs.size; rw [Heap.size_push]; exact Nat.le_succ _)
        (.inr (.inr ⟨_, ps, rfl, ⟨_, _, Heap.get?_push_size _ rfl, rfl⟩, fun p hp' => by simpa using hp.mem_iff.mp hp', rfl⟩)) ?_ ?_
      · refine (hp.map _).trans (List.Perm.of_eq ?_)
        refine List.ext_getElem (by simp) fun i h1 h2 => ?_
        have hi : i < es.size := by simpa using h1
        simp [hi]
      · intro tp e
        injection e with e
        subst e
        exact ⟨by show _ < (s.heap.push _).objs.size; rw [Heap.size_push]; exact Nat.lt_succ_self _, Nat.ne_of_gt hSl⟩

end
end My

end
section
set_option linter.all false
set_option maxRecDepth 100000
namespace My
open PySem

def keyI : Value → Int
  | .int n _ => n
  | _ => 0

/-- a set of ints: its members in some order -/
def SetI (w : World) (h : Heap) (a : Addr) (ks : List Int) : Prop :=
  ∃ es ep t, SAt h a es ep t ∧ Ris t ∧ (w.params.followText "set-order" = true ∨ t.led = true) ∧ (∀ e ∈ es.toList, ∃ n tk, e = (hashInt n, .int n tk)) ∧ (es.toList.map fun e => keyI e.2).Perm ks ∧ ks.Nodup ∧ ks.length < scanBound

section
variable {prog : Program} {w : World} {A : Around} {E : Value → Shared → Prop} {s : Shared}

theorem SetI.keep {h h' : Heap} {a : Addr} {ks : List Int} (x : SetI w h a ks) (k : ∀ o, h.get? a = some o → h'.get? a = some o) : SetI w h' a ks :=
  let ⟨es, ep, t, hS, r⟩ := x; ⟨es, ep, t, hS.keep k, r⟩
theorem SetI.there {h : Heap} {a : Addr} {ks : List Int} (x : SetI w h a ks) : ∃ o, h.get? a = some o := let ⟨_, _, _, ⟨o, ho, _⟩, _⟩ := x; ⟨o, ho⟩
theorem SetI.typeIs {a : Addr} {ks : List Int} (x : SetI w s.heap a ks) : s.TypeIs (.ref a) "set" := let ⟨_, _, _, hS, _⟩ := x; hS.typeIs
theorem SetI.noDict {a : Addr} {ks : List Int} (x : SetI w s.heap a ks) : ∀ b, Value.ref a = .ref b → ∃ ob, s.heap.get? b = some ob ∧ ob.dict = none :=
  fun b e => by injection e with e; subst e; exact let ⟨_, _, _, ⟨o, ho, hc, _⟩, _⟩ := x; ⟨o, ho, hc.2.1⟩
theorem SetI.perm {h : Heap} {a : Addr} {ks ks' : List Int} (x : SetI w h a ks) (p : ks.Perm ks') : SetI w h a ks' :=
  let ⟨es, ep, t, hS, hr, hl, he, hp, hn, hb⟩ := x; ⟨es, ep, t, hS, hr, hl, he, hp.trans p, p.nodup_iff.mp hn, by rw [← p.length_eq]; exact hb⟩

theorem elemsI {es : Array (Int × Value)} (he : ∀ e ∈ es.toList, ∃ n tk, e = (hashInt n, Value.int n tk)) : ElemsOf (intKind prog w) es.toList := fun e hm => by
  obtain ⟨n, tk, rfl⟩ := he e hm
  exact ⟨⟨n, by show Value.isInt n (.int n tk) = true; simp [Value.isInt], rfl⟩, rfl⟩

theorem storeI {a : Addr} {h : Heap} {o : Obj} {es : Array (Int × Value)} {ep : Nat} {t : SetTable} (ho : h.get? a = some o) (hex : o.ExactSet) (hd : o.data = .set es ep t) {es' : Array (Int × Value)} {t' : SetTable} {ks : List Int}
    (hf : t'.fits es'.size = true) (hr : Ris t') (hl : w.params.followText "set-order" = true ∨ t'.led = true) (he : ∀ e ∈ es'.toList, ∃ n tk, e = (hashInt n, .int n tk)) (hp : (es'.toList.map fun e => keyI e.2).Perm ks) (hn : ks.Nodup) (hb : ks.length < scanBound) :
    (h.update a (Obj.putSet es' t')).get? a = some { o with data := .set es' (ep + 1) t' } ∧ SetI w (h.update a (Obj.putSet es' t')) a ks := by
  have hg : (h.update a (Obj.putSet es' t')).get? a = some { o with data := .set es' (ep + 1) t' } := by
    have := Heap.get?_update_self (Obj.putSet es' t') ho (by rw [putSet_of es' t' hd]; rfl)
    rw [putSet_of es' t' hd] at this; exact this
  exact ⟨hg, es', ep + 1, t', ⟨_, hg, hex, rfl, hf⟩, hr, hl, he, hp, hn, hb⟩

theorem addTailI {g : Bool → Sem Unit} (hg : ∀ (b : Bool) (s₁ : Shared) (Q' : Unit → Shared → Prop), Q' () s₁ → wpAny (model prog w) A (g b) Q' E s₁)
    {a : Addr} {o : Obj} {es : Array (Int × Value)} {ep : Nat} {t : SetTable} (ho : s.heap.get? a = some o) (hex : o.ExactSet) (hd : o.data = .set es ep t)
    {es1 : Array (Int × Value)} {t2 : SetTable} {ks : List Int} (he : ∀ e ∈ es1.toList, ∃ n tk, e = (hashInt n, .int n tk)) (hp : (es1.toList.map fun e => keyI e.2).Perm ks) (hn : ks.Nodup)
    (hb : ks.length < scanBound) (hf2 : t2.fits es1.size = true) (hr2 : Ris t2) (hl2 : w.params.followText "set-order" = true ∨ t2.led = true) {wasDummy : Bool} {R : Option Bool → Shared → Prop}
    (h : ∀ h', Heap.SameBut a s.heap h' → SetI w h' a ks → R (some true) { s with heap := h' }) :
    wpAny (model prog w) A (do
        storeSet a es1 t2
        if (!wasDummy && t2.tooFull) = true then do
            g (relayAll t2 es1 (SetTable.grown es1.size)).2.2
            storeSet a (relayAll t2 es1 (SetTable.grown es1.size)).1 (relayAll t2 es1 (SetTable.grown es1.size)).2.1
            pure (some true)
          else pure (some true)) R E s := by
  have hsz0 : es1.size = ks.length := by rw [← hp.length_eq]; simp
  refine wpAny_bind (wpAny_storeSet_of ho hd ?_ (fits_of_scanBound (by omega)))
  obtain ⟨ho1, hS1⟩ := storeI (w := w) ho hex hd hf2 hr2 hl2 he hp hn hb
  have hsb1 := Heap.SameBut.update s.heap a (Obj.putSet es1 t2)
  split
  · have hp' := relayAll_perm t2 es1 (SetTable.grown es1.size)
    have hfr := relayAll_fits t2 es1 (SetTable.grown es1.size)
    obtain ⟨hri, hle⟩ := relayAll_ris t2 es1 (SetTable.grown es1.size)
    generalize hRl : relayAll t2 es1 (SetTable.grown es1.size) = Rl at hp' hfr hri hle ⊢
    obtain ⟨es2, t3, gave2⟩ := Rl
    dsimp only at hp' hfr hri hle ⊢
    have hsz : es2.size = es1.size := by rw [← Array.length_toList, hp'.length_eq, Array.length_toList]
    refine wpAny_bind (hg _ _ _ ?_)
    refine wpAny_bind (wpAny_storeSet_of ho1 rfl ?_ (fits_of_scanBound (by omega)))
    obtain ⟨_, hS2⟩ := storeI (w := w) ho1 hex rfl hfr hri (hl2.imp id fun q => hle.trans q) (fun e hm => he e (hp'.mem_iff.mp hm)) ((hp'.map _).trans hp) hn hb
    exact wpAny_pure (h _ (hsb1.trans (Heap.SameBut.update _ a _)) hS2)
  · exact wpAny_pure (h _ hsb1 hS1)

theorem setAddHashedI {a : Addr} {ks : List Int} {n : Int} {tk : Tok} {Q : Bool → Shared → Prop} (hS : SetI w s.heap a ks) (hroom : ks.length + 1 < scanBound)
    (h : ∀ b h', Heap.SameBut a s.heap h' → SetI w h' a (if n ∈ ks then ks else n :: ks) → Q b { s with heap := h' }) :
    wpAny (model prog w) A (setAddHashed a (.int n tk) (hashInt n)) Q E s := by
  obtain ⟨es, ep, t, ⟨o, ho, hex, hd, hf⟩, hr, hl, he, hp, hn, hb⟩ := id hS
  have hkey : (intKind prog w).is n (.int n tk) = true := by show Value.isInt n (.int n tk) = true; simp [Value.isInt]
  have hsz : es.size = ks.length := by rw [← hp.length_eq]; simp
  have hmem : ∀ e ∈ es.toList, (intKind prog w).is n e.2 = true → n ∈ ks := fun e hm hi => by
    obtain ⟨m, t', rfl⟩ := he e hm
    have : Value.isInt n (.int m t') = true := hi
    have e' : m = n := by simpa [Value.isInt] using this
    subst e'
    exact hp.mem_iff.mp (List.mem_map.mpr ⟨_, hm, rfl⟩)
  have hmem' : n ∈ ks → ∃ e ∈ es.toList, (intKind prog w).is n e.2 = true := fun hk => by
    obtain ⟨e, hm, e'⟩ := List.mem_map.mp (hp.mem_iff.mpr hk)
    obtain ⟨m, t', rfl⟩ := he e hm
    have : m = n := e'
    subst this
    exact ⟨_, hm, by show Value.isInt m (.int m t') = true; simp [Value.isInt]⟩
  unfold setAddHashed setAddHashedIn
  refine wpAny_holding (wpAny_bind (wpAny_setState_of ho hd hf ?_))
  dsimp only
  rw [byScan_of (knd := intKind prog w) rfl (by omega) (elemsI he)]
  simp only [↓reduceIte]
  unfold setAddByScan
  refine wpAny_bind ?_
  refine wpAny_bind (wpAny_rule ?_)
  refine wpAny_bind (wpAny_setScan_of (knd := intKind prog w) hkey ho hd hf (elemsI he) ?_)
  cases hfi : List.findIdx? (fun e => (intKind prog w).is n e.2) es.toList with
  | some j =>
    dsimp only
    obtain ⟨hj, hpj, _⟩ := List.findIdx?_eq_some_iff_getElem.mp hfi
    have hk : n ∈ ks := hmem _ (List.getElem_mem hj) hpj
    refine wpAny_pure (wpAny_pure ?_)
    have := h false s.heap (Heap.SameBut.refl a s.heap) (by rw [if_pos hk]; exact hS)
    exact this
  | none =>
    dsimp only
    have hk : n ∉ ks := fun hk => by
      obtain ⟨e, hm, hi⟩ := hmem' hk
      have := List.findIdx?_eq_none_iff.mp hfi e hm
      rw [hi] at this; exact Bool.noConfusion this
    have hgw : ∀ (b : Bool) {s₁ : Shared} {Q' : Unit → Shared → Prop}, Q' () s₁ → wpAny (model prog w) A (match b with | true => rule "set.scan.the-table-gave-way" | false => pure ()) Q' E s₁ :=
      fun b s₁ Q' hq => by cases b <;> first | exact wpAny_pure hq | exact wpAny_rule hq
    have hperm := layNew_perm t es (hashInt n) (.int n tk)
    have hfits := layNew_fits t es (hashInt n) (.int n tk)
    obtain ⟨hri, hle⟩ := layNew_ris hr es (hashInt n) (.int n tk)
    show wpAny _ _ (match layNew t es (hashInt n) (.int n tk) with | (es, t, wasDummy, gave) => _) _ _ _
    generalize hL : layNew t es (hashInt n) (.int n tk) = L at hperm hfits hri hle ⊢
    obtain ⟨es1, t1, wasDummy, gave⟩ := L
    dsimp only at hperm hfits hri hle ⊢
    rw [Array.toList_push] at hperm
    have he1 : ∀ e ∈ es1.toList, ∃ n tk, e = (hashInt n, Value.int n tk) := fun e hm => by
      rcases List.mem_append.mp (hperm.mem_iff.mp hm) with q | q
      · exact he e q
      · rw [List.mem_singleton] at q; exact ⟨n, tk, q⟩
    have hp1 : (es1.toList.map fun e => keyI e.2).Perm (n :: ks) := by
      refine (hperm.map _).trans ?_
      rw [List.map_append]
      exact (List.perm_append_singleton _ _).trans (hp.cons n)
    have hn1 : (n :: ks).Nodup := List.nodup_cons.mpr ⟨hk, hn⟩
    have hb1 : (n :: ks).length < scanBound := hroom
    have hl1 : w.params.followText "set-order" = true ∨ t1.led = true := hl.imp id fun q => hle.trans q
    refine wpAny_bind (hgw _ ?_)
    have hend : ∀ h', Heap.SameBut a s.heap h' → SetI w h' a (n :: ks) → Q true { s with heap := h' } := fun h' hsb hS' => h true h' hsb (by rw [if_neg hk]; exact hS')
    split
    · refine wpAny_bind ?_
      rw [hashByValue_scannable 8 rfl]
      refine wpAny_pure ?_
      refine addTailI ?_ ho hex hd he1 hp1 hn1 hb1 ?_ ?_ ?_ ?_
      · intro b s₁ Q' hq; cases b <;> first | exact wpAny_pure hq | exact wpAny_rule hq
      · exact hfits
      · exact hri
      · exact hl1
      · intro h' hsb hS'; dsimp only; exact wpAny_pure (hend h' hsb hS')
    · refine wpAny_bind (wpAny_pure ?_)
      simp only [↓reduceIte]
      refine addTailI ?_ ho hex hd he1 hp1 hn1 hb1 hfits hri hl1 ?_
      · intro b s₁ Q' hq; cases b <;> first | exact wpAny_pure hq | exact wpAny_rule hq
      · intro h' hsb hS'; dsimp only; exact wpAny_pure (hend h' hsb hS')

end
end My

end
section
set_option linter.all false
set_option maxRecDepth 100000
namespace My
open PySem PySem.Spec PyProof.Rows L2

section
variable {prog : Program} {w : World} {A : Around} {E : Value → Shared → Prop} {s : Shared}

theorem hint_set {r : Addr} {Q : Bool → Shared → Prop} (hT : s.TypeIs (.ref r) "set") (h : Q false s) : wpAny (model prog w) A (Builtin.List.listLengthHint (.ref r)) Q E s := by
  unfold Builtin.List.listLengthHint
  refine wpAny_bind (wpAny_specialOf hT PySem.F.slot_set_len.lookup ?_)
  generalize hid : ("set.__len__" : String) = id0
  wp_delta
  rw [show splitId id0 = some ("set", "__len__") from by subst hid; decide +kernel]
  subst hid
  refine wpAny_bind (wpAny_isInstance (T := "set") (b := true) hT (by rw [isSubtype_type]; kernel_rfl) ?_)
  refine wpAny_ite_split (fun hab => absurd hab (by decide)) (fun _ => ?_)
  refine wpAny_ite_split (fun _ => ?_) (fun hab => absurd (by decide +kernel) hab)
  refine wpAny_bind (wpAny_typeOf hT ?_)
  exact wpAny_pure h

/-- collect of a set of ints: its members, in some order -/
theorem collect_setI {a : Addr} {ks : List Int} {Q : List Value → Shared → Prop} (hh : A.handled = none) (hS : SetI w s.heap a ks)
    (hQ : ∀ s' us ks', ks'.Perm ks → IntsAre us ks' → s'.os = s.os → s'.gens = s.gens → (∀ b o, s.heap.get? b = some o → s'.heap.get? b = some o) → s.heap.objs.size ≤ s'.heap.objs.size → Q us s') : wpAny (model prog w) A (collect (.ref a)) Q E s := by
  obtain ⟨es, ep, t, hSA, hr, hl, he, hp, hn, hb⟩ := id hS
  have hsz : es.size = ks.length := by rw [← hp.length_eq]; simp
  obtain ⟨oa, hoa, _⟩ := id hSA
  have hlt : a < s.heap.objs.size := Heap.lt_size hoa
  have hSI : s.heap.objs.size ≠ a := Nat.ne_of_gt hlt
  have kp1 : ∀ b o, s.heap.get? b = some o → (s.heap.push { cls := .type "list", data := .seq ([] : List Value).toArray }).get? b = some o := fun b o e => Heap.get?_push_of_some _ e
  unfold collect
  refine wpAny_bind (wpAny_runValue (codeAny_builtin F.entry_proto_collect ?_))
  rw [Around.under_plainId F.plain_proto_collect _]
  show wpAny _ A.in1 (newList [] >>= fun l => again (.builtin "list.__iadd__" ⟨[l, .ref a], []⟩)) _ _ s
  refine wpAny_bind (wpAny_newObj_type ?_)
  refine wpAny_pure ⟨plainId_quiet F.plain_list_iadd _, codeAny_builtin F.entry_list_iadd ?_⟩
  rw [Around.under_plainId F.plain_list_iadd _]
  show wpAny _ A.in1 (Builtin.List.listExtendWith (.ref s.heap.objs.size) (.ref a) (.ref s.heap.objs.size)) _ _ _
  unfold Builtin.List.listExtendWith
  have hSA1 : SAt (s.heap.push { cls := .type "list", data := .seq ([] : List Value).toArray }) a es ep t := hSA.keep fun o ho => kp1 a o ho
  refine wpAny_bind (wpAny_typeOf (T := "set") (SAt.typeIs (s := { s with heap := s.heap.push { cls := .type "list", data := .seq ([] : List Value).toArray } }) hSA1) ?_)
  have h1 : Builtin.List.listSameRef (.ref s.heap.objs.size) (.ref a) = false := by simp [Builtin.List.listSameRef, hSI]
  have h2 : (Value.type "set" == Value.type "list") = false := by decide
  have h3 : (Value.type "set" == Value.type "tuple") = false := by decide
  simp only [h1, h2, h3, Bool.or_false, Bool.false_eq_true, if_false]
  have hS₀ : (s.heap.push { cls := .type "list", data := .seq ([] : List Value).toArray }).get? s.heap.objs.size = some { cls := .type "list", data := .seq ([] : List Value).toArray } := Heap.get?_push_size _ rfl
  have hz : es.size ≤ sizeLine := fits_of_scanBound (by omega)
  refine wpAny_bind (wpAny_pyIter_set (S := s.heap.objs.size) hSA1 hr hl (Ne.symm hSI) (Heap.lt_size hS₀) hz fun it h' d us hperm hit hge hlt' k => ?_)
  have hgt : s.heap.objs.size < it := by
    have h4 := hge
    have h5 : (s.heap.push { cls := .type "list", data := .seq ([] : List Value).toArray }).objs.size = s.heap.objs.size + 1 := Heap.size_push ..
    exact Nat.lt_of_lt_of_le (by rw [h5]; exact Nat.lt_succ_self _) h4
  have hia : it ≠ a := Nat.ne_of_gt (Nat.lt_trans hlt hgt)
  have hiS : it ≠ s.heap.objs.size := Nat.ne_of_gt hgt
  refine wpAny_bind (wpAny_holding ?_)
  refine hint_set (SAt.typeIs (s := { s with heap := h', drawn := d }) (hSA1.keep fun o ho => k a o ho)) ?_
  refine wpAny_ite_split (fun _ => ?_) (fun hab => absurd (by decide +kernel) hab)
  refine wpAny_bind (wpAny_rule ?_)
  have hS₁ := k _ _ hS₀
  refine wpAny_bind ?_
  show wpAny _ A.in1 (updateSeq s.heap.objs.size (·.push .none) >>= fun _ => updateSeq s.heap.objs.size (·.pop)) _ _ _
  refine wpAny_bind (wpAny_updateSeq hS₁ rfl ?_)
  have hS₂ := Heap.get?_update_self (Obj.mapSeq (·.push Value.none)) hS₁ rfl
  refine wpAny_updateSeq (hz := by seq_fits) hS₂ rfl ?_
  have hS₃ := Heap.get?_update_self (Obj.mapSeq (·.pop)) hS₂ rfl
  have oth : ∀ b o, b ≠ s.heap.objs.size → h'.get? b = some o → ((h'.update s.heap.objs.size (Obj.mapSeq (·.push Value.none))).update s.heap.objs.size (Obj.mapSeq (·.pop))).get? b = some o :=
    fun b o hb e => (Heap.get?_update_other _ _ (Ne.symm hb)).trans ((Heap.get?_update_other _ _ (Ne.symm hb)).trans e)
  have hus : us.length = es.size := by rw [hperm.length_eq]; simp
  have hall : ∀ v ∈ us, ∃ n tk, v = Value.int n tk := fun v hv => by
    obtain ⟨e, hm, rfl⟩ := List.mem_map.mp (hperm.mem_iff.mp hv)
    obtain ⟨n, tk, rfl⟩ := he e hm
    exact ⟨n, tk, rfl⟩
  have allInts : ∀ l : List Value, (∀ v ∈ l, ∃ n tk, v = Value.int n tk) → IntsAre l (l.map keyI) := by
    intro l
    induction l with
    | nil => intro _; exact .nil
    | cons v l ih =>
      intro hl'
      obtain ⟨n, tk, rfl⟩ := hl' v (List.mem_cons_self ..)
      exact .cons n tk (ih fun x hx => hl' x (List.mem_cons_of_mem _ hx))
  have hks : (us.map keyI).Perm ks := by
    refine (hperm.map keyI).trans ?_
    rw [List.map_map]
    exact hp
  refine wpAny_pure ⟨plainId_quiet F.plain_extend_loop _, extend_loopG (S := s.heap.objs.size) (n := us.length) (val := fun j v => us[j]? = some v)
    (CI := fun j s1 => SIt w s1.heap it a s.heap.objs.size us j ∧ s1.os = s.os ∧ s1.gens = s.gens ∧ ∀ b o, s.heap.get? b = some o → s1.heap.get? b = some o)
    (Post := fun s1 => s1.os = s.os ∧ s1.gens = s.gens ∧ ∀ b o, s.heap.get? b = some o → s1.heap.get? b = some o)
    (by omega) ?_ ?_ ?_ _ us.length 0 _ _ _ rfl (Nat.zero_le _) ?_ hS₃ (ItemsOf.nil _) fun s' acc' c' hpost hS' hacc => ?_⟩
  · rintro j s1 hj ⟨c1, c2, c3, c4⟩
    refine wpAny_pyNext_set_item (x := us[j]) c1 hia (List.getElem?_eq_getElem hj) fun h'' hit' sb => ?_
    exact ⟨⟨_, rfl, List.getElem?_eq_getElem hj⟩, ⟨hit', c2, c3, fun b o hbo => sb.extBut b o (fun q => by subst q; exact absurd (Heap.lt_size hbo) (Nat.not_lt_of_gt hgt)) (c4 b o hbo)⟩,
      fun o ho => sb.extBut _ o (Ne.symm hiS) ho⟩
  · rintro s1 ⟨c1, c2, c3, c4⟩
    refine wpAny_pyNext_set_end (show A.in1.in1.handled = none from hh) c1 (by simp) fun h'' sb => ?_
    exact ⟨rfl, ⟨c2, c3, fun b o hbo => sb b o (fun q => by subst q; exact absurd (Heap.lt_size hbo) (Nat.not_lt_of_gt hgt)) (c4 b o hbo)⟩, fun o ho => sb _ o (Ne.symm hiS) ho⟩
  · rintro j s1 tk h'' ⟨c1, c2, c3, c4⟩ kk _
    exact ⟨c1.keep kk, c2, c3, fun b o hbo => kk b o (Nat.ne_of_lt (Heap.lt_size hbo)) (c4 b o hbo)⟩
  · exact ⟨hit.keep oth, rfl, rfl, fun b o hbo => oth b o (Nat.ne_of_lt (Heap.lt_size hbo)) (k b o (kp1 b o hbo))⟩
  · show wpAny _ A (load s.heap.objs.size >>= _) _ _ s'
    refine wpAny_bind (wpAny_load hS' ?_)
    have eacc : acc'.toList = us := by
      refine List.ext_getElem (by rw [Array.length_toList, hacc.1]) fun i h1 h2 => ?_
      have h6 : us[i]? = some acc'[i] := hacc.2 i acc'[i] (Array.getElem?_eq_getElem (by simpa using h1))
      rw [List.getElem?_eq_getElem h2] at h6
      injection h6 with h6
      rw [h6]; simp
    refine wpAny_pure ?_
    rw [eacc]
    exact hQ s' us (us.map keyI) hks (allInts us hall) hpost.1 hpost.2.1 hpost.2.2 (Nat.le_of_lt (Heap.lt_size hS'))

theorem sorted_setI {a : Addr} {ks : List Int} {Q : Value → Shared → Prop} (hh : A.handled = none) (hS : SetI w s.heap a ks)
    (h : ∀ s' p ns' out ep, ns'.Perm ks → ns'.Pairwise (· ≤ ·) → IntsAre out ns' → s'.os = s.os → s'.gens = s.gens → (∀ b o, s.heap.get? b = some o → s'.heap.get? b = some o) → s.heap.objs.size ≤ p →
      s'.heap.get? p = some { cls := .type "list", data := .seq out.toArray ep } → Q (.ref p) s') :
    wpAny (model prog w) A (call (.builtin "sorted") [.ref a]) Q E s := by
  refine Calls.call_function_entry kind_sorted plain_sorted entry_sorted (args_sorted1 _) ?_
  unfold Builtin.«sorted»
  refine wpAny_bind (m := checkCount "sorted" 1 1 _) (wpAny_pure ?_)
  have hlt : ks.length < scanBound := let ⟨_, _, _, _, _, _, _, _, _, hb⟩ := hS; hb
  refine wpAny_bind (collect_setI (show A.in1.handled = none from hh) hS fun s1 us ks' hp hI e1 e2 k hle => ?_)
  have hul : us.length = ks'.length := hI.length
  have hL : us.length ≤ sizeLine := by rw [hul, hp.length_eq]; exact fits_of_scanBound hlt
  refine wpAny_bind (wpAny_newList ?_ (by first | exact hL | (show _ ≤ _; simpa using hL)))
  have hoL : (s1.heap.push (seqObj "list" us.toArray 0)).get? s1.heap.objs.size = some (seqObj "list" us.toArray 0) := Heap.get?_push_size _ rfl
  show wpAny _ _ _ _ _ { s1 with heap := s1.heap.push (seqObj "list" us.toArray 0) }
  refine wpAny_bind (wpAny_holding (wpAny_call_entry slot_list_sort ⟨_, hoL, rfl⟩ entry_list_sort (list_sort_treeAny hoL hI hL fun out ns' a1 a2 a3 => ⟨_, rfl, ?_⟩) (args_list_sort _)))
  have fin : Q (.ref s1.heap.objs.size) { s1 with heap := sortedHeap (s1.heap.push (seqObj "list" us.toArray 0)) s1.heap.objs.size us out } := by
    obtain ⟨ep, hat⟩ := sortedHeap_at (out := out) hoL
    refine h { s1 with heap := sortedHeap (s1.heap.push (seqObj "list" us.toArray 0)) s1.heap.objs.size us out } s1.heap.objs.size ns' out.toList ep (a2.trans hp) a3 a1 e1 e2 (fun b o hbo => ?_) hle ?_
    · have hb1 := Heap.lt_size (k b o hbo)
      have hb2 : b < (s1.heap.push (seqObj "list" us.toArray 0)).objs.size := by rw [Heap.size_push]; exact Nat.lt_succ_of_lt hb1
      have hold := sortedHeap_old (h := s1.heap.push (seqObj "list" us.toArray 0)) (a := s1.heap.objs.size) (b := b) (vs := us) (out := out) (Nat.ne_of_lt hb1) hb2
      exact hold.trans (Heap.get?_push_of_some _ (k b o hbo))
    · exact hat
  exact wpAny_pure ⟨_, rfl, fin⟩

end
end My

end
section
set_option linter.all false
set_option maxRecDepth 100000
namespace L2
open PySem PySem.Spec PyProof.Rows
open My (SetI)
/-- a set of ints: its members in some order -/
def SetX (w : World) (a : Addr) (ks : List Int) : HO := .ext fun h => SetI w h a ks
section
variable {X : Cx} {pins : List (Addr × Obj)} {σ : St} {H : Hp} {s : Shared}
theorem setX_ok {P : Program} {w : World} {h : Heap} {a : Addr} {ks : List Int} (x : SetI w h a ks) : ObjOk P w H h a (SetX w a ks) := ⟨x, x.there, fun h1 h2 y k => y.keep k⟩
def rSortedX (w : World) : List V → Hp → VK → Prop := fun vs H Q => ∃ (a : Addr) (ks : List Int), vs = [V.ref a] ∧ H a = some (SetX w a ks) ∧
  ∀ (ns' : List Int) (p : Addr), ns'.Perm ks → ns'.Pairwise (· ≤ ·) → H p = none → Q (.ref p) (upd H p (.lst (ns'.map V.int)))
end
section
variable {X : Cx}
theorem cr_sortedX (hc : X.calm = true) : CallR X (.builtin "sorted") (rSortedX X.w) := by
  intro pins s σ H vs us Q I r h
  obtain ⟨a, ks, rfl, hs, q⟩ := h
  obtain ⟨x, _, _⟩ := I.hok a _ hs
  rw [Vals.ref1 r]
  have hb : ks.length < scanBound := let ⟨_, _, _, _, _, _, _, _, _, hb⟩ := x; hb
  refine My.sorted_setI (I.ok.hd hc) x fun s' p ns' out ep h1 h2 h3 e1 e2 k hp hat => ?_
  have hlen : (ns'.map V.int).length ≤ sizeLine := by rw [List.length_map, h1.length_eq]; exact fits_of_scanBound hb
  have I1 : Inv X pins σ (upd H p (.lst (ns'.map V.int))) { s with heap := s'.heap, toks := s'.toks } := I.laid (t' := s'.toks) k hp ⟨hlen, out, ep, vals_of_ints h3, hat⟩
  refine ⟨.ref _, upd H p (.lst (ns'.map V.int)), ⟨I1.ok, e1.trans I.os, ?_, I1.base, I1.loc, I1.cell, I1.free, I1.freeC, I1.pin, I1.hok, I1.len⟩, rfl, q ns' _ h1 h2 (I.hok.fresh hp)⟩
  rw [e2]; exact I.bare
end
section
variable {prog : Program} {w : World} {A : Around} {R : Result → Shared → Prop} {s : Shared}
end
section
variable {prog : Program} {w : World} {A : Around} {R : Result → Shared → Prop} {s : Shared} {elt t0 i0 t1 i1 : Expr} {ifs0 ifs1 : List Expr} {scope : Scope} {pos : Pos} {it acc : Value} {env : Env}
end

section
variable {X : Cx}
end
end L2

end
section
set_option linter.all false
set_option maxRecDepth 100000
/-! zip of any number of tuples; the rows are kept under a name -/
namespace L2
open PySem PySem.Spec PyProof.Rows

/-- an iterator, the tuple that it walks, its items -/
structure Col where
  it : Addr
  at_ : Addr
  vs : List Value
abbrev IsZipN (h : Heap) (z TI TO : Addr) (f0 f1 : Value) : Prop :=
  h.get? z = some { cls := .type "zip", dict := none, data := .fields #[f0, f1, .bool false, .ref TI, .ref TO], slots := #[] }
def Col.On (c : Col) (k : Nat) (h : Heap) : Prop := h.IsTupleIter c.it c.at_ k ∧ h.IsTuple c.at_ c.vs.toArray ∧ c.at_ ≠ c.it
structure NApart (z TI TO : Addr) (cs : List Col) : Prop where
  nd : (cs.map (·.it)).Nodup
  col : ∀ c ∈ cs, ∀ d ∈ cs, c.at_ ≠ d.it
  TIz : TI ≠ z
  TITO : TI ≠ TO
  TOz : TO ≠ z
  its : ∀ c ∈ cs, c.it ≠ z ∧ c.it ≠ TO ∧ c.it ≠ TI
  ats : ∀ c ∈ cs, c.at_ ≠ z ∧ c.at_ ≠ TO
theorem Col.On.keep {c : Col} {k : Nat} {h h' : Heap} (x : c.On k h) (e : ∀ b o, b = c.it ∨ b = c.at_ → h.get? b = some o → h'.get? b = some o) : c.On k h' :=
  ⟨x.1.at fun o q => e _ o (.inl rfl) q, x.2.1.at fun o q => e _ o (.inr rfl) q, x.2.2⟩

section
variable {prog : Program} {w : World} {A : Around} {E : Value → Shared → Prop} {s : Shared} {z TI TO : Addr} {cs : List Col} {k : Nat}

/-- what a walk over the iterators keeps: those of pre have gone a step, those of post stand -/
structure Midway (ex : List Addr) (s0 : Shared) (k : Nat) (cs pre post : List Col) (s' : Shared) : Prop where
  eq : s' = { s0 with heap := s'.heap }
  all : cs = pre ++ post
  gone : ∀ c ∈ pre, c.On (k + 1) s'.heap
  stand : ∀ c ∈ post, c.On k s'.heap
  size : s'.heap.objs.size = s0.heap.objs.size
  kept : ∀ b o, b ∉ cs.map (·.it) → b ∉ ex → s0.heap.get? b = some o → s'.heap.get? b = some o
theorem Midway.step {ex : List Addr} {s0 s' : Shared} {pre post : List Col} {c : Col} {h' : Heap} (D : NApart z TI TO cs) (m : Midway ex s0 k cs pre (c :: post) s') (hc : c.On (k + 1) h') (sb : Heap.SameBut c.it s'.heap h') : Midway ex s0 k cs (pre ++ [c]) post { s' with heap := h' } := by
  have hin : c ∈ cs := by rw [m.all]; simp
  have hnd := D.nd
  rw [m.all, List.map_append, List.map_cons] at hnd
  obtain ⟨hnd1, hnd2, hnd3⟩ := List.nodup_append.mp hnd
  have other : ∀ d ∈ cs, d.it ≠ c.it → ∀ j, d.On j s'.heap → d.On j h' := fun d hd hne j hj => hj.keep fun b o hb e => sb.extBut b o (by
    rcases hb with q | q
    · rw [q]; exact hne
    · rw [q]; exact D.col d hd c hin) e
  refine ⟨?_, by rw [m.all]; simp, ?_, ?_, by show h'.objs.size = _; rw [sb.1]; exact m.size, fun b o hb hx e => sb.extBut b o (fun q => hb (by rw [q]; exact List.mem_map.mpr ⟨c, hin, rfl⟩)) (m.kept b o hb hx e)⟩
  · have := m.eq
    rw [this]
  · intro d hd
    rcases List.mem_append.mp hd with q | q
    · refine other d (by rw [m.all]; exact List.mem_append_left _ q) ?_ _ (m.gone d q)
      exact hnd3 d.it (List.mem_map.mpr ⟨d, q, rfl⟩) c.it (List.mem_cons_self ..)
    · rw [List.mem_singleton.mp q]; exact hc
  · intro d hd
    refine other d (by rw [m.all]; exact List.mem_append_right _ (List.mem_cons_of_mem _ hd)) ?_ _ (m.stand d (List.mem_cons_of_mem _ hd))
    intro q
    have := (List.nodup_cons.mp hnd2).1
    exact this (by rw [← q]; exact List.mem_map.mpr ⟨d, hd, rfl⟩)

theorem Midway.write {s0 s' : Shared} {pre post : List Col} {h' : Heap} (D : NApart z TI TO cs) (m : Midway [TO] s0 k cs pre post s') (sb : Heap.SameBut TO s'.heap h') : Midway [TO] s0 k cs pre post { s' with heap := h' } := by
  have other : ∀ d ∈ cs, ∀ j, d.On j s'.heap → d.On j h' := fun d hd j hj => hj.keep fun b o hb e => sb.extBut b o (by
    rcases hb with q | q
    · rw [q]; exact (D.its d hd).2.1
    · rw [q]; exact (D.ats d hd).2) e
  refine ⟨?_, m.all, fun d hd => other d (by rw [m.all]; exact List.mem_append_left _ hd) _ (m.gone d hd), fun d hd => other d (by rw [m.all]; exact List.mem_append_right _ hd) _ (m.stand d hd), by show h'.objs.size = _; rw [sb.1]; exact m.size,
    fun b o hb hx e => sb.extBut b o (fun q => hx (by rw [q]; exact List.mem_singleton.mpr rfl)) (m.kept b o hb hx e)⟩
  have := m.eq
  rw [this]

end
end L2

end
section
set_option linter.all false
set_option maxRecDepth 100000
namespace L2
open PySem PySem.Spec PyProof.Rows
section
variable {X : Cx} {pins : List (Addr × Obj)} {σ : St} {H : Hp} {s : Shared}
end
end L2

end
section
set_option linter.all false
set_option maxRecDepth 100000
namespace L2
open PySem PySem.Spec PyProof.Rows
section
variable {prog : Program} {w : World} {A : Around} {E : Value → Shared → Prop} {s : Shared}
end
/-- a source inside a block: its reading may not name the block -/
theorem pi_tupK {X : Cx} {K : PySem.W.Frag} (hK : X.K = K) {tg l : Expr} {tl : TE} (hl : PE X l tl) : PI X tg l (iTup K tl) := by subst hK; exact pi_tup hl
theorem pi_listK {X : Cx} {K : PySem.W.Frag} (hK : X.K = K) {tg l : Expr} {tl : TE} (hl : PE X l tl) : PI X tg l (iList K tl) := by subst hK; exact pi_list hl
end L2

end
section
set_option linter.all false
set_option maxRecDepth 100000
namespace L2
open PySem PySem.Spec PyProof.Rows
section
variable {prog : Program} {w : World} {A : Around} {E : Value → Shared → Prop} {s : Shared} {l : Addr} {xs : Array (Int × Tok)}
end
section
variable {prog : Program} {w : World} {A : Around} {E : Value → Shared → Prop} {s : Shared} {l : Addr} {its : List Value} {ns : List Int} {Q : Value → Shared → Prop}
end
/-- a list or a tuple -/
def Sq2 (K : PySem.W.Frag) (H : Hp) (a : Addr) (xs : List V) : Prop := SqL K H a xs ∨ SqT K H a xs
section
variable {X : Cx}
theorem room64 {k : Nat} {A : Around} (hr : Room k A) : A.units + 64 < cLine := by have := hr.un; omega
end
end L2

end
section
set_option linter.all false
set_option maxRecDepth 100000
namespace L2
open PySem PySem.Spec PyProof.Rows
section
variable {prog : Program} {w : World} {A : Around} {E : Value → Shared → Prop} {s : Shared}
/-- some tuples' iterators, made one behind the other -/
structure Made (s0 : Shared) (as : List Addr) (s' : Shared) : Prop where
  eq : s' = { s0 with heap := s'.heap }
  size : s'.heap.objs.size = s0.heap.objs.size + as.length
  its : ∀ (j : Nat) (a : Addr), as[j]? = some a → s'.heap.IsTupleIter (s0.heap.objs.size + j) a 0
  kept : ∀ b o, s0.heap.get? b = some o → s'.heap.get? b = some o
theorem Made.step {s0 s' : Shared} {as : List Addr} {a : Addr} (m : Made s0 as s') :
    Made s0 (as ++ [a]) { s' with heap := s'.heap.push { cls := .type "tuple_iterator", data := .fields #[.ref a, .int 0 0] } } := by
  refine ⟨?_, ?_, ?_, fun b o e => Heap.get?_push_of_some _ (m.kept b o e)⟩
  · have := m.eq
    rw [this]
  · show (s'.heap.push _).objs.size = _
    rw [Heap.size_push, m.size, List.length_append]; rfl
  · intro j b e
    rw [List.getElem?_append] at e
    by_cases h : j < as.length
    · rw [if_pos h] at e
      obtain ⟨o, e1, e2⟩ := m.its j b e
      exact ⟨o, Heap.get?_push_of_some _ e1, e2⟩
    · rw [if_neg h] at e
      have hj : j = as.length := by
        by_cases h2 : j - as.length = 0
        · omega
        · rw [List.getElem?_eq_none (by simp; omega)] at e; cases e
      subst hj
      rw [Nat.sub_self] at e
      have e : a = b := by simpa using e
      subst e
      rw [← m.size]
      exact ⟨_, Heap.get?_push_size _ rfl, rfl, rfl⟩
end
end L2

end
section
set_option linter.all false
set_option maxRecDepth 100000
/-! a walk over a list or a tuple alike -/
namespace L2
open PySem PySem.Spec PyProof.Rows
theorem Ext.sq2 {K : PySem.W.Frag} {H H' : Hp} {a : Addr} {xs : List V} (x : Ext H H') (h : Sq2 K H a xs) : Sq2 K H' a xs := h.imp x.sqL x.sqT
end L2

end
section
set_option linter.all false
set_option maxRecDepth 100000
namespace My
open PySem PySem.Spec
/-- the members met so far -/
def metI (val : Nat → Int) : Nat → List Int
  | 0 => []
  | i + 1 => if val i ∈ metI val i then metI val i else val i :: metI val i
theorem metI_len (val : Nat → Int) : ∀ i, (metI val i).length ≤ i
  | 0 => Nat.le_refl _
  | i + 1 => by
    have ih := metI_len val i
    show (if val i ∈ metI val i then metI val i else val i :: metI val i).length ≤ _
    split
    · omega
    · rw [List.length_cons]; omega
theorem metI_mem (val : Nat → Int) (z : Int) : ∀ i, z ∈ metI val i ↔ ∃ j, j < i ∧ val j = z
  | 0 => ⟨fun h => absurd h List.not_mem_nil, fun ⟨j, h, _⟩ => absurd h (Nat.not_lt_zero _)⟩
  | i + 1 => by
    have ih := metI_mem val z i
    have e : z ∈ metI val (i + 1) ↔ z ∈ metI val i ∨ z = val i := by
      show z ∈ (if val i ∈ metI val i then metI val i else val i :: metI val i) ↔ _
      by_cases hm : val i ∈ metI val i
      · rw [if_pos hm]
        exact ⟨.inl, fun h => h.elim id fun h => h ▸ hm⟩
      · rw [if_neg hm, List.mem_cons]
        exact Or.comm
    rw [e, ih]
    constructor
    · rintro (⟨j, h, e⟩ | h)
      · exact ⟨j, by omega, e⟩
      · exact ⟨i, by omega, h.symm⟩
    · rintro ⟨j, h, e'⟩
      by_cases hj : j < i
      · exact .inl ⟨j, hj, e'⟩
      · have : j = i := by omega
        subst this
        exact .inr e'.symm
section
variable {prog : Program} {w : World} {A : Around} {R : Result → Shared → Prop} {I : Addr} {fp wr : List Addr} {G : Array GenState → Array GenState → Prop} {n : Nat} {P : Nat → Value → Prop} {St : Nat → Shared → Prop}
/-- a set takes what a walk gives -/
theorem updLoopI (W : WalksS prog w A.in1 I fp wr G n P St) (S : Addr) (hSf : S ∉ fp) (val : Nat → Int) (hval : ∀ i v, P i v → ∃ t, v = .int (val i) t) (hb : n + 1 < scanBound) :
    ∀ (k i : Nat) (s : Shared), n - i = k → i ≤ n → St i s → SetI w s.heap S (metI val i) → (∀ s', Moved (S :: wr) G s s' → SetI w s'.heap S (metI val n) → R (.ok (.ret .none)) s') →
      codeAny (model prog w) A (.builtin "set.update.loop" ⟨[.ref S, .ref I], []⟩) R s := by
  have hSw : S ∉ wr := fun h => hSf (W.sub _ h)
  have up : ∀ b ∈ wr, b ∈ S :: wr := fun b hb => List.mem_cons_of_mem _ hb
  intro k
  induction k with
  | zero =>
    intro i s hk hi hst hS hR
    obtain rfl : i = n := by omega
    refine codeAny_builtin PyProof.Rows.F.entry_set_update_loop ?_
    rw [Around.under_plainId PyProof.Rows.F.plain_set_update_loop _]
    show wpAny _ A.in1 (pyNext (.ref I) >>= _) _ _ s
    refine wpAny_bind (W.done s _ _ hst fun s' hm => ?_)
    show wpAny _ A.in1 (ret Value.none) _ _ s'
    exact wpAny_pure (hR s' (hm.mono up) (hS.keep fun o e => hm.heap S o hSw e))
  | succ k ih =>
    intro i s hk hi hst hS hR
    have hlt : i < n := by omega
    refine codeAny_builtin PyProof.Rows.F.entry_set_update_loop ?_
    rw [Around.under_plainId PyProof.Rows.F.plain_set_update_loop _]
    show wpAny _ A.in1 (pyNext (.ref I) >>= _) _ _ s
    refine wpAny_bind (W.item i s _ _ hlt hst fun v s' hP hst' hm => ?_)
    obtain ⟨t, rfl⟩ := hval i v hP
    have hS' : SetI w s'.heap S (metI val i) := hS.keep fun o e => hm.heap S o hSw e
    show wpAny _ A.in1 (holding [Value.int (val i) t] (setAdd S (.int (val i) t)) >>= _) _ _ s'
    refine wpAny_bind (wpAny_holding ?_)
    unfold setAdd
    refine wpAny_holding ?_
    have hkey : (intKind prog w).is (val i) (.int (val i) t) = true := by show Value.isInt (val i) (.int (val i) t) = true; simp [Value.isInt]
    refine wpAny_bind ((intKind prog w).pyHash hkey ?_)
    have hroom : (metI val i).length + 1 < scanBound := by have := metI_len val i; omega
    refine setAddHashedI (s := { s' with toks := s'.toks + 1 }) hS' hroom fun b h' hsb hS2 => ?_
    refine wpAny_pure ⟨plainId_quiet PyProof.Rows.F.plain_set_update_loop _, ih (i + 1) _ (by omega) hlt (W.frame _ s' _ _ hst' (Nat.le_succ _) fun b hb o e => ?_) hS2 fun s'' hm'' hS'' => ?_⟩
    · rw [hsb.2 b (fun h : b = S => hSf (by rw [← h]; exact hb))]; exact e
    · refine hR s'' (Moved.trans W.gtrans ((hm.mono up).then_heap (Nat.le_succ _) fun b o hb e => ?_) hm'') hS''
      rw [hsb.2 b (fun h : b = S => hb (by rw [h]; exact List.mem_cons_self))]; exact e
end
section
variable {prog : Program} {w : World} {A : Around} {E : Value → Shared → Prop} {s : Shared}
theorem newSetI2 {Q : Value → Shared → Prop} (h : ∀ h', (∀ b o, s.heap.get? b = some o → h'.get? b = some o) → h'.objs.size = s.heap.objs.size + 1 → (∃ led : Bool, h'.get? s.heap.objs.size = some { cls := .type "set", dict := none, data := .set #[] 0 (.fresh 0 0 led) }) → SetI w h' s.heap.objs.size [] → Q (.ref s.heap.objs.size) { s with heap := h' }) :
    wpAny (model prog w) A (newSet (.type "set")) Q E s := by
  unfold newSet
  refine wpAny_bind (wpAny_setsByText ?_)
  dsimp only
  simp only [newObj]
  refine wpAny_bind (wpAny_alloc (wpAny_pure (h _ (fun b o e => Heap.get?_push_of_some _ e) (Heap.size_push ..) ⟨_, Heap.get?_push_size _ rfl⟩ ?_)))
  refine ⟨#[], 0, _, ⟨_, Heap.get?_push_size _ rfl, ⟨rfl, rfl, rfl⟩, rfl, by rfl⟩, by simp [Ris, SetTable.fresh], ?_, fun e he => by simp at he, by simp, List.nodup_nil, by decide⟩
  cases w.params.followText "set-order" <;> simp [SetTable.fresh]
theorem codeNewI (a : Value) {Q₁ : Value → Shared → Prop} (h : ∀ h', (∀ b o, s.heap.get? b = some o → h'.get? b = some o) → h'.objs.size = s.heap.objs.size + 1 → (∃ led : Bool, h'.get? s.heap.objs.size = some { cls := .type "set", dict := none, data := .set #[] 0 (.fresh 0 0 led) }) → SetI w h' s.heap.objs.size [] → Q₁ (.ref s.heap.objs.size) { s with heap := h' }) :
    codeAny (model prog w) A (.call (.builtin "set.__new__") ⟨[.type "set", a], []⟩) (wants Q₁ E) s := by
  refine codeAny_of_tree ?_
  show wpAny _ A.in1 (do checkBuiltinCall "set.__new__" ⟨[.type "set", a], []⟩; again (.builtin "set.__new__" ⟨[.type "set", a], []⟩)) _ _ s
  refine wpAny_bind (wpAny_of_eq (F.newCall_set_1 a) (wpAny_pure ⟨plainId_quiet F.plain_set_new _, codeAny_builtin F.entry_set_new ?_⟩))
  rw [Around.under_plainId F.plain_set_new _]
  unfold Builtin.«set.__new__» Builtin.Frozenset.newClass
  have hsub := sub_set_self
  obtain ⟨hp, g, d, tk, os⟩ := s
  dsimp only
  generalize hN : newSet = N
  wp_walk
  subst hN
  refine newSetI2 fun h' k z l x => ?_
  exact wpAny_pure (h h' k z l x)
theorem sub_tuple_set : isSubtype (.type "tuple") (.type "set") = pure false := by rw [isSubtype_type]; kernel_rfl
theorem sub_tuple_frozenset : isSubtype (.type "tuple") (.type "frozenset") = pure false := by rw [isSubtype_type]; kernel_rfl
set_option maxHeartbeats 3200000 in
/-- set(a), a of a kind that is no set and no dict, whose walk gives ints -/
theorem call_setI {a : Addr} {T : String} {oa : Obj} {n : Nat} {val : Nat → Int} {Q : Value → Shared → Prop} (ha : s.heap.get? a = some oa) (hc : oa.cls = .type T) (hs1 : isSubtype (.type T) (.type "set") = pure false) (hs2 : isSubtype (.type T) (.type "frozenset") = pure false)
    (hnd : (Value.type T == Value.type "dict") = false) (hb : n + 1 < scanBound)
    (hit : ∀ (s1 : Shared) (Q1 : Value → Shared → Prop) (E1 : Value → Shared → Prop), (∀ b o, s.heap.get? b = some o → s1.heap.get? b = some o) → s1.heap.objs.size = s.heap.objs.size + 1 →
      (∀ (I : Addr) fp wr P St h2, Walks prog w A.in1.in1.in1 I fp wr n P St → St 0 h2 → s.heap.objs.size ∉ fp → (∀ i v, P i v → ∃ t, v = .int (val i) t) → (∀ b ∈ wr, s.heap.objs.size < b) → (∀ b o, s1.heap.get? b = some o → h2.get? b = some o) → Q1 (.ref I) { s1 with heap := h2 }) →
      wpAny (model prog w) A.in1.in1 (pyIter (.ref a)) Q1 E1 s1)
    (h : ∀ (h' : Heap) (tk : Nat), SetI w h' s.heap.objs.size (metI val n) → (∀ b o, s.heap.get? b = some o → h'.get? b = some o) → Q (.ref s.heap.objs.size) { s with heap := h', toks := tk }) :
    wpAny (model prog w) A (call (.type "set") [.ref a]) Q E s := by
  obtain ⟨c, tl, hmro⟩ := F.called_set.mro
  have hmade := F.called_set.made
  have hsub := F.called_set.sub
  refine wpAny_call (codeAny_of_tree ?_)
  show wpAny _ _ (callAny (.type "set") _) _ _ _
  refine wpAny_pure ⟨Code.quiet_builtin _ (by decide +kernel), codeAny_builtin F.entry_type_call ?_⟩
  rw [Around.under_plain (weight_type_call_type "set" [.ref a] []) rfl]
  have h1 := F.called_set.notType
  have h2 := F.called_set.canCreate
  have hct := F.typeCall_set_1 (.ref a)
  repeat (any_goals (first | assumption | wp_step))
  refine codeAny_mono (codeNewI (.ref a) (E := E) (Q₁ := fun obj s₁ => obj = .ref s.heap.objs.size ∧ ∃ h', s₁ = { s with heap := h' } ∧ (∀ b o, s.heap.get? b = some o → h'.get? b = some o) ∧ h'.objs.size = s.heap.objs.size + 1 ∧ (∃ led : Bool, h'.get? s.heap.objs.size = some { cls := .type "set", dict := none, data := .set #[] 0 (.fresh 0 0 led) }) ∧ SetI w h' s.heap.objs.size []) fun h' k z l x => ⟨rfl, h', rfl, k, z, l, x⟩) fun r s₁ hr => ?_
  cases r with
  | error e => exact hr
  | ok fl =>
    cases fl with
    | ret obj =>
      obtain ⟨rfl, h0, rfl, k0, z0, ⟨led, hS⟩, x0⟩ := hr
      have hT : Shared.TypeIs { s with heap := h0 } (.ref s.heap.objs.size) "set" := SetI.typeIs (s := { s with heap := h0 }) x0
      have hli := F.called_set.init.lookup
      have hbi := F.called_set.init.bind (.ref s.heap.objs.size)
      repeat (any_goals (first | assumption | wp_step))
      refine codeAny_mono (codeAny_call_builtin (R := wants (fun r s₂ => r = .none ∧ ∃ h' tk, s₂ = { s with heap := h', toks := tk } ∧ SetI w h' s.heap.objs.size (metI val n) ∧ (∀ b o, s.heap.get? b = some o → h'.get? b = some o)) E) F.called_set.init.plain F.entry_set_init (check_set_init_1 hT ?_)) fun r₂ s₂ hr₂ => ?_
      · have haT : Shared.TypeIs { s with heap := h0 } (.ref a) T := ⟨oa, k0 _ _ ha, hc⟩
        unfold Builtin.«set.__init__» noKeywords Builtin.Frozenset.updateFrom
        generalize hPI : pyIter = PI
        wp_walk
        subst hPI
        refine hit _ _ _ k0 z0 fun I fp wr P St h2 W st nf hv hwr k2 => ?_
        refine wpAny_bind (wpAny_runValue ?_)
        refine updLoopI W.toS s.heap.objs.size nf val hv hb (n - 0) 0 _ rfl (Nat.zero_le _) st (x0.keep fun o e => k2 _ _ e) fun s' hm hS' => ?_
        obtain ⟨h', g', d', tk', os'⟩ := s'
        have eg : g' = s.gens := hm.gens
        have ed : d' = s.drawn := hm.drawn
        have eo : os' = s.os := hm.os
        subst eg; subst ed; subst eo
        show wpAny _ _ _ _ _ _
        refine wpAny_pure ?_
        show wpAny _ _ (ret Value.none) _ _ _
        refine wpAny_pure ⟨rfl, h', tk', rfl, hS', fun b o e => ?_⟩
        have hlt := Heap.lt_size e
        refine hm.heap b o (fun hm' => ?_) (k2 _ _ (k0 _ _ e))
        rcases List.mem_cons.mp hm' with z | z
        · exact absurd hlt (by rw [z]; exact Nat.lt_irrefl _)
        · exact absurd (Nat.lt_trans hlt (hwr b z)) (Nat.lt_irrefl _)
      · cases r₂ with
        | error e => exact hr₂
        | ok fl₂ =>
          cases fl₂ with
          | ret r =>
            obtain ⟨rfl, h', tk, rfl, hS', hk'⟩ := hr₂
            repeat (any_goals (first | assumption | wp_step))
            exact h _ _ hS' hk'
          | _ => exact hr₂.elim
    | _ => exact hr.elim
theorem call_setI_list {l : Addr} {items : List Value} {ns : List Int} {Q : Value → Shared → Prop} (hh : A.handled = none) (hl : s.heap.IsList l items.toArray) (hi : PyProof.Rows.IntsAre items ns) (hb : ns.length + 1 < scanBound)
    (h : ∀ (h' : Heap) (tk : Nat), SetI w h' s.heap.objs.size (metI (fun i => ns.getD i 0) ns.length) → (∀ b o, s.heap.get? b = some o → h'.get? b = some o) → Q (.ref s.heap.objs.size) { s with heap := h', toks := tk }) :
    wpAny (model prog w) A (call (.type "set") [.ref l]) Q E s := by
  obtain ⟨oa, ha, hc, nn, hd⟩ := id hl
  have hlt : l < s.heap.objs.size := Heap.lt_size ha
  have len : items.toArray.size = ns.length := by rw [List.size_toArray]; exact hi.length
  refine call_setI ha hc F.sub_list_set F.sub_list_frozenset (by decide) hb (fun s1 Q1 E1 k1 z1 hQ => ?_) h
  have hl1 : s1.heap.IsList l items.toArray := ⟨oa, k1 _ _ ha, hc, nn, hd⟩
  have ne1 : l ≠ s1.heap.objs.size := by rw [z1]; exact Nat.ne_of_lt (Nat.lt_succ_of_lt hlt)
  refine wpAny_pyIter_list hl1 ?_
  have W := Walks.list (prog := prog) (w := w) (A := A.in1.in1.in1) (by simp [hh]) s1.heap.objs.size l ne1 items.toArray
  rw [len] at W
  refine hQ _ _ _ _ _ _ W ⟨⟨_, Heap.get?_push_size _ rfl, rfl, rfl⟩, hl1.push _⟩ ?_ (fun i v hv => PyProof.Rows.IntsAre.int_at hi i v (by simpa using hv)) ?_ fun b o e => Heap.get?_push_of_some _ e
  · rw [z1]
    simp only [List.mem_cons, List.not_mem_nil, or_false, not_or]
    exact ⟨Nat.ne_of_lt (Nat.lt_succ_self _), Nat.ne_of_gt hlt⟩
  · intro b hb'
    rw [List.mem_singleton.mp hb', z1]
    exact Nat.lt_succ_self _
theorem call_setI_tuple {l : Addr} {items : List Value} {ns : List Int} {Q : Value → Shared → Prop} (hh : A.handled = none) (hl : s.heap.IsTuple l items.toArray) (hi : PyProof.Rows.IntsAre items ns) (hb : ns.length + 1 < scanBound)
    (h : ∀ (h' : Heap) (tk : Nat), SetI w h' s.heap.objs.size (metI (fun i => ns.getD i 0) ns.length) → (∀ b o, s.heap.get? b = some o → h'.get? b = some o) → Q (.ref s.heap.objs.size) { s with heap := h', toks := tk }) :
    wpAny (model prog w) A (call (.type "set") [.ref l]) Q E s := by
  obtain ⟨oa, ha, hc, nn, hd⟩ := id hl
  have hlt : l < s.heap.objs.size := Heap.lt_size ha
  have len : items.toArray.size = ns.length := by rw [List.size_toArray]; exact hi.length
  refine call_setI ha hc sub_tuple_set sub_tuple_frozenset (by decide) hb (fun s1 Q1 E1 k1 z1 hQ => ?_) h
  have hl1 : s1.heap.IsTuple l items.toArray := ⟨oa, k1 _ _ ha, hc, nn, hd⟩
  have ne1 : l ≠ s1.heap.objs.size := by rw [z1]; exact Nat.ne_of_lt (Nat.lt_succ_of_lt hlt)
  refine wpAny_pyIter_tuple hl1 ?_
  have W := Walks.tuple (prog := prog) (w := w) (A := A.in1.in1.in1) (by simp [hh]) s1.heap.objs.size l ne1 items.toArray
  rw [len] at W
  refine hQ _ _ _ _ _ _ W ⟨⟨_, Heap.get?_push_size _ rfl, rfl, rfl⟩, hl1.push _⟩ ?_ (fun i v hv => PyProof.Rows.IntsAre.int_at hi i v (by simpa using hv)) ?_ fun b o e => Heap.get?_push_of_some _ e
  · rw [z1]
    simp only [List.mem_cons, List.not_mem_nil, or_false, not_or]
    exact ⟨Nat.ne_of_lt (Nat.lt_succ_self _), Nat.ne_of_gt hlt⟩
  · intro b hb'
    rw [List.mem_singleton.mp hb', z1]
    exact Nat.lt_succ_self _
end
end My
namespace L2
open PySem PySem.Spec PyProof.Rows
open My (SetI metI)
/-- set(x) of a list or tuple of ints -/
def rSetOf (K : PySem.W.Frag) (w : World) : List V → Hp → VK → Prop := fun vs H Q => ∃ (a : Addr) (ns : List Int), vs = [V.ref a] ∧ Sq2 K H a (ns.map V.int) ∧ ns.length + 1 < scanBound ∧
  ∀ (p : Addr) (ks : List Int), H p = none → ks.Nodup → (∀ z, z ∈ ks ↔ z ∈ ns) → ks.length ≤ ns.length → Q (.ref p) (upd H p (SetX w p ks))
section
variable {X : Cx}
theorem metI_list (ns : List Int) (z : Int) : z ∈ metI (fun i => ns.getD i 0) ns.length ↔ z ∈ ns := by
  rw [My.metI_mem]
  constructor
  · rintro ⟨j, hj, rfl⟩
    rw [List.getD_eq_getElem?_getD, List.getElem?_eq_getElem hj]
    exact List.getElem_mem hj
  · intro h
    obtain ⟨j, hj, rfl⟩ := List.mem_iff_getElem.mp h
    exact ⟨j, hj, by rw [List.getD_eq_getElem?_getD, List.getElem?_eq_getElem hj]; rfl⟩
theorem cr_setOf (hc : X.calm = true) : CallR X (.type "set") (rSetOf X.K X.w) := by
  intro pins s σ H vs us Q I r h
  obtain ⟨a, ns, rfl, hs, hb, q⟩ := h
  rw [Vals.ref1 r]
  have fin : ∀ (h' : Heap) (tk : Nat), SetI X.w h' s.heap.objs.size (metI (fun i => ns.getD i 0) ns.length) → (∀ b o, s.heap.get? b = some o → h'.get? b = some o) → EP X pins σ Q (.ref s.heap.objs.size) { s with heap := h', toks := tk } := fun h' tk x k => by
    have hn : (metI (fun i => ns.getD i 0) ns.length).Nodup := let ⟨_, _, _, _, _, _, _, _, hn, _⟩ := x; hn
    exact ⟨.ref _, upd H s.heap.objs.size (SetX X.w s.heap.objs.size _), I.laid (t' := tk) k (Nat.le_refl _) (setX_ok x), rfl, q _ _ (I.hok.fresh (Nat.le_refl _)) hn (metI_list ns) (My.metI_len _ _)⟩
  rcases hs with hs | hs
  · obtain ⟨its, rv, hl, _⟩ := I.list hs
    exact My.call_setI_list (I.ok.hd hc) hl.isList rv.ints hb fin
  · obtain ⟨its, rv, hl, _⟩ := I.tuple hs
    exact My.call_setI_tuple (I.ok.hd hc) hl rv.ints hb fin
end
end L2

end
section
set_option linter.all false
set_option maxRecDepth 100000
namespace L2
open PySem PySem.Spec PyProof.Rows
end L2
namespace L2
open PySem PySem.Spec PyProof.Rows
def IsRevT (h : Heap) (a l : Addr) (i : Int) : Prop := ∃ o, h.get? a = some o ∧ o.cls = .type "reversed" ∧ o.data = .fields #[.ref l, rawInt i]
theorem IsRevT.typeIs {s : Shared} {a l : Addr} {i : Int} (x : IsRevT s.heap a l i) : s.TypeIs (.ref a) "reversed" := let ⟨o, ho, hc, _⟩ := x; ⟨o, ho, hc⟩
section
variable {prog : Program} {w : World} {A : Around} {E : Value → Shared → Prop} {s : Shared}
end
end L2
namespace L2
open PySem PySem.Spec PyProof.Rows
section
variable {X : Cx} {tg : Expr}
end
end L2

end
section
set_option linter.all false
set_option maxRecDepth 100000
/-! tuple(range(n)) -/
namespace L2
open PySem PySem.Spec PyProof.Rows
section
variable {prog : Program} {w : World} {A : Around} {E : Value → Shared → Prop} {s : Shared}
end
section
variable {X : Cx}
end
end L2
namespace L2
open PySem PySem.Spec PyProof.Rows
section
variable {X : Cx}
def CDivW (i j : Int) : Prop := 0 < j ∧ j < 2 ^ 400
/-- // by a positive divisor, a great one too -/
theorem op_fdivW : OpR X (binaryOp .FloorDiv) (rI CDivW fun i j => .int (i / j)) := opI fun i j _ _ _ _ _ hc q => by
  have h1 : (0 : Int) < j := hc.1
  have h2 : j < 2 ^ 400 := hc.2
  have hl : j.natAbs.log2 < 9000 := by
    have h0 : j.natAbs ≠ 0 := by omega
    have : j.natAbs.log2 < 400 := (Nat.log2_lt h0).mpr (by omega)
    omega
  exact floordiv_int (by omega) (by rw [Int.fdiv_eq_ediv_of_nonneg i (by omega)]; exact q) (.inl (PyProof.noPylong_of_log2 hl))
end
end L2
namespace L2
open PySem PySem.Spec PyProof.Rows
end L2
namespace L2
open PySem PySem.Spec PyProof.Rows
end L2
namespace L2
open PySem PySem.Spec PyProof.Rows
/-- a statement that raises nothing, in a frame that may -/
theorem PS.nox {X : Cx} {st : Stmt} {t : TS} (h : PS X.nox st t) : PS X st t := ⟨fun pins s σ H D I hw =>
  wpAny_mono (h pins s σ H D (I.wish _) hw) (fun _ _ q => q.unwish) fun _ _ z => False.elim z⟩
end L2

end
section
set_option linter.all false
set_option maxRecDepth 100000
/-! zip(tuple, list), sum of a generator of any ints, enumerate(tuple) -/
namespace L2
open PySem PySem.Spec PyProof.Rows
section
variable {prog : Program} {w : World} {A : Around} {E : Value → Shared → Prop} {s : Shared}
end
end L2
namespace L2
open PySem PySem.Spec PyProof.Rows
section
variable {prog : Program} {w : World} {A : Around} {I : Addr} {n : Nat} {CI : Nat → Shared → Prop} {Post : Shared → Prop} {R : Result → Shared → Prop}
end
section
variable {X : Cx} {pins : List (Addr × Obj)} {σ : St} {H : Hp} {s : Shared}
end
/-! enumerate(tuple) -/
end L2

end
section
set_option linter.all false
set_option maxRecDepth 100000
/-! a set of small ints laid anew always finds its places; merging, | -/
namespace My
open PySem
/-- who stands where -/
def own (owner : Array (Option Nat)) (m : Nat) : List Nat := (List.range m).filterMap fun j => owner.getD j none
section
variable {prog : Program} {w : World} {A : Around} {E : Value → Shared → Prop} {s : Shared}
theorem SetI.flags {h : Heap} {a : Addr} {o : Obj} {es : Array (Int × Value)} {ep : Nat} {t t' : SetTable} {ks : List Int} (ho : h.get? a = some o) (hex : o.ExactSet) (hd : o.data = .set es ep t) (hf : t'.fits es.size = true) (hr : Ris t') (hl : w.params.followText "set-order" = true ∨ t'.led = true)
    (he : ∀ e ∈ es.toList, ∃ n tk, e = (hashInt n, .int n tk)) (hp : (es.toList.map fun e => keyI e.2).Perm ks) (hn : ks.Nodup) (hb : ks.length < scanBound) : SetI w (h.update a (Obj.putSet es t')) a ks := (storeI ho hex hd hf hr hl he hp hn hb).2
end
end My
namespace L2
open PySem PySem.Spec PyProof.Rows
open My (SetI)
end L2

end
section
set_option linter.all false
set_option maxRecDepth 100000
/-! list(zip(tuple, tuple)) -/
namespace L2
open PySem PySem.Spec PyProof.Rows
section
variable {prog : Program} {w : World} {A : Around} {R : Result → Shared → Prop}
end
end L2
namespace L2
open PySem PySem.Spec PyProof.Rows
end L2

end
section
set_option linter.all false
set_option maxRecDepth 100000
namespace My
open PySem PySem.Spec PyProof.Rows L2

section
variable {prog : Program} {w : World} {A : Around} {E : Value → Shared → Prop} {s : Shared}

end

section
variable {X : Cx}
end
end My

end
section
set_option linter.all false
set_option maxRecDepth 100000
namespace L2
open PySem PySem.Spec PyProof.Rows
theorem call_tuple_ofK {X : Cx} {K : PySem.W.Frag} (h : X.K = K) : CallR X (.type "tuple") (fun xs H Q => ∃ p ys, xs = [.ref p] ∧ ((SqL K H p ys ∧ ∀ l, H l = none → Q (.ref l) (upd H l (.tup ys))) ∨ (SqT K H p ys ∧ Q (.ref p) H))) := by subst h; exact call_tuple_of
section
variable {K : PySem.W.Frag} {a : Addr} {xs : List V} {B : (Hp → Prop) → V → Hp → Prop} {Qd : Hp → Prop} {H0 : Hp}
end
theorem SqT.updL {K : PySem.W.Frag} {H : Hp} {a D : Addr} {xs zs ys : List V} (h : SqT K H a xs) (hD : H D = some (.lst zs)) : SqT K (upd H D (.lst ys)) a xs := by
  rcases h with (h | ⟨o, h⟩) | h
  · exact .inl (.inl (by rw [upd_ne (ne_of h hD (by intro z; cases z))]; exact h))
  · exact .inl (.inr ⟨o, by rw [upd_ne (ne_of h hD (by intro z; cases z))]; exact h⟩)
  · exact .inr h
theorem IT.updL {K : PySem.W.Frag} {H : Hp} {D : Addr} {v : V} {ns : List Int} {zs ys : List V} (h : IT K H v ns) (hD : H D = some (.lst zs)) : IT K (upd H D (.lst ys)) v ns := let ⟨a, e, q⟩ := h; ⟨a, e, SqT.updL q hD⟩
theorem PtT.updL {K : PySem.W.Frag} {H : Hp} {D : Addr} {v : V} {p : List Int × List Int} {zs ys : List V} (h : PtT K H v p) (hD : H D = some (.lst zs)) : PtT K (upd H D (.lst ys)) v p := let ⟨a, y, z, e, q, h1, h2⟩ := h; ⟨a, y, z, e, SqT.updL q hD, IT.updL h1 hD, IT.updL h2 hD⟩
theorem ShT.updL {K : PySem.W.Frag} {H : Hp} {D : Addr} {v : V} {s : List Int × List (List Int × List Int)} {zs ys : List V} (h : ShT K H v s) (hD : H D = some (.lst zs)) : ShT K (upd H D (.lst ys)) v s := let ⟨a, x, b, us, e, q, h1, h2, h3⟩ := h; ⟨a, x, b, us, e, SqT.updL q hD, IT.updL h1 hD, SqT.updL h2 hD, Paired.mapP h3 fun _ _ r => PtT.updL r hD⟩
theorem Paired.app {α β : Type} {R : α → β → Prop} : ∀ {l l' : List α} {r r' : List β}, Paired R l r → Paired R l' r' → Paired R (l ++ l') (r ++ r')
  | _, _, _, _, .nil, h => h
  | _, _, _, _, .cons x t, h => .cons x (Paired.app t h)
theorem Paired.at {α β : Type} {R : α → β → Prop} : ∀ {l : List α} {r : List β} {i : Nat} {a : α}, Paired R l r → l[i]? = some a → ∃ b, r[i]? = some b ∧ R a b
  | _, _, _, _, .nil, h => by simp at h
  | _, _, 0, _, .cons x _, h => by
    simp only [List.getElem?_cons_zero, Option.some.injEq] at h
    subst h
    exact ⟨_, rfl, x⟩
  | _, _, i + 1, _, .cons _ t, h => by
    obtain ⟨b, hb, r⟩ := Paired.at (i := i) t (by simpa using h)
    exact ⟨b, by simpa using hb, r⟩
theorem Paired.snoc {α β : Type} {R : α → β → Prop} : ∀ {l : List α} {r : List β} {a : α} {b : β}, Paired R l r → R a b → Paired R (l ++ [a]) (r ++ [b])
  | _, _, _, _, .nil, h => .cons h .nil
  | _, _, _, _, .cons x t, h => .cons x (Paired.snoc t h)
theorem Ext_keepJ {H H2 H3 : Hp} {j : Addr} (x : Ext H H2) (nj : H j = none) (k : Keep j H2 H3) : Ext H H3 := fun b o e => k b o (x b o e) fun z => by rw [z, nj] at e; cases e
/-- what stood ahead is not what was new -/
theorem ext_new {H H' : Hp} {D : Addr} {o : HO} (x : Ext H H') (n : H D = none) : Ext H (upd H' D o) := fun b u e => by
  have nb : b ≠ D := fun q => by rw [q, n] at e; cases e
  rw [upd_ne nb]; exact x b u e
theorem none_back {H H' : Hp} {a : Addr} (x : Ext H H') (n : H' a = none) : H a = none := by
  cases e : H a with
  | none => rfl
  | some o => rw [x a o e] at n; cases n
theorem inV_int (x : Int) (names : List Int) : inV (.int x) (names.map V.int) = decide (x ∈ names) := by
  unfold inV
  rw [List.any_map, Bool.eq_iff_iff, List.any_eq_true, decide_eq_true_iff]
  constructor
  · rintro ⟨y, hy, e⟩
    have e : (y == x) = true := e
    rw [← beq_iff_eq.mp e]; exact hy
  · intro h
    exact ⟨x, h, beq_iff_eq.mpr rfl⟩
theorem flat_intsW : ∀ ns : List Int, (ns.map V.int).all flatV = true
  | [] => rfl
  | n :: ns => by
    show (true && (ns.map V.int).all flatV) = true
    rw [flat_intsW ns]; rfl
end L2

end
section
set_option linter.all false
set_option maxRecDepth 100000
namespace My
open PySem PySem.Spec PyProof.Rows L2
section
variable {prog : Program} {w : World} {A : Around} {E : Value → Shared → Prop} {s : Shared}
/-- collect of a tuple, the heap no smaller -/
theorem collect_tupS {it : Addr} {o : Obj} {its : Array Value} {n : Nat} {Q : List Value → Shared → Prop} (ho : s.heap.get? it = some o) (hc : o.cls = .type "tuple") (hd : o.data = .seq its n) (hsz : its.size ≤ sizeLine)
    (hQ : ∀ h', (∀ b u, s.heap.get? b = some u → h'.get? b = some u) → s.heap.objs.size ≤ h'.objs.size → Q its.toList { s with heap := h' }) : wpAny (model prog w) A (collect (.ref it)) Q E s := by
  obtain ⟨p, hp⟩ : ∃ p, p = s.heap.objs.size := ⟨_, rfl⟩
  obtain ⟨g, hg⟩ : ∃ g : Heap, g = s.heap.push { cls := .type "list", data := .seq ([] : List Value).toArray } := ⟨_, rfl⟩
  have g0 : g.get? p = some { cls := .type "list", data := .seq #[] 0 } := by rw [hg, hp]; exact Heap.get?_push_size _ rfl
  have gk : ∀ b u, s.heap.get? b = some u → g.get? b = some u := fun b u e => by rw [hg]; exact Heap.get?_push_of_some _ e
  have g1 := Heap.get?_update_self (Obj.mapSeq (· ++ its)) g0 rfl
  have last : wpAny (model prog w) A (do match (← load p).data with
      | Data.seq xs _ => pure xs.toList
      | _ => unsupported "internal:collect") Q E { s with heap := g.update p (Obj.mapSeq (· ++ its)) } := by
    refine wpAny_bind (wpAny_load g1 (wpAny_pure ?_))
    show Q ((#[] : Array Value) ++ its).toList _
    rw [show ((#[] : Array Value) ++ its).toList = its.toList from by simp]
    refine hQ _ (fun b u e => ?_) ?_
    · rw [Heap.get?_update_other _ _ (by rw [hp]; exact Nat.ne_of_gt (Heap.lt_size e))]
      exact gk b u e
    · exact Nat.le_of_lt (hp ▸ Heap.lt_size g1)
  unfold collect
  refine wpAny_bind (wpAny_runValue (codeAny_builtin F.entry_proto_collect ?_))
  rw [Around.under_plainId F.plain_proto_collect _]
  show wpAny _ A.in1 (newList [] >>= fun l => again (.builtin "list.__iadd__" ⟨[l, .ref it], []⟩)) _ _ s
  refine wpAny_bind (wpAny_newObj_type ?_)
  refine wpAny_pure ⟨plainId_quiet F.plain_list_iadd _, codeAny_builtin F.entry_list_iadd ?_⟩
  rw [Around.under_plainId F.plain_list_iadd _, ← hp, ← hg]
  show wpAny _ A.in1 (Builtin.List.listExtendWith (.ref p) (.ref it) (.ref p)) _ _ { s with heap := g }
  refine wpAny_mono (wpAny_extend_seq (hsz := hsz) (A := A) (R := fun r s' => r = .ok (.ret (.ref p)) ∧ s' = { s with heap := g.update p (Obj.mapSeq (· ++ its)) }) (s := { s with heap := g }) _ it _ 0 (.inr rfl) g0 (gk _ _ ho) hc hd ⟨rfl, rfl⟩) (fun fin s' h => ?_) fun e s' h => absurd h.1 (by simp)
  cases fin with
  | done f =>
    obtain ⟨h1, h2⟩ := h
    cases h1
    subst h2
    exact last
  | again c' =>
    refine ⟨h.1, codeAny_mono h.2 fun r s2 hr => ?_⟩
    obtain ⟨h1, h2⟩ := hr
    subst h1 h2
    exact last
theorem sorted_tupI {a : Addr} {o : Obj} {vs : List Value} {ks : List Int} {n : Nat} {Q : Value → Shared → Prop} (ho : s.heap.get? a = some o) (hc : o.cls = .type "tuple") (hd : o.data = .seq vs.toArray n) (hz : vs.length ≤ sizeLine) (hI : IntsAre vs ks)
    (h : ∀ s' p ns' out ep, ns'.Perm ks → ns'.Pairwise (· ≤ ·) → IntsAre out ns' → s'.os = s.os → s'.gens = s.gens → (∀ b o, s.heap.get? b = some o → s'.heap.get? b = some o) → s.heap.objs.size ≤ p →
      s'.heap.get? p = some { cls := .type "list", data := .seq out.toArray ep } → Q (.ref p) s') :
    wpAny (model prog w) A (call (.builtin "sorted") [.ref a]) Q E s := by
  refine Calls.call_function_entry kind_sorted plain_sorted entry_sorted (args_sorted1 _) ?_
  unfold Builtin.«sorted»
  refine wpAny_bind (m := checkCount "sorted" 1 1 _) (wpAny_pure ?_)
  refine wpAny_bind (collect_tupS ho hc hd (by simpa using hz) fun h1 k hle => ?_)
  show wpAny _ _ _ _ _ _
  generalize hs1 : ({ s with heap := h1 } : Shared) = s1
  have e1 : s1.os = s.os := by rw [← hs1]
  have e2 : s1.gens = s.gens := by rw [← hs1]
  have k : ∀ b o, s.heap.get? b = some o → s1.heap.get? b = some o := by rw [← hs1]; exact k
  have hle : s.heap.objs.size ≤ s1.heap.objs.size := by rw [← hs1]; exact hle
  rw [show vs.toArray.toList = vs from by simp]
  generalize vs = us at *
  have hul : us.length = ks.length := hI.length
  have hL : us.length ≤ sizeLine := hz
  refine wpAny_bind (wpAny_newList ?_ (by first | exact hL | (show _ ≤ _; simpa using hL)))
  have hoL : (s1.heap.push (seqObj "list" us.toArray 0)).get? s1.heap.objs.size = some (seqObj "list" us.toArray 0) := Heap.get?_push_size _ rfl
  show wpAny _ _ _ _ _ { s1 with heap := s1.heap.push (seqObj "list" us.toArray 0) }
  refine wpAny_bind (wpAny_holding (wpAny_call_entry slot_list_sort ⟨_, hoL, rfl⟩ entry_list_sort (list_sort_treeAny hoL hI hL fun out ns' a1 a2 a3 => ⟨_, rfl, ?_⟩) (args_list_sort _)))
  have fin : Q (.ref s1.heap.objs.size) { s1 with heap := sortedHeap (s1.heap.push (seqObj "list" us.toArray 0)) s1.heap.objs.size us out } := by
    obtain ⟨ep, hat⟩ := sortedHeap_at (out := out) hoL
    refine h { s1 with heap := sortedHeap (s1.heap.push (seqObj "list" us.toArray 0)) s1.heap.objs.size us out } s1.heap.objs.size ns' out.toList ep a2 a3 a1 e1 e2 (fun b o hbo => ?_) hle ?_
    · have hb1 := Heap.lt_size (k b o hbo)
      have hb2 : b < (s1.heap.push (seqObj "list" us.toArray 0)).objs.size := by rw [Heap.size_push]; exact Nat.lt_succ_of_lt hb1
      have hold := sortedHeap_old (h := s1.heap.push (seqObj "list" us.toArray 0)) (a := s1.heap.objs.size) (b := b) (vs := us) (out := out) (Nat.ne_of_lt hb1) hb2
      exact hold.trans (Heap.get?_push_of_some _ (k b o hbo))
    · exact hat
  exact wpAny_pure ⟨_, rfl, fin⟩
end
end My
namespace L2
open PySem PySem.Spec PyProof.Rows
/-- sorted of a list or a tuple of ints -/
def rSorted2 (K : PySem.W.Frag) : List V → Hp → VK → Prop := fun vs H Q => ∃ (a : Addr) (ns : List Int), vs = [V.ref a] ∧ (SqL K H a (ns.map V.int) ∨ SqT K H a (ns.map V.int)) ∧ ns.length < 64 ∧
  ∀ (ns' : List Int) (p : Addr), ns'.Perm ns → ns'.Pairwise (· ≤ ·) → H p = none → Q (.ref p) (upd H p (.lst (ns'.map V.int)))
theorem cr_sorted2 {X : Cx} (hc : X.calm = true) : CallR X (.builtin "sorted") (rSorted2 X.K) := by
  intro pins s σ H vs us Q I r h
  obtain ⟨a, ns, rfl, hs, h64, q⟩ := h
  rcases hs with hs | hs
  · exact cr_sorted pins s σ H _ us Q I r ⟨a, ns, rfl, hs, h64, q⟩
  · obtain ⟨its, rv, ⟨o, ho, ht, n, hd⟩, hz⟩ := I.tuple hs
    rw [Vals.ref1 r]
    have hi := rv.ints
    have hz' : its.length ≤ sizeLine := by rw [hi.length]; exact small64 h64
    refine My.sorted_tupI ho ht hd hz' hi fun s' p ns' out ep h1 h2 h3 e1 e2 k hp hat => ?_
    have hlen : (ns'.map V.int).length ≤ sizeLine := by rw [List.length_map, h1.length_eq]; exact small64 h64
    have I1 : Inv X pins σ (upd H p (.lst (ns'.map V.int))) { s with heap := s'.heap, toks := s'.toks } := I.laid (t' := s'.toks) k hp ⟨hlen, out, ep, vals_of_ints h3, hat⟩
    refine ⟨.ref _, upd H p (.lst (ns'.map V.int)), ⟨I1.ok, e1.trans I.os, ?_, I1.base, I1.loc, I1.cell, I1.free, I1.freeC, I1.pin, I1.hok, I1.len⟩, rfl, q ns' _ h1 h2 (I.hok.fresh hp)⟩
    rw [e2]; exact I.bare
theorem cr_sorted2K {X : Cx} {K : PySem.W.Frag} (h : X.K = K) (hc : X.calm = true) : CallR X (.builtin "sorted") (rSorted2 K) := by subst h; exact cr_sorted2 hc
end L2

end
section
set_option linter.all false
set_option maxRecDepth 100000
namespace My
open PySem PySem.Spec PyProof.Rows L2
/-- list.extend of a list by a list or a tuple -/
theorem extend_by {l b : Addr} {o : Obj} {its its2 : Array Value} {n n2 : Nat} {T : String} (hT : T = "list" ∨ T = "tuple") (hlong : ¬ (!its.isEmpty && Builtin.List.listTooLong (its.size + its2.size)) = true) (hz : its.size + its2.size ≤ sizeLine) :
    Meets (Builtin.«list.extend» ⟨[.ref l, .ref b], []⟩) (fun _ R s => s.heap.get? l = some { cls := .type "list", dict := none, data := .seq its n, slots := #[] } ∧ s.heap.get? b = some o ∧ o.cls = .type T ∧ o.data = .seq its2 n2 ∧
      R (.ok (.ret Value.none)) { s with heap := s.heap.update l (Obj.mapSeq fun x => x ++ its2) }) :=
  .of_wp fun prog w A R s h => by
    obtain ⟨hl, hb, hc, hd, hR⟩ := h
    show wpAny _ A.in1 (Builtin.List.listExtendWith (.ref l) (.ref b) .none) _ _ s
    unfold Builtin.List.listExtendWith
    refine wpAny_bind (wpAny_typeOf ⟨o, hb, hc⟩ ?_)
    have same : (Builtin.List.listSameRef (.ref l) (.ref b) || Value.type T == Value.type "list" || Value.type T == Value.type "tuple") = true := by
      rcases hT with e | e <;> subst e <;> simp
    rw [if_pos same]
    refine wpAny_bind (wpAny_listItems hb hd (wpAny_bind (wpAny_listItems hl rfl ?_)))
    refine wpAny_ite_split (fun z => absurd z hlong) fun _ => ?_
    show wpAny _ A.in1 (updateSeq l (· ++ its2) >>= fun _ => ret Value.none) _ _ s
    refine wpAny_bind (wpAny_updateSeq (hz := by first | (simp; omega) | (show its.size ≤ _; omega)) hl rfl (wpAny_pure ⟨_, rfl, hR⟩))
end My
namespace L2
open PySem PySem.Spec PyProof.Rows
def rExtendG (K : PySem.W.Frag) : V → List V → Hp → VK → Prop := fun x vs H Q => ∃ l b xs zs, x = .ref l ∧ vs = [.ref b] ∧ H l = some (.lst xs) ∧ (SqL K H b zs ∨ SqT K H b zs) ∧ xs.length + zs.length ≤ sizeLine ∧ Q .non (upd H l (.lst (xs ++ zs)))
theorem mt_extendG {X : Cx} : MtM X "list.extend" (rExtendG X.K) := by
  intro pins s σ H x vs v us Q I rx rv h
  obtain ⟨l, b, xs, zs, rfl, rfl, hH, hB, hz, q⟩ := h
  cases rx
  obtain ⟨u, rfl, ru⟩ := rv.one
  cases ru
  obtain ⟨z, its, n, r, hl, e⟩ := I.lstM hH
  obtain ⟨o, its2, n2, T, r2, hT, ho, hc, hd⟩ : ∃ (o : Obj) (its2 : List Value) (n2 : Nat) (T : String), Vals zs its2 ∧ (T = "list" ∨ T = "tuple") ∧ s.heap.get? b = some o ∧ o.cls = .type T ∧ o.data = .seq its2.toArray n2 := by
    rcases hB with hB | hB
    · obtain ⟨its2, r2, ⟨o, n2, ho, hc, _, hd⟩, _⟩ := I.list hB
      exact ⟨o, its2, n2, "list", r2, .inl rfl, ho, hc, hd⟩
    · obtain ⟨its2, r2, ⟨o, ho, hc, n2, hd⟩, _⟩ := I.tuple hB
      exact ⟨o, its2, n2, "tuple", r2, .inr rfl, ho, hc, hd⟩
  have l1 := r.length
  have l2 := r2.length
  have hsz : its.toArray.size + its2.toArray.size ≤ sizeLine := by rw [List.size_toArray, List.size_toArray]; omega
  have hlong : ¬ (!its.toArray.isEmpty && Builtin.List.listTooLong (its.toArray.size + its2.toArray.size)) = true := by
    rw [notLongL hsz, Bool.and_false]
    exact Bool.false_ne_true
  refine call_meets F.slot_list_extend ⟨_, e, rfl⟩ F.entry_list_extend (F.args_list_extend_2 _ _) (My.extend_by (n := n) (n2 := n2) hT hlong hsz) ⟨e, ho, hc, hd, ?_⟩
  refine ⟨.non, _, I.lset (its' := its ++ its2) hH e (by simp) (r.append r2) ?_, rfl, q⟩
  rw [List.length_append]
  omega
end L2

end
section
set_option linter.all false
set_option maxRecDepth 100000
namespace L2
open PySem PySem.Spec PyProof.Rows
theorem pe_bmK {X : Cx} {o e : Expr} {es : List Expr} {to : TE} {t : TA} {name : Str} {apos cpos : Pos} {T id : String} {r : V → List V → Hp → VK → Prop} {K : PySem.W.Frag} (hK : X.K = K) (pa : PlainAttrs T) (slot : Slot T name id) (hty : typeOf (.builtin id) = pure (.type "method_descriptor")) (hm : MtR X id r) (ho : PE X o to) (ha : PA X (e :: es) t)
    (hbase : attributeBase o name X.env (eval o X.env) = eval o X.env := by rfl)
    (hfew : ((backTo cpos (starEach (e :: es) X.env)).all (fun x => !x.1) && (backToKw cpos (keywordEach [] X.env)).all (fun x => x.1.isSome)
      && decide ((e :: es).length + ([] : List Keyword).length + (if ([] : List Keyword).isEmpty then 0 else 1) < 30)) = true := by rfl)
    (hline : (apos.endLine == cpos.line) = true := by rfl) (hs : starEach (e :: es) X.env = (false, eval e X.env) :: starEach es X.env := by rfl) (hplain : (backTo cpos (starEach es X.env)).any (·.1) = false := by rfl) :
    PE X (.Call (.Attribute o name apos) (e :: es) [] cpos) (tBM K T r to t) := by subst hK; exact pe_bm pa slot hty hm ho ha hbase hfew hline hs hplain
end L2

end
section
set_option linter.all false
set_option maxRecDepth 100000
namespace L2
open PySem PySem.Spec PyProof.Rows PyProof.Rows.G
/-- tuples of ints, one ahead of another -/
def lexI : List Int → List Int → Bool
  | [], [] => false
  | [], _ :: _ => true
  | _ :: _, [] => false
  | x :: r, y :: t => decide (x < y) || (!decide (y < x) && lexI r t)
def keyL (ns : List Int) : List (Int ⊕ List Nat) := ns.map fun n => (Sum.inl n : Int ⊕ List Nat)
theorem lexI_key : ∀ (a b : List Int), lexLt itemOrd (keyL a) (keyL b) = lexI a b
  | [], [] => rfl
  | [], _ :: _ => rfl
  | _ :: _, [] => rfl
  | x :: r, y :: t => by
    show lexLt itemOrd ((Sum.inl x : Int ⊕ List Nat) :: keyL r) ((Sum.inl y : Int ⊕ List Nat) :: keyL t) = _
    rw [lex_cons, lexI_key r t]
    rfl
def noText : Nat → Bool := fun _ => false
theorem items_ints : ∀ {its : List Value} {ns : List Int} (i : Nat), IntsAre its ns → tupItems noText i its = some (keyL ns)
  | _, _, _, .nil => rfl
  | _, _, i, .cons n t r => by
    show (if false = true then none else (tupItems noText (i + 1) _).map (Sum.inl n :: ·)) = _
    rw [if_neg Bool.false_ne_true, items_ints (i + 1) r]
    rfl
def rSortedP (K : PySem.W.Frag) : List V → Hp → VK → Prop := fun vs H Q => ∃ (a : Addr) (bs : List Addr) (κ : Addr → List Int), vs = [V.ref a] ∧ SqL K H a (bs.map V.ref) ∧ (∀ b ∈ bs, SqT K H b ((κ b).map V.int)) ∧ (bs.length ≤ 1 ∨ ∀ b ∈ bs, κ b ≠ []) ∧
  ∀ (bs' : List Addr) (p : Addr), bs'.Perm bs → bs'.Pairwise (fun x y => lexI (κ y) (κ x) = false) → H p = none → Q (.ref p) (upd H p (.lst (bs'.map V.ref)))
theorem refs_back : ∀ {bs : List Addr} {us : List Value}, Vals (bs.map V.ref) us → us = bs.map Value.ref
  | [], _, r => by cases r; rfl
  | b :: bs, _, r => by
    cases r with
    | cons h t => rw [refs_back t]; cases h; rfl
theorem refs_vals : ∀ bs : List Addr, Vals (bs.map V.ref) (bs.map Value.ref)
  | [] => .nil
  | b :: bs => .cons rfl (refs_vals bs)
theorem perm_refs {us : List Value} {bs : List Addr} (h : us.Perm (bs.map Value.ref)) : ∃ bs' : List Addr, us = bs'.map Value.ref ∧ bs'.Perm bs := by
  have f : ∀ v ∈ us, ∃ b, v = Value.ref b := fun v hv => by
    obtain ⟨b, _, rfl⟩ := List.mem_map.mp (h.mem_iff.mp hv)
    exact ⟨b, rfl⟩
  obtain ⟨bs', rfl⟩ : ∃ bs' : List Addr, us = bs'.map Value.ref := by
    clear h
    induction us with
    | nil => exact ⟨[], rfl⟩
    | cons v us ih =>
      obtain ⟨b, rfl⟩ := f v (List.mem_cons_self ..)
      obtain ⟨bs', rfl⟩ := ih fun v hv => f v (List.mem_cons_of_mem _ hv)
      exact ⟨b :: bs', rfl⟩
  refine ⟨bs', rfl, ?_⟩
  have := h.map (fun v => match v with | Value.ref b => b | _ => 0)
  rw [List.map_map, List.map_map] at this
  have e : ∀ l : List Addr, l.map ((fun v => match v with | Value.ref b => b | _ => 0) ∘ Value.ref) = l := fun l => (List.map_congr_left fun b _ => rfl).trans (List.map_id l)
  rw [e, e] at this
  exact this
theorem mem_zip_same : ∀ {l : List Value} {p : Value × Value}, p ∈ l.zip l → p.1 = p.2
  | [], _, h => by simp at h
  | v :: l, p, h => by
    rw [List.zip_cons_cons] at h
    rcases List.mem_cons.mp h with e | h
    · rw [e]
    · exact mem_zip_same h
theorem tups_all {h : Heap} : ∀ {bs : List Addr}, (∀ b ∈ bs, ∃ f, TupOf h noText (.ref b) f) → ∃ fs, TupsOf h noText (bs.map Value.ref) fs
  | [], _ => ⟨[], .nil⟩
  | b :: bs, g => by
    obtain ⟨f, hf⟩ := g b (List.mem_cons_self ..)
    obtain ⟨fs, hfs⟩ := tups_all (bs := bs) fun b hb => g b (List.mem_cons_of_mem _ hb)
    exact ⟨f :: fs, .cons hf hfs⟩
theorem cr_sortedP {X : Cx} : CallR X (.builtin "sorted") (rSortedP X.K) := by
  intro pins s σ H vs us Q I r h
  obtain ⟨a, bs, κ, rfl, hs, hb, hne, q⟩ := h
  obtain ⟨its, rv, hl, hz⟩ := I.list hs
  rw [Vals.ref1 r]
  obtain rfl := refs_back rv
  have key : ∀ b ∈ bs, tupKeyC s.heap noText (.ref b) = some (keyL (κ b)) ∧ (κ b ≠ [] → ∃ f, TupOf s.heap noText (.ref b) f) := fun b hb' => by
    obtain ⟨ts, rt, ⟨o, ho, hc, n, hd⟩, _⟩ := I.tuple (hb b hb')
    have hi := rt.ints
    refine ⟨tupKeyC_of ho hc hd (items_ints 0 hi), fun hk => ?_⟩
    generalize κ b = ks at hi hk
    cases hi with
    | nil => exact absurd rfl hk
    | cons n' t' r' => exact ⟨_, b, o, _, n, rfl, ho, hc, hd, rfl, fun _ => ⟨n', t', rfl⟩, fun e => by cases e⟩
  have hk : ∀ v, v ∈ bs.map Value.ref → ∃ l, tupKeyC s.heap noText v = some l := fun v hv => by
    obtain ⟨b, hb', rfl⟩ := List.mem_map.mp hv
    exact ⟨_, (key b hb').1⟩
  have hlen : (bs.map Value.ref).length ≤ sizeLine := by rw [List.length_map]; rw [List.length_map] at hz; exact hz
  have fin : ∀ st' : SortSt, (arrOf st').Perm (pairsOf (bs.map Value.ref)) → SortedToK (tupKindC s.heap noText) (arrOf st') (pairsOf (bs.map Value.ref)).size → Stable (tupKindC s.heap noText) (arrOf st') (pairsOf (bs.map Value.ref)) →
      EP X pins σ Q (.ref (s.heap.objs.size + 1)) { s with heap := sortedAll s.heap (bs.map Value.ref) ((arrOf st').map (·.2)) } := fun st' hp ho _ => by
    generalize arrOf st' = ar at *
    have pl : ar.toList.Perm ((bs.map Value.ref).zip (bs.map Value.ref)) := by rw [← pairsOf_toList]; exact hp.toList
    have p2 : (ar.toList.map (·.2)).Perm (bs.map Value.ref) := by
      have := pl.map (·.2)
      rw [show ((bs.map Value.ref).zip (bs.map Value.ref)).map (·.2) = bs.map Value.ref from List.map_snd_zip (Nat.le_refl _)] at this
      exact this
    obtain ⟨bs', hbs', hperm⟩ : ∃ bs' : List Addr, ar.toList.map (·.2) = bs'.map Value.ref ∧ bs'.Perm bs := perm_refs p2
    have same : ∀ i (p : Value × Value), ar.toList[i]? = some p → p.1 = p.2 := fun i p hi => by
      have := pl.mem_iff.mp (List.mem_of_getElem? hi)
      exact mem_zip_same this
    obtain ⟨ep, he⟩ := sortedAll_at s.heap (bs.map Value.ref) (ar.map (·.2))
    have hlen' : (bs'.map V.ref).length ≤ sizeLine := by rw [List.length_map, hperm.length_eq]; rw [List.length_map] at hlen; exact hlen
    have eo : ar.map (·.2) = (bs'.map Value.ref).toArray := by
      apply Array.toList_inj.mp
      rw [Array.toList_map, hbs']
    rw [eo] at he ⊢
    refine ⟨.ref (s.heap.objs.size + 1), upd H (s.heap.objs.size + 1) (.lst (bs'.map V.ref)), I.laid (t' := s.toks) (fun _ _ => sortedAll_old) (Nat.le_succ _) ⟨hlen', bs'.map Value.ref, ep, refs_vals bs', he⟩, rfl, q bs' _ hperm ?_ (I.hok.fresh (Nat.le_succ _))⟩
    refine List.pairwise_iff_getElem.mpr fun i j hi hj hij => ?_
    have lar : ar.toList.length = bs'.length := by have := congrArg List.length hbs'; simpa using this
    have hsz : j < (pairsOf (bs.map Value.ref)).size := by rw [pairsOf_size, List.length_map, ← hperm.length_eq]; exact hj
    have hk2 := ho i j (Nat.le_of_lt hij) hsz
    have kk : ∀ i (hi : i < bs'.length), KK (tupKindC s.heap noText) ar i = keyL (κ bs'[i]) := fun i hi => by
      have hi2 : i < ar.toList.length := by omega
      have e1 : (ar.toList.map (·.2))[i]? = some (Value.ref bs'[i]) := by rw [hbs', List.getElem?_map, List.getElem?_eq_getElem hi]; rfl
      rw [List.getElem?_map, List.getElem?_eq_getElem hi2] at e1
      have e2 : ar.toList[i].2 = Value.ref bs'[i] := Option.some.inj e1
      have e3 := same i _ (List.getElem?_eq_getElem hi2)
      have e4 : ar[i]? = some ar.toList[i] := by rw [← Array.getElem?_toList]; exact List.getElem?_eq_getElem hi2
      unfold KK
      rw [e4]
      show ((tupKeyC s.heap noText ar.toList[i].1).getD _) = _
      rw [e3, e2, (key bs'[i] (hperm.mem_iff.mp (List.getElem_mem hi))).1]
      rfl
    rw [kk i hi, kk j hj] at hk2
    have hk2 : lexLt itemOrd (keyL (κ bs'[j])) (keyL (κ bs'[i])) = false := hk2
    rw [lexI_key] at hk2
    exact hk2
  rcases hne with h1 | hne
  · exact sortedG hl.isList (tupKeys hk) (fun s₂ k => tupC_ltAt (s := s₂) true k) (fun h2 => absurd h2 (by rw [List.length_map]; omega)) hlen fin
  · obtain ⟨fs, hfs⟩ : ∃ fs, TupsOf s.heap noText (bs.map Value.ref) fs := tups_all fun b hb' => (key b hb').2 (hne b hb')
    exact sorted_tups hl.isList hfs hk hlen fin
end L2

end
section
set_option linter.all false
set_option maxRecDepth 100000
namespace My
open PySem PySem.Spec PyProof.Rows PyProof.Rows.G L2
section
variable {prog : Program} {w : World} {A : Around} {E : Value → Shared → Prop} {s : Shared}
end
end My
namespace L2
open PySem PySem.Spec PyProof.Rows
end L2

end
section
set_option linter.all false
set_option maxRecDepth 100000
namespace L2
open PySem PySem.Spec PyProof.Rows
/-- ints whose product the model takes: one of them small, or their bits together within its line -/
def CMulB (i j : Int) : Prop := CMul i j ∨ ∃ m n : Nat, i.natAbs < 2 ^ m ∧ j.natAbs < 2 ^ n ∧ m + n ≤ 100000
theorem CMulB.ok {i j : Int} (h : CMulB i j) : IntMulOk i j := by
  rcases h with h | h
  · exact h.ok
  obtain ⟨m, n, h1, h2, h3⟩ := h
  exact .of_le (intBits_le_iff.mpr h1) (intBits_le_iff.mpr h2) (by omega)
variable {X : Cx}
end L2
namespace L2
open PySem PySem.Spec PyProof.Rows
variable {X : Cx}
end L2

end
section
set_option linter.all false
set_option maxRecDepth 100000
namespace L2
open PySem PySem.Spec PyProof.Rows
section
variable {X : Cx} {pins : List (Addr × Obj)} {σ : St} {H : Hp} {s : Shared} {a : Addr} {y v : V} {u r : Value} {A : Around} {E : Value → Shared → Prop}
end
section
variable {X : Cx}
end
end L2

end
section
set_option linter.all false
set_option maxRecDepth 100000
/-! zip of any number of tuples; the rows are kept under a name -/
namespace L2
open PySem PySem.Spec PyProof.Rows

/-- an iterator, the tuple that it walks, its items -/
structure ColG where
  it : Addr
  at_ : Addr
  vs : List Value
  ls : Bool
def ColG.St (c : ColG) (k : Nat) (h : Heap) : Prop := if c.ls = true then h.IsListIter c.it c.at_ k ∧ h.IsList c.at_ c.vs.toArray ∧ c.at_ ≠ c.it else h.IsTupleIter c.it c.at_ k ∧ h.IsTuple c.at_ c.vs.toArray ∧ c.at_ ≠ c.it
def ColG.On (c : ColG) (k : Nat) (h : Heap) : Prop := ColG.St c k h
structure GApart (z TI TO : Addr) (cs : List ColG) : Prop where
  nd : (cs.map (·.it)).Nodup
  col : ∀ c ∈ cs, ∀ d ∈ cs, c.at_ ≠ d.it
  TIz : TI ≠ z
  TITO : TI ≠ TO
  TOz : TO ≠ z
  its : ∀ c ∈ cs, c.it ≠ z ∧ c.it ≠ TO ∧ c.it ≠ TI
  ats : ∀ c ∈ cs, c.at_ ≠ z ∧ c.at_ ≠ TO
theorem ColG.On.keep {c : ColG} {k : Nat} {h h' : Heap} (x : c.On k h) (e : ∀ b o, b = c.it ∨ b = c.at_ → h.get? b = some o → h'.get? b = some o) : c.On k h' := by
  unfold ColG.On ColG.St at x ⊢
  by_cases b : c.ls = true
  · rw [if_pos b] at x ⊢
    exact ⟨x.1.at fun o q => e _ o (.inl rfl) q, x.2.1.at fun o q => e _ o (.inr rfl) q, x.2.2⟩
  · rw [if_neg b] at x ⊢
    exact ⟨x.1.at fun o q => e _ o (.inl rfl) q, x.2.1.at fun o q => e _ o (.inr rfl) q, x.2.2⟩

section
variable {prog : Program} {w : World} {A : Around} {E : Value → Shared → Prop} {s : Shared} {z TI TO : Addr} {cs : List ColG} {k : Nat}

/-- what a walk over the iterators keeps: those of pre have gone a step, those of post stand -/
structure MidG (ex : List Addr) (s0 : Shared) (k : Nat) (cs pre post : List ColG) (s' : Shared) : Prop where
  eq : s' = { s0 with heap := s'.heap }
  all : cs = pre ++ post
  gone : ∀ c ∈ pre, c.On (k + 1) s'.heap
  stand : ∀ c ∈ post, c.On k s'.heap
  size : s'.heap.objs.size = s0.heap.objs.size
  kept : ∀ b o, b ∉ cs.map (·.it) → b ∉ ex → s0.heap.get? b = some o → s'.heap.get? b = some o
theorem MidG.step {ex : List Addr} {s0 s' : Shared} {pre post : List ColG} {c : ColG} {h' : Heap} (D : GApart z TI TO cs) (m : MidG ex s0 k cs pre (c :: post) s') (hc : c.On (k + 1) h') (sb : Heap.SameBut c.it s'.heap h') : MidG ex s0 k cs (pre ++ [c]) post { s' with heap := h' } := by
  have hin : c ∈ cs := by rw [m.all]; simp
  have hnd := D.nd
  rw [m.all, List.map_append, List.map_cons] at hnd
  obtain ⟨hnd1, hnd2, hnd3⟩ := List.nodup_append.mp hnd
  have other : ∀ d ∈ cs, d.it ≠ c.it → ∀ j, d.On j s'.heap → d.On j h' := fun d hd hne j hj => hj.keep fun b o hb e => sb.extBut b o (by
    rcases hb with q | q
    · rw [q]; exact hne
    · rw [q]; exact D.col d hd c hin) e
  refine ⟨?_, by rw [m.all]; simp, ?_, ?_, by show h'.objs.size = _; rw [sb.1]; exact m.size, fun b o hb hx e => sb.extBut b o (fun q => hb (by rw [q]; exact List.mem_map.mpr ⟨c, hin, rfl⟩)) (m.kept b o hb hx e)⟩
  · have := m.eq
    rw [this]
  · intro d hd
    rcases List.mem_append.mp hd with q | q
    · refine other d (by rw [m.all]; exact List.mem_append_left _ q) ?_ _ (m.gone d q)
      exact hnd3 d.it (List.mem_map.mpr ⟨d, q, rfl⟩) c.it (List.mem_cons_self ..)
    · rw [List.mem_singleton.mp q]; exact hc
  · intro d hd
    refine other d (by rw [m.all]; exact List.mem_append_right _ (List.mem_cons_of_mem _ hd)) ?_ _ (m.stand d (List.mem_cons_of_mem _ hd))
    intro q
    have := (List.nodup_cons.mp hnd2).1
    exact this (by rw [← q]; exact List.mem_map.mpr ⟨d, hd, rfl⟩)

theorem MidG.write {s0 s' : Shared} {pre post : List ColG} {h' : Heap} (D : GApart z TI TO cs) (m : MidG [TO] s0 k cs pre post s') (sb : Heap.SameBut TO s'.heap h') : MidG [TO] s0 k cs pre post { s' with heap := h' } := by
  have other : ∀ d ∈ cs, ∀ j, d.On j s'.heap → d.On j h' := fun d hd j hj => hj.keep fun b o hb e => sb.extBut b o (by
    rcases hb with q | q
    · rw [q]; exact (D.its d hd).2.1
    · rw [q]; exact (D.ats d hd).2) e
  refine ⟨?_, m.all, fun d hd => other d (by rw [m.all]; exact List.mem_append_left _ hd) _ (m.gone d hd), fun d hd => other d (by rw [m.all]; exact List.mem_append_right _ hd) _ (m.stand d hd), by show h'.objs.size = _; rw [sb.1]; exact m.size,
    fun b o hb hx e => sb.extBut b o (fun q => hx (by rw [q]; exact List.mem_singleton.mpr rfl)) (m.kept b o hb hx e)⟩
  have := m.eq
  rw [this]

end
end L2

end
section
set_option linter.all false
set_option maxRecDepth 100000
/-! dict(zip(a, b)) -/
namespace L2
open PySem PySem.Spec PyProof.Rows
/-- the objects of a zip of a list and a tuple, at turn k -/
structure ZG (z TI TO i1 i2 a b : Addr) (k : Nat) (h : Heap) : Prop where
  zp : ∃ f0 f1, IsZipN h z TI TO f0 f1 ∧ (f0 = .none ∨ ∃ T0 : Addr, f0 = rawInt T0)
  ti : ∃ n, h.get? TI = some { cls := .type "tuple", data := .seq [Value.ref i1, Value.ref i2].toArray n }
  to : ∃ olds no, h.get? TO = some { cls := .type "tuple", data := .seq (olds : List Value).toArray no } ∧ olds.length = 2
  h1 : h.IsListIter i1 a k
  h2 : h.IsTupleIter i2 b k
theorem ZG.keep {z TI TO i1 i2 a b : Addr} {k : Nat} {h h' : Heap} (Z : ZG z TI TO i1 i2 a b k h) (e : ∀ c ∈ [z, TI, TO, i1, i2], ∀ o, h.get? c = some o → h'.get? c = some o) : ZG z TI TO i1 i2 a b k h' := by
  obtain ⟨⟨f0, f1, hz, hf⟩, ⟨n, ti⟩, ⟨olds, no, to, ho⟩, h1, h2⟩ := Z
  exact ⟨⟨f0, f1, e z (by simp) _ hz, hf⟩, ⟨n, e TI (by simp) _ ti⟩, ⟨olds, no, e TO (by simp) _ to, ho⟩, h1.at fun o q => e i1 (by simp) o q, h2.at fun o q => e i2 (by simp) o q⟩
theorem ZG.obj {z TI TO i1 i2 a b : Addr} {k : Nat} {h : Heap} (Z : ZG z TI TO i1 i2 a b k h) : ∀ c ∈ [z, TI, TO, i1, i2], ∃ o, h.get? c = some o ∧ ∀ v, o.data ≠ .cell v := by
  obtain ⟨⟨f0, f1, hz, hf⟩, ⟨n, ti⟩, ⟨olds, no, to, ho⟩, ⟨o1, e1, _, d1⟩, ⟨o2, e2, _, d2⟩⟩ := Z
  intro c hc
  have e' : c = z ∨ c = TI ∨ c = TO ∨ c = i1 ∨ c = i2 := by simpa using hc
  rcases e' with q | q | q | q | q
  · rw [q]; exact ⟨_, hz, fun v q => nomatch q⟩
  · rw [q]; exact ⟨_, ti, fun v q => nomatch q⟩
  · rw [q]; exact ⟨_, to, fun v q => nomatch q⟩
  · rw [q]; exact ⟨o1, e1, fun v q => by rw [d1] at q; cases q⟩
  · rw [q]; exact ⟨o2, e2, fun v q => by rw [d2] at q; cases q⟩
section
variable {X : Cx} {pins : List (Addr × Obj)} {σ : St} {A : Around} {R : Result → Shared → Prop}
end
end L2
namespace L2
open PySem PySem.Spec PyProof.Rows
end L2

end
section
set_option linter.all false
set_option maxRecDepth 100000
/-! Lambdas: made, held, called -/
namespace L2
open PySem PySem.Spec PyProof.Rows

/-- a function object, known whole -/
def LamO (f : Addr) (fo : Obj) : HO := .ext fun h => h.get? f = some fo
/-- a cell of a caller, known whole: it holds v -/
def CellH (H : Hp) (c : Addr) (v : V) : Prop := ∃ (o : Obj) (u : Value), H c = some (.frz o (LamO c o)) ∧ o.data = .cell (some u) ∧ RelV v u
theorem CellH.ext {H H' : Hp} {c : Addr} {v : V} (x : Ext H H') : CellH H c v → CellH H' c v := fun ⟨o, u, e, d, r⟩ => ⟨o, u, x _ _ e, d, r⟩
theorem CellH.is {P : Program} {w : World} {H : Hp} {h : Heap} {c : Addr} {v : V} (ok : HOk P w H h) (x : CellH H c v) : ∃ u, h.IsCell c (some u) ∧ RelV v u := by
  obtain ⟨o, u, e, d, r⟩ := x
  obtain ⟨g, _⟩ := (show ObjOk P w H h c (.frz o (LamO c o)) from ok c _ e)
  exact ⟨u, ⟨o, g, d⟩, r⟩

/-! ### some cells are let go, then taken back -/
def dropH (cs : List Addr) (H : Hp) : Hp := fun b => if b ∈ cs then none else H b
theorem dropH_in {cs : List Addr} {H : Hp} {b : Addr} (h : b ∈ cs) : dropH cs H b = none := if_pos h
theorem dropH_out {cs : List Addr} {H : Hp} {b : Addr} (h : b ∉ cs) : dropH cs H b = H b := if_neg h
theorem dropH_some {cs : List Addr} {H : Hp} {b : Addr} {o : HO} (h : dropH cs H b = some o) : b ∉ cs ∧ H b = some o := by
  by_cases c : b ∈ cs
  · rw [dropH_in c] at h; cases h
  · rw [dropH_out c] at h; exact ⟨c, h⟩
/-- each of the cells is known -/
def Known (cs : List Addr) (H : Hp) : Prop := ∀ c ∈ cs, ∃ o, H c = some (.frz o (LamO c o))
section
variable {P : Program} {w : World} {H H' : Hp} {h h' : Heap} {cs : List Addr} {fs : List Addr}
theorem HOk.drop (ok : HOk P w H h) (kn : Known cs H) : HOk P w (dropH cs H) h := fun b o e => by
  obtain ⟨hb, e⟩ := dropH_some e
  have out : ∀ c u, H c = some u → (∀ o v, u ≠ .frz o v) → dropH cs H c = some u := fun c u e1 ne => by
    rw [dropH_out fun hm => by obtain ⟨o', e2⟩ := kn c hm; rw [e1] at e2; cases e2; exact ne _ _ rfl]
    exact e1
  exact (ok b o e).stay (fun _ _ _ q => q) (fun c q => out c _ q (fun _ _ z => nomatch z)) (fun c xs q => out c _ q (fun _ _ z => nomatch z)) (fun c q0 q => out c _ q (fun _ _ z => nomatch z))
end

/-! ### what a held function promises -/
structure LamOk (P : Program) (w : World) (K : PySem.W.Frag) (mg : Str → Option Value) (base : Heap) (k : Nat) (f : Addr) (F : Hp → Prop) (sp : Sp) : Prop where
  there : ∀ H, F H → ∃ oc od fd sl, H f = some (LamO f ⟨oc, od, .func fd, sl⟩)
  ext : ∀ H H', Ext H H' → F H → F H'
  run : ∀ (A : Around) (outer : List Env) (s : Shared) (H : Hp) (us : List Value) (vs : List V) (Q : VK), Room k A → Env0 P w K mg base A outer s H → F H → Vals vs us → sp vs H Q (fun _ _ _ => False) →
    codeAny (model P w) A (.call (.ref f) ⟨us, []⟩) (CR CX0 outer P w H s Q (fun _ _ _ => False)) s
theorem LamOk.mono {P : Program} {w : World} {K : PySem.W.Frag} {mg : Str → Option Value} {base : Heap} {j k : Nat} {f : Addr} {F : Hp → Prop} {sp : Sp} (L : LamOk P w K mg base j f F sp) (h : j ≤ k) : LamOk P w K mg base k f F sp :=
  ⟨L.there, L.ext, fun A outer s H us vs Q hr => L.run A outer s H us vs Q (hr.mono h)⟩
section
variable {X : Cx} {x : Str} {p pos : Pos} {e : Expr} {es : List Expr} {t : TA} {k i : Nat} {f : Addr} {F : Hp → Prop} {sp : Sp}
end

/-! ### a lambda is made -/
section
variable {X : Cx}
end

/-! ### a lambda's promise, by its body -/
/-- what a caller holds of a lambda: its object, its code, its cells -/
def LamF (f c' : Addr) (fo : Obj) (q : Str) (cl : List (Str × Addr)) (cvs : List V) : Hp → Prop := fun H => H f = some (LamO f fo) ∧ H c' = some (.code q) ∧ Paired (fun (e : Str × Addr) v => CellH H e.2 v) cl cvs
theorem LamF.ext {f c' : Addr} {fo : Obj} {q : Str} {cl : List (Str × Addr)} {cvs : List V} {H H' : Hp} (x : Ext H H') (h : LamF f c' fo q cl cvs H) : LamF f c' fo q cl cvs H' :=
  ⟨x _ _ h.1, x _ _ h.2.1, Paired.mapP h.2.2 fun _ _ z => z.ext x⟩
section
variable {P : Program} {w : World} {K : PySem.W.Frag} {mg : Str → Option Value} {base : Heap}
end

/-! ### a call whose callee is handed a lambda with cells -/
section
variable {X : Cx} {k : Nat} {f : Addr} {fd : FuncData} {ps : List Str} {sp : Sp} {E : XK} {x : Str} {p pos : Pos} {e : Expr} {es : List Expr} {t : TA} {caps : List (Nat × Addr)}
end
end L2

end
section
set_option linter.all false
set_option maxRecDepth 100000
/-! THE HEAD, with the tables of the defs that make lambdas -/
namespace L2
open PySem PySem.Spec PyProof.Rows

end L2

end
section
set_option linter.all false
set_option maxRecDepth 100000
/-! min of a list of pairs of ints -/
namespace L2
open PySem PySem.Spec PyProof.Rows
section
variable {prog : Program} {w : World} {A : Around} {E : Value → Shared → Prop} {s : Shared} {R : Result → Shared → Prop} {I : Addr} {fp wr : List Addr} {n : Nat} {P : Nat → Value → Prop} {St : Nat → Heap → Prop}
end
end L2

end
section
set_option linter.all false
set_option maxRecDepth 100000
/-! walks over enumerate(list), over a dict's items -/
namespace L2
open PySem PySem.Spec PyProof.Rows
section
variable {K : PySem.W.Frag} {a : Addr} {xs : List V} {B : (Hp → Prop) → V → Hp → Prop} {Qd : Hp → Prop} {H0 : Hp}
theorem W_enumL (Pv : Nat → Hp → Prop) (h0 : Pv 0 H0) (hl : ∀ i H, i ≤ xs.length → Pv i H → SqL K H a xs) (hs : ∀ i x T H, xs[i]? = some x → Pv i H → H T = none → B (Pv (i + 1)) (.ref T) (upd H T (.tup [.int (i : Nat), x]))) (hd : ∀ H, Pv xs.length H → Qd H) :
    ∃ W : Nat → Nat → Hp → Prop, (∃ m, W 0 m H0) ∧ ∀ i m H, W i m H → ((Ite K a).stop i H ∧ Qd H) ∨ ((Ite K a).go i H ∧ ∃ Nx : Hp → Prop, (∀ H', Nx H' → ∃ m', m' < m ∧ W (i + 1) m' H') ∧ ∀ x H', (Ite K a).yld i H x H' → B Nx x H') := by
  refine ⟨fun i m H => m = xs.length - i ∧ i ≤ xs.length ∧ Pv i H, ⟨xs.length, by simp, Nat.zero_le _, h0⟩, ?_⟩
  rintro i m H ⟨rfl, hi, p⟩
  have q := hl i H hi p
  by_cases hlt : i < xs.length
  · refine .inr ⟨⟨xs, _, q, List.getElem?_eq_getElem hlt⟩, Pv (i + 1), fun H' p' => ⟨xs.length - (i + 1), by omega, rfl, hlt, p'⟩, ?_⟩
    rintro v H' ⟨T, x, rfl, hT, rfl, c⟩
    exact hs i x T H (c _ q) p hT
  · obtain rfl : i = xs.length := by omega
    exact .inl ⟨⟨xs, q, Nat.le_refl _⟩, hd H p⟩
end
end L2

end
section
set_option linter.all false
set_option maxRecDepth 100000
/-! a lambda that captures nothing, whose own names may be cells -/
namespace L2
open PySem PySem.Spec PyProof.Rows
section
variable {P : Program} {w : World} {K : PySem.W.Frag} {mg : Str → Option Value} {base : Heap}
end
end L2

end
section
set_option linter.all false
set_option maxRecDepth 100000
namespace L2
open PySem PySem.Spec PyProof.Rows
end L2

end
section
set_option linter.all false
set_option maxRecDepth 100000
namespace L2
open PySem PySem.Spec PyProof.Rows
/-- x in xs, things of data at any depth -/
def rInD (K : PySem.W.Frag) (neg : Bool) : R2 := fun x y H Q => ∃ (d e : PyData) (ds : List PyData), Dp K H x d ∧ Dp K H y e ∧ (e = .list ds ∨ e = .tuple ds) ∧ SeqAt.shaped d = true ∧ d.depth ≤ 60 ∧ PyData.canLayAll0 ds = true ∧ Q (.bl (if neg then !(ds.any fun z => PyData.eqv z d) else ds.any fun z => PyData.eqv z d)) H
theorem op_inD {X : Cx} (hu : X.A.units + 64 < cLine) : OpR X (compareOp .In) (rInD X.K false) := by
  intro pins s σ H x y v u Q I rx ry h
  obtain ⟨d, e, ds, hd, he, hs, sd, dd, se, q⟩ := h
  obtain ⟨as, r1⟩ := Dp.reads I d x v hd rx
  obtain ⟨bs, r2⟩ := Dp.reads I e y u he ry
  have hm : X.A.units + 1 + min (PyData.depthAll ds) d.depth < cLine := by have := Nat.min_le_right (PyData.depthAll ds) d.depth; omega
  rcases hs with rfl | rfl
  · exact SeqAt.in_list_reads r2 r1 se (SeqAt.canLay_of_shaped sd) hm ⟨.bl _, H, I, rfl, q⟩
  · exact SeqAt.in_tuple_reads r2 r1 se (SeqAt.canLay_of_shaped sd) hm ⟨.bl _, H, I, rfl, q⟩
theorem op_notInD {X : Cx} (hu : X.A.units + 64 < cLine) : OpR X (compareOp .NotIn) (rInD X.K true) := by
  intro pins s σ H x y v u Q I rx ry h
  obtain ⟨d, e, ds, hd, he, hs, sd, dd, se, q⟩ := h
  obtain ⟨as, r1⟩ := Dp.reads I d x v hd rx
  obtain ⟨bs, r2⟩ := Dp.reads I e y u he ry
  have hm : X.A.units + 1 + min (PyData.depthAll ds) d.depth < cLine := by have := Nat.min_le_right (PyData.depthAll ds) d.depth; omega
  rcases hs with rfl | rfl
  · exact SeqAt.notIn_list_reads r2 r1 se (SeqAt.canLay_of_shaped sd) hm ⟨.bl _, H, I, rfl, q⟩
  · exact SeqAt.notIn_tuple_reads r2 r1 se (SeqAt.canLay_of_shaped sd) hm ⟨.bl _, H, I, rfl, q⟩
theorem op_inDK {X : Cx} {K : PySem.W.Frag} (h : X.K = K) (hu : X.A.units + 64 < cLine) : OpR X (compareOp .In) (rInD K false) := by subst h; exact op_inD hu
theorem op_notInDK {X : Cx} {K : PySem.W.Frag} (h : X.K = K) (hu : X.A.units + 64 < cLine) : OpR X (compareOp .NotIn) (rInD K true) := by subst h; exact op_notInD hu
end L2

end
section
set_option linter.all false
set_option maxRecDepth 100000
set_option maxHeartbeats 4000000
set_option Elab.async false
namespace My
open PySem L2
def top (i : Nat) : Stmt := PySem.Challenge.pw_sumorder_k80_letters_in_rounds.main.body.getD i (.Pass ⟨0, 0, 0, 0⟩)
abbrev s_in_rounds : Stmt := top 3
abbrev s_tied_bags : Stmt := top 1
abbrev s_rounds : Stmt := top 4
abbrev s__law_gprime : Stmt := top 6
abbrev s__law_gfresh : Stmt := top 7
abbrev s__law_gdraw : Stmt := top 8
abbrev s__law_gnear : Stmt := top 22
abbrev s__law_gorder : Stmt := top 19
abbrev s__law_grounds : Stmt := top 26
abbrev s__law_gbare_tree : Stmt := top 25
abbrev s__law_gbags : Stmt := top 20
abbrev s__law_gtree : Stmt := top 21
abbrev s__law_gsame : Stmt := top 9
abbrev s__law_gfillings : Stmt := top 13
abbrev s__law_gworths : Stmt := top 16
abbrev s__law_gparts : Stmt := top 17
abbrev s__law_gsheet : Stmt := top 18
abbrev s_law : Stmt := top 27
/-- the addresses of the text's own things -/
structure Adr where
  f_in_rounds : Addr
  f_tied_bags : Addr
  f_rounds : Addr
  f__law_gprime : Addr
  f__law_gfresh : Addr
  f__law_gdraw : Addr
  f__law_gnear : Addr
  f__law_gorder : Addr
  f__law_grounds : Addr
  f__law_gbare_tree : Addr
  f__law_gbags : Addr
  f__law_gtree : Addr
  f__law_gsame : Addr
  f__law_gfillings : Addr
  f__law_gworths : Addr
  f__law_gparts : Addr
  f__law_gsheet : Addr
  f_law : Addr
structure Txt (K : PySem.W.Frag) (mg : Str → Option Value) (t : Adr) : Prop where
  b_all : mg "all" = none
  b_bool : mg "bool" = none
  b_enumerate : mg "enumerate" = none
  b_int : mg "int" = none
  b_isinstance : mg "isinstance" = none
  b_len : mg "len" = none
  b_list : mg "list" = none
  b_range : mg "range" = none
  b_set : mg "set" = none
  b_sorted : mg "sorted" = none
  b_str : mg "str" = none
  b_tuple : mg "tuple" = none
  b_zip : mg "zip" = none
  m_in_rounds : mg "in_rounds" = some (.ref t.f_in_rounds)
  k_in_rounds : PySem.W.keepIn K (.ref t.f_in_rounds) = true
  m_tied_bags : mg "tied_bags" = some (.ref t.f_tied_bags)
  k_tied_bags : PySem.W.keepIn K (.ref t.f_tied_bags) = true
  m_rounds : mg "rounds" = some (.ref t.f_rounds)
  k_rounds : PySem.W.keepIn K (.ref t.f_rounds) = true
  m__law_gprime : mg "_law_gprime" = some (.ref t.f__law_gprime)
  k__law_gprime : PySem.W.keepIn K (.ref t.f__law_gprime) = true
  m__law_gfresh : mg "_law_gfresh" = some (.ref t.f__law_gfresh)
  k__law_gfresh : PySem.W.keepIn K (.ref t.f__law_gfresh) = true
  m__law_gdraw : mg "_law_gdraw" = some (.ref t.f__law_gdraw)
  k__law_gdraw : PySem.W.keepIn K (.ref t.f__law_gdraw) = true
  m__law_gnear : mg "_law_gnear" = some (.ref t.f__law_gnear)
  k__law_gnear : PySem.W.keepIn K (.ref t.f__law_gnear) = true
  m__law_gorder : mg "_law_gorder" = some (.ref t.f__law_gorder)
  k__law_gorder : PySem.W.keepIn K (.ref t.f__law_gorder) = true
  m__law_grounds : mg "_law_grounds" = some (.ref t.f__law_grounds)
  k__law_grounds : PySem.W.keepIn K (.ref t.f__law_grounds) = true
  m__law_gbare_tree : mg "_law_gbare_tree" = some (.ref t.f__law_gbare_tree)
  k__law_gbare_tree : PySem.W.keepIn K (.ref t.f__law_gbare_tree) = true
  m__law_gbags : mg "_law_gbags" = some (.ref t.f__law_gbags)
  k__law_gbags : PySem.W.keepIn K (.ref t.f__law_gbags) = true
  m__law_gtree : mg "_law_gtree" = some (.ref t.f__law_gtree)
  k__law_gtree : PySem.W.keepIn K (.ref t.f__law_gtree) = true
  m__law_gsame : mg "_law_gsame" = some (.ref t.f__law_gsame)
  k__law_gsame : PySem.W.keepIn K (.ref t.f__law_gsame) = true
  m__law_gfillings : mg "_law_gfillings" = some (.ref t.f__law_gfillings)
  k__law_gfillings : PySem.W.keepIn K (.ref t.f__law_gfillings) = true
  m__law_gworths : mg "_law_gworths" = some (.ref t.f__law_gworths)
  k__law_gworths : PySem.W.keepIn K (.ref t.f__law_gworths) = true
  m__law_gparts : mg "_law_gparts" = some (.ref t.f__law_gparts)
  k__law_gparts : PySem.W.keepIn K (.ref t.f__law_gparts) = true
  m__law_gsheet : mg "_law_gsheet" = some (.ref t.f__law_gsheet)
  k__law_gsheet : PySem.W.keepIn K (.ref t.f__law_gsheet) = true
  m_law : mg "law" = some (.ref t.f_law)
  k_law : PySem.W.keepIn K (.ref t.f_law) = true
section
variable {P : Program} {w : World} {K : PySem.W.Frag} {mg : Str → Option Value} {base : Heap} {t : Adr} {TB : List Addr} {LB : List (Addr × Str)}
/-! ### pair_maths -/
/-- a list of ints, at an address -/
def ILst (H : Hp) (v : V) (L : List Int) : Prop := ∃ a, v = .ref a ∧ H a = some (.lst (L.map V.int))
theorem ILst.ext {H H' : Hp} {v : V} {L : List Int} (x : Ext H H') (h : ILst H v L) : ILst H' v L := let ⟨a, e, b⟩ := h; ⟨a, e, x _ _ b⟩
def pkey (p : Int × Int) : List Key := [.inl p.1, .inl p.2]
def kvD (D : List (Int × Int)) : List (List Key × V) := D.map fun p => (pkey p, V.bl true)
def addD (D ps : List (Int × Int)) : List (Int × Int) := ps.foldl (fun D p => if p ∈ D then D else D ++ [p]) D
theorem pkey_inj {p q : Int × Int} (h : pkey p = pkey q) : p = q := by
  unfold pkey at h
  injection h with h1 h2
  injection h2 with h2 _
  exact Prod.ext (Sum.inl.inj h1) (Sum.inl.inj h2)
theorem kvD_put (D : List (Int × Int)) (p : Int × Int) : putK (kvD D) (pkey p) (.bl true) = kvD (if p ∈ D then D else D ++ [p]) := by
  have any : ((kvD D).any fun kv => decide (kv.1 = pkey p)) = decide (p ∈ D) := by
    rw [Bool.eq_iff_iff, List.any_eq_true, decide_eq_true_iff]
    constructor
    · rintro ⟨e, he, h⟩
      obtain ⟨q, hq, rfl⟩ := List.mem_map.mp he
      rw [← pkey_inj (decide_eq_true_iff.mp h)]
      exact hq
    · intro h
      exact ⟨_, List.mem_map.mpr ⟨p, h, rfl⟩, decide_eq_true rfl⟩
  unfold putK
  rw [any]
  by_cases h : p ∈ D
  · rw [decide_eq_true h, if_pos rfl, if_pos h]
    unfold kvD
    rw [List.map_map]
    refine List.map_congr_left fun q hq => ?_
    show (if pkey q = pkey p then (pkey q, V.bl true) else (pkey q, V.bl true)) = _
    split <;> rfl
  · rw [decide_eq_false h, if_neg (by decide), if_neg h]
    unfold kvD
    rw [List.map_append]
    rfl
theorem addD_snoc {D ps : List (Int × Int)} {p : Int × Int} : addD D (ps ++ [p]) = if p ∈ addD D ps then addD D ps else addD D ps ++ [p] := by
  unfold addD
  rw [List.foldl_append]
  rfl
theorem addD_len : ∀ (ps D : List (Int × Int)), (addD D ps).length ≤ D.length + ps.length
  | [], D => Nat.le_refl _
  | p :: ps, D => by
    show (addD (if p ∈ D then D else D ++ [p]) ps).length ≤ _
    by_cases c : p ∈ D
    · rw [if_pos c, List.length_cons]
      have := addD_len ps D
      omega
    · rw [if_neg c, List.length_cons]
      have := addD_len ps (D ++ [p])
      rw [List.length_append, List.length_singleton] at this
      omega
theorem val_kvD (p : Int × Int) : ∀ D : List (Int × Int), (valV (kvD D) (pkey p)).isSome = decide (p ∈ D)
  | [] => by rw [decide_eq_false List.not_mem_nil]; rfl
  | q :: D => by
    by_cases c : q = p
    · subst c
      rw [decide_eq_true (List.mem_cons_self ..)]
      show (valV ((pkey q, V.bl true) :: kvD D) (pkey q)).isSome = true
      rw [valV_pos rfl]; rfl
    · have ne : ¬ pkey q = pkey p := fun e => c (pkey_inj e)
      show (valV ((pkey q, V.bl true) :: kvD D) (pkey p)).isSome = _
      rw [valV_neg (p := (pkey q, V.bl true)) ne, val_kvD p D]
      rw [Bool.eq_iff_iff, decide_eq_true_iff, decide_eq_true_iff, List.mem_cons]
      exact ⟨.inr, fun h => h.elim (fun e => absurd e.symm c) id⟩
theorem addD_mem {D ps : List (Int × Int)} {p : Int × Int} : p ∈ addD D ps ↔ p ∈ D ∨ p ∈ ps := by
  induction ps generalizing D with
  | nil => exact ⟨.inl, fun h => h.resolve_right List.not_mem_nil⟩
  | cons q ps ih =>
    show p ∈ addD (if q ∈ D then D else D ++ [q]) ps ↔ _
    rw [ih, List.mem_cons]
    split
    · rename_i c
      constructor
      · rintro (h | h)
        · exact .inl h
        · exact .inr (.inr h)
      · rintro (h | h | h)
        · exact .inl h
        · exact .inl (h ▸ c)
        · exact .inr h
    · rw [List.mem_append, List.mem_singleton, or_assoc]
/-- a pair of ints, at an address -/
def PrO (H : Hp) (b : Addr) (p : Int × Int) : Prop := H b = some (.tup [.int p.1, .int p.2])
/-- a list of pairs, at an address -/
def PLst (H : Hp) (a : Addr) (ps : List (Int × Int)) : Prop := ∃ bs : List Addr, H a = some (.lst (bs.map V.ref)) ∧ Paired (PrO H) bs ps
theorem PLst.ext {H H' : Hp} {a : Addr} {ps : List (Int × Int)} (x : Ext H H') (h : PLst H a ps) : PLst H' a ps := let ⟨bs, h1, h2⟩ := h; ⟨bs, x _ _ h1, Paired.mapP h2 fun _ _ h => x _ _ h⟩
theorem PrO.keepK {H H' : Hp} {kd b : Addr} {d : List (List Key × V)} {p : Int × Int} (k : Keep kd H H') (hkd : H kd = some (.dT d)) (h : PrO H b p) : PrO H' b p := k b _ h fun e => by
  have h : H b = some (.tup [.int p.1, .int p.2]) := h
  rw [e, hkd] at h; cases h
theorem PLst.keepK {H H' : Hp} {kd a : Addr} {d : List (List Key × V)} {ps : List (Int × Int)} (k : Keep kd H H') (hkd : H kd = some (.dT d)) (h : PLst H a ps) : PLst H' a ps := by
  obtain ⟨bs, h1, h2⟩ := h
  exact ⟨bs, k a _ h1 (fun e => by rw [e, hkd] at h1; cases h1), Paired.mapP h2 fun _ _ h => h.keepK k hkd⟩
theorem PLst.keepL {H H' : Hp} {td a : Addr} {rs : List V} {ps : List (Int × Int)} (k : Keep td H H') (htd : H td = some (.lst rs)) (ne : a ≠ td) (h : PLst H a ps) : PLst H' a ps := by
  obtain ⟨bs, h1, h2⟩ := h
  refine ⟨bs, k a _ h1 ne, Paired.mapP h2 fun b p h => k b _ h fun e => ?_⟩
  have h : H b = some (.tup [.int p.1, .int p.2]) := h
  rw [e, htd] at h; cases h
/-- the pair at an address -/
def pairAt (H : Hp) (c : Addr) : Int × Int := match H c with
  | some (.tup [.int x, .int y]) => (x, y)
  | _ => (0, 0)
theorem pairAt_eq {H : Hp} {c : Addr} {p : Int × Int} (h : PrO H c p) : pairAt H c = p := by
  unfold pairAt
  rw [show H c = some (.tup [.int p.1, .int p.2]) from h]
theorem pairs_at {H : Hp} : ∀ {bs : List Addr} {ps : List (Int × Int)}, Paired (PrO H) bs ps → bs.map (pairAt H) = ps ∧ ∀ c ∈ bs, PrO H c (pairAt H c)
  | _, _, .nil => ⟨rfl, fun c h => absurd h List.not_mem_nil⟩
  | _, _, .cons h t => by
    obtain ⟨i1, i2⟩ := pairs_at t
    have e := pairAt_eq h
    refine ⟨by rw [List.map_cons, i1, e], fun c hc => ?_⟩
    rcases List.mem_cons.mp hc with rfl | hc
    · rw [e]; exact h
    · exact i2 c hc
theorem paired_at {H : Hp} : ∀ {bs : List Addr}, (∀ c ∈ bs, PrO H c (pairAt H c)) → Paired (PrO H) bs (bs.map (pairAt H))
  | [], _ => .nil
  | b :: bs, h => .cons (h b (List.mem_cons_self ..)) (paired_at fun c hc => h c (List.mem_cons_of_mem _ hc))
def pairD2 (p : Int × Int) : PyData := .tuple [.int p.1, .int p.2]
theorem pair_dp {K : PySem.W.Frag} {H : Hp} {b : Addr} {p : Int × Int} (h : PrO H b p) : Dp K H (.ref b) (pairD2 p) := .tup (SqT.of h) (.cons (.int _) (.cons (.int _) .nil))
theorem pairs_dp {K : PySem.W.Frag} {H : Hp} : ∀ {bs : List Addr} {ps : List (Int × Int)}, Paired (PrO H) bs ps → DpAll K H (bs.map V.ref) (ps.map pairD2)
  | _, _, .nil => .nil
  | _, _, .cons h t => .cons (pair_dp h) (pairs_dp t)
theorem eqv_pairs (p q : Int × Int) : PyData.eqv (pairD2 p) (pairD2 q) = decide (p = q) := by
  obtain ⟨a, b⟩ := p
  obtain ⟨c, d⟩ := q
  unfold pairD2
  simp only [PyData.eqv, PyData.eqvAll]
  rw [Bool.eq_iff_iff]
  simp [Prod.mk.injEq]
theorem any_pairs (p : Int × Int) (ps : List (Int × Int)) : ((ps.map pairD2).any fun z => PyData.eqv z (pairD2 p)) = decide (p ∈ ps) := by
  rw [List.any_map, Bool.eq_iff_iff, List.any_eq_true, decide_eq_true_iff]
  constructor
  · rintro ⟨q, hq, h⟩
    have h : PyData.eqv (pairD2 q) (pairD2 p) = true := h
    rw [eqv_pairs, decide_eq_true_iff] at h
    exact h ▸ hq
  · intro h
    exact ⟨p, h, by show PyData.eqv (pairD2 p) (pairD2 p) = true; rw [eqv_pairs]; exact decide_eq_true rfl⟩
theorem shaped_pair (p : Int × Int) : SeqAt.shaped (pairD2 p) = true := by
  unfold SeqAt.shaped pairD2
  rfl
theorem lay_pairs : ∀ ps : List (Int × Int), PyData.canLayAll0 (ps.map pairD2) = true
  | [] => rfl
  | p :: ps => by
    show (PyData.canLay0 (pairD2 p) && PyData.canLayAll0 (ps.map pairD2)) = true
    rw [lay_pairs ps]
    rfl
/-- a pair in a list of pairs, or not -/
theorem in_pairs {K : PySem.W.Frag} {H : Hp} {b c : Addr} {p : Int × Int} {ps : List (Int × Int)} {neg : Bool} {Q : VK} (hp : PrO H b p) (hc : PLst H c ps) (q : Q (.bl (if neg then !decide (p ∈ ps) else decide (p ∈ ps))) H) : rInD K neg (.ref b) (.ref c) H Q := by
  obtain ⟨bs, h1, h2⟩ := hc
  exact ⟨pairD2 p, .list (ps.map pairD2), _, pair_dp hp, .lst (SqL.of h1) (pairs_dp h2), .inl rfl, shaped_pair p, by show 0 + 1 ≤ 60; decide, lay_pairs ps, by rw [any_pairs]; exact q⟩
theorem depth_pairs : ∀ ps : List (Int × Int), PyData.depthAll (ps.map pairD2) ≤ 1
  | [] => Nat.zero_le _
  | p :: ps => by
    show max (max 0 (max 0 0) + 1) (PyData.depthAll (ps.map pairD2)) ≤ 1
    have := depth_pairs ps
    omega
theorem shaped_pairs (ps : List (Int × Int)) : SeqAt.shaped (.list (ps.map pairD2)) = true := by
  unfold SeqAt.shaped
  rw [show (PyData.list (ps.map pairD2)).canLay0 = true from lay_pairs ps, Bool.true_and]
  refine decide_eq_true ?_
  show PyData.depthAll (ps.map pairD2) + 1 ≤ 64
  have := depth_pairs ps
  omega

/-! ### rounds_maths -/
def nearOf (TD : List (List Int)) (i : Int) : List Int := TD.getD i.toNat []
/-- whether a pair's turn has come -/
def readyB (TD : List (List Int)) (kn : List (Int × Int)) (p : Int × Int) : Bool := (nearOf TD p.1).all fun k => decide (k = p.2) || decide ((k, p.1) ∈ kn)
def readyL (TD : List (List Int)) (left kn : List (Int × Int)) : List (Int × Int) := left.filter (readyB TD kn)
def laterL (TD : List (List Int)) (left kn : List (Int × Int)) : List (Int × Int) := left.filter fun p => decide (p ∉ readyL TD left kn)
/-- pairs told in rounds -/
inductive Rounds (TD : List (List Int)) : List (Int × Int) → List (Int × Int) → List (List (Int × Int)) → Prop where
  | nil {kn : List (Int × Int)} : Rounds TD [] kn []
  | cons {left kn : List (Int × Int)} {R : List (List (Int × Int))} (h : left ≠ []) (r : Rounds TD (laterL TD left kn) (kn ++ readyL TD left kn) R) : Rounds TD left kn (readyL TD left kn :: R)
theorem readyB_same {TD : List (List Int)} {kn kn' : List (Int × Int)} (h : ∀ p, p ∈ kn ↔ p ∈ kn') : readyB TD kn = readyB TD kn' := by
  funext p
  unfold readyB
  congr 1
  funext k
  rw [decide_eq_decide.mpr (h (k, p.1))]
theorem Rounds.same {TD : List (List Int)} {left kn : List (Int × Int)} {R : List (List (Int × Int))} (r : Rounds TD left kn R) : ∀ {kn' : List (Int × Int)} {R' : List (List (Int × Int))}, (∀ p, p ∈ kn ↔ p ∈ kn') → Rounds TD left kn' R' → R = R' := by
  induction r with
  | nil =>
    intro kn' R' _ r'
    cases r' with
    | nil => rfl
    | cons h _ => exact absurd rfl h
  | cons h r ih =>
    intro kn' R' hk r'
    rename_i left kn R
    have e1 : readyL TD left kn = readyL TD left kn' := by unfold readyL; rw [readyB_same hk]
    have e2 : laterL TD left kn = laterL TD left kn' := by unfold laterL; rw [e1]
    cases r' with
    | nil => exact absurd rfl h
    | cons h' r' =>
      rw [← e2] at r'
      rw [e1, ih (fun p => by rw [List.mem_append, List.mem_append, hk p, e1]) r']
/-- some pair's turn has always come -/
def Live (TD : List (List Int)) (W : List (Int × Int)) : Prop := ∀ left kn : List (Int × Int), (∀ p ∈ left, p ∈ W) → (∀ p ∈ W, p ∈ left ∨ p ∈ kn) → left ≠ [] → ∃ p ∈ left, readyB TD kn p = true
/-- a pair whose turn comes -/
inductive Rdy (TD : List (List Int)) : Int → Int → Prop where
  | mk {i j : Int} (h : ∀ k ∈ nearOf TD i, k ≠ j → Rdy TD k i) : Rdy TD i j
theorem live_of {TD : List (List Int)} {W : List (Int × Int)} (hc : ∀ p ∈ W, ∀ k ∈ nearOf TD p.1, k ≠ p.2 → (k, p.1) ∈ W) (hr : ∀ p ∈ W, Rdy TD p.1 p.2) : Live TD W := fun left kn hl ha hne => by
  have go : ∀ i j : Int, Rdy TD i j → (i, j) ∈ left → ∃ p ∈ left, readyB TD kn p = true := fun i j r => by
    induction r with
    | mk h ih =>
      rename_i i j
      intro hm
      by_cases c : ∃ k ∈ nearOf TD i, k ≠ j ∧ (k, i) ∉ kn
      · obtain ⟨k, k1, k2, k3⟩ := c
        have := hc (i, j) (hl _ hm) k k1 k2
        exact ih k k1 k2 ((ha _ this).resolve_right k3)
      · refine ⟨(i, j), hm, List.all_eq_true.mpr fun k hk => ?_⟩
        rw [Bool.or_eq_true, decide_eq_true_iff, decide_eq_true_iff]
        by_cases d : k = j
        · exact .inl d
        · exact .inr (Classical.byContradiction fun e => c ⟨k, hk, d, e⟩)
  cases left with
  | nil => exact absurd rfl hne
  | cons p l => exact go p.1 p.2 (hr p (hl p (List.mem_cons_self ..))) (List.mem_cons_self ..)
theorem later_less {TD : List (List Int)} {W left kn : List (Int × Int)} (lv : Live TD W) (h1 : ∀ p ∈ left, p ∈ W) (h2 : ∀ p ∈ W, p ∈ left ∨ p ∈ kn) (hne : left ≠ []) : (laterL TD left kn).length < left.length := by
  obtain ⟨p, hp, hr⟩ := lv left kn h1 h2 hne
  unfold laterL
  refine Nat.lt_of_le_of_ne (List.length_filter_le _ _) fun e => ?_
  have := List.length_filter_eq_length_iff.mp e p hp
  rw [decide_eq_true_iff] at this
  exact this (List.mem_filter.mpr ⟨hp, hr⟩)
theorem later_in {TD : List (List Int)} {W left kn : List (Int × Int)} (h1 : ∀ p ∈ left, p ∈ W) (h2 : ∀ p ∈ W, p ∈ left ∨ p ∈ kn) : (∀ p ∈ laterL TD left kn, p ∈ W) ∧ ∀ p ∈ W, p ∈ laterL TD left kn ∨ p ∈ kn ++ readyL TD left kn := by
  refine ⟨fun p hp => h1 p (List.mem_filter.mp hp).1, fun p hp => ?_⟩
  rcases h2 p hp with h | h
  · by_cases c : p ∈ readyL TD left kn
    · exact .inr (List.mem_append_right _ c)
    · exact .inl (List.mem_filter.mpr ⟨h, decide_eq_true c⟩)
  · exact .inr (List.mem_append_left _ h)
theorem ready_later (TD : List (List Int)) (left kn : List (Int × Int)) : (readyL TD left kn).length + (laterL TD left kn).length ≤ left.length := by
  unfold laterL readyL
  have : (left.filter fun p => decide (p ∉ left.filter (readyB TD kn))).length ≤ (left.filter fun p => !(readyB TD kn p)).length := by
    refine (List.Sublist.length_le ?_)
    have e : (left.filter fun p => decide (p ∉ left.filter (readyB TD kn))) = left.filter fun p => !(readyB TD kn p) := List.filter_congr fun p hp => by
      rw [Bool.eq_iff_iff, decide_eq_true_iff, List.mem_filter, Bool.not_eq_true']
      constructor
      · intro h
        cases c : readyB TD kn p with
        | false => rfl
        | true => exact absurd ⟨hp, c⟩ h
      · intro h ⟨_, h2⟩
        rw [h] at h2; cases h2
    rw [e]
    exact List.Sublist.refl _
  have h2 : (left.filter (readyB TD kn)).length + (left.filter fun p => !(readyB TD kn p)).length = left.length := by
    rw [← List.countP_eq_length_filter, ← List.countP_eq_length_filter]
    have := List.length_eq_countP_add_countP (readyB TD kn) (l := left)
    simpa using this.symm
  omega

end
end My

end
section
set_option linter.all false
set_option maxRecDepth 100000
set_option maxHeartbeats 4000000
set_option Elab.async false
namespace My
open PySem L2
section
variable {P : Program} {w : World} {K : PySem.W.Frag} {mg : Str → Option Value} {base : Heap} {t : Adr} {TB : List Addr} {LB : List (Addr × Str)}
/-! ### in_rounds -/
theorem dec_intR {i j : Int} : decide (V.int i = V.int j) = decide (i = j) := decide_eq_decide.mpr ⟨V.int.inj, congrArg V.int⟩
theorem gen_ready (TD : List (List Int)) (kn : List (Int × Int)) (p : Int × Int) : (((passing (fun i => decide ((nearOf TD p.1).getD i 0 ≠ p.2)) (nearOf TD p.1).length 0).map fun i => decide (((nearOf TD p.1).getD i 0, p.1) ∈ kn)).all id) = readyB TD kn p := by
  unfold readyB passing
  rw [List.drop_zero, Bool.eq_iff_iff, List.all_eq_true, List.all_eq_true]
  constructor
  · intro h k hk
    obtain ⟨i, hi, e⟩ := List.getElem_of_mem hk
    have ek : (nearOf TD p.1).getD i 0 = k := by rw [List.getD_eq_getElem?_getD, List.getElem?_eq_getElem hi]; exact e
    rw [Bool.or_eq_true, decide_eq_true_iff, decide_eq_true_iff]
    by_cases c : k = p.2
    · exact .inl c
    · refine .inr ?_
      have := h _ (List.mem_map.mpr ⟨i, List.mem_filter.mpr ⟨List.mem_range.mpr hi, decide_eq_true (by rw [ek]; exact c)⟩, rfl⟩)
      rw [ek] at this
      exact of_decide_eq_true this
  · intro h b hb
    obtain ⟨i, hi, rfl⟩ := List.mem_map.mp hb
    obtain ⟨h1, h2⟩ := List.mem_filter.mp hi
    have hi' := List.mem_range.mp h1
    have km : (nearOf TD p.1).getD i 0 ∈ nearOf TD p.1 := by
      rw [List.getD_eq_getElem?_getD, List.getElem?_eq_getElem hi']
      exact List.getElem_mem hi'
    have := h _ km
    rw [Bool.or_eq_true, decide_eq_true_iff, decide_eq_true_iff] at this
    exact decide_eq_true (this.resolve_left (of_decide_eq_true h2))
def pairLe (p q : Int × Int) : Prop := lexI [q.1, q.2] [p.1, p.2] = false
def spInRounds (K : PySem.W.Frag) (TB : List Addr) : Sp := fun vs H Q _ => ∃ (a b : Addr) (us : List V) (TD : List (List Int)) (W : List (Int × Int)), vs = [.ref a, .ref b] ∧ H a = some (.lst us) ∧ Paired (ILst H) us TD ∧ PLst H b W ∧ W.length ≤ 4000 ∧ (∀ p ∈ W, 0 ≤ p.1 ∧ p.1 < (TD.length : Int)) ∧ Live TD W ∧ (∀ Pt ∈ TB, H Pt = some (TblO Pt)) ∧
  ∀ (r : Addr) (rs : List V) (S : List (Int × Int)) (R : List (List (Int × Int))) (H' : Hp), Ext H H' → H r = none → H' r = some (.lst rs) → Paired (fun v ps => ∃ c, v = .ref c ∧ H c = none ∧ PLst H' c ps) rs R → S.Perm W → S.Pairwise pairLe → Rounds TD S [] R → Q (.ref r) H'
theorem sc_in_rounds : FnScope ["tied", "ways", "told", "left", "known", "ready", "way", "i", "j", "k"] ["tied", "ways"] (defScope s_in_rounds) := ⟨rfl, rfl, rfl, by decide +kernel, rfl, by decide +kernel, by decide +kernel⟩
theorem ok_in_rounds {gn : List Str} {f : Addr} {fd : FuncData} (F : Fun K "in_rounds" "in_rounds" s_in_rounds f fd) (T : Txt K mg t) (hm : mg "in_rounds" = some (.ref f)) (hkb : K.In base) (ht : Tabs gn mg base TB) (hgn : ("in_rounds" : Str) ∈ gn) : FnOk P w K mg base CX0 4 f fd ["tied", "ways"] (spInRounds K TB) := by
  have nd := sc_in_rounds.nd
  obtain ⟨Pt, hP, hTb⟩ := F.tab hkb ht hgn hm
  refine F.okG sc_in_rounds (fun vs H Q E h => ?_) (fun cdv A outer s H vs Q E hcd hr h => ?_)
  · obtain ⟨a, b, us, TD, W, rfl, _⟩ := h
    rfl
  · obtain ⟨a, b, us, TD, W, rfl, ha, pu, ⟨bs, hb, pb⟩, wl, win, lv, htb, q⟩ := h
    have hT : TabOf base cdv Pt := hcd ▸ hTb
    refine ⟨_, (pss_cons (ps_asg (pe_tup (pa_cons (pe_lst pa_nil) (pa_cons (pe_callB cr_sortedP (by rfl) T.b_sorted (by decide +kernel) (pa_cons (pv 1) pa_nil)) (pa_cons pe_dnewT pa_nil)))) (pg_tup (by rfl) (pgs_cons (pg_name (i := 2) nd rfl (Or.inl rfl)) (pgs_cons (pg_name (i := 3) nd rfl (Or.inl rfl)) (pgs_cons (pg_name (i := 4) nd rfl (Or.inr rfl)) pgs_nil))))) (pss_cons (ps_while PassesOwn.never (pt_truth (pv 3) (by intro _; rfl)) (pss_cons (ps_set (i := 5) nd rfl (Or.inr rfl) (pe_lc (own := [("i", 7), ("j", 8)]) (by rfl) nd (pi_alt (pi_list (pv 3)) (pi_tup (pv 3))) (blkOk_by (own := [("i", 7), ("j", 8)]) rfl) (fun _ _ _ _ _ => (pg_tupK (K := K) (n := 2) rfl rfl (pgs_cons (pg_name (i := 7) nd rfl (Or.inr rfl)) (pgs_cons (pg_name (i := 8) nd rfl (Or.inr rfl)) pgs_nil)))) (fun _ _ _ _ _ => (pts_one (pt_val (pe_genB (k := 2) (own := [("k", 9)]) (use_all hr) (by rfl) T.b_all (by decide +kernel) nd (pi_alt (pi_listK (K := K) rfl (pe_ix (ix_seqK (K := K) rfl) (pv 0) (pv 7) (fun _ _ => rfl))) (pi_tupK (K := K) rfl (pe_ix (ix_seqK (K := K) rfl) (pv 0) (pv 7) (fun _ _ => rfl)))) (blkOk_by (own := [("k", 9)]) rfl) (by decide +kernel) (by decide +kernel) (by rfl) hT hr (fun _ _ _ _ _ _ _ hr' => (pg_name (i := 9) nd rfl (Or.inl rfl))) (fun _ _ _ _ _ _ _ hr' => (pts_one (pt_cmpR op_ne (pv 9) (pv 8) (nomark _)))) (fun _ _ _ _ _ _ _ hr' => (pe_cmp (pc_din (hu_of hr') (pe_tup (pa_cons (pv 9) (pa_cons (pv 7) pa_nil))) (pv 4)))))))) (fun _ _ _ _ _ => (pe_tup (pa_cons (pv 7) (pa_cons (pv 8) pa_nil)))))) (pss_cons (ps_setLc (i := 3) (own := [("way", 6)]) (by rfl) nd rfl rfl (sw_true rfl rfl rfl (by decide +kernel)) (pi_alt (pi_list (pv 3)) (pi_tup (pv 3))) (blkOk_by (own := [("way", 6)]) rfl) (fun _ _ _ _ _ => (pg_name (i := 6) nd rfl (Or.inl rfl))) (fun _ _ _ _ _ => (pts_one (pt_cmpR (op_notInDK (K := K) rfl (room64 hr)) (pv 6) (pv 5) (by rfl)))) (fun _ _ _ _ _ => (pv 6))) (pss_cons (ps_for PassesOwn.never rfl (pi_alt (pi_list (pv 5)) (pi_tup (pv 5))) (pg_name (i := 6) nd rfl (Or.inl rfl)) (pss_one (ps_dput (hu_of hr) (pv 4) (pv 6) pe_bl (by rfl)))) (pss_one (ps_expr (pe_bm PySem.F.plainAttrs_list PySem.F.slot_list_append PySem.F.type_list_append mt_append (pv 2) (pa_cons (pv 5) pa_nil)))))))) (pss_one (ps_ret (pv 2))))), ?_⟩
    refine ⟨by show 0 ≤ sizeLine; decide, fun td ntd => ?_⟩
    have y1 := ext_upd (o := .lst []) ntd
    have htd : (upd H td (.lst [])) td = some (.lst []) := upd_same
    have hb1 := y1 _ _ hb
    have pb1 : Paired (PrO (upd H td (.lst []))) bs W := Paired.mapP pb fun _ _ h => y1 _ _ h
    generalize upd H td (.lst []) = H1 at *
    obtain ⟨mapW, hκ⟩ := pairs_at pb1
    refine ⟨_, rfl, b, bs, (fun c => [(pairAt H1 c).1, (pairAt H1 c).2]), rfl, SqL.of hb1, fun c hc => SqT.of (hκ c hc), .inr (fun c hc e => by cases e), fun bs' sl pm pw nsl => ?_⟩
    obtain ⟨S, hS⟩ : ∃ S, S = bs'.map (pairAt H1) := ⟨_, rfl⟩
    have pS : Paired (PrO H1) bs' S := by
      rw [hS]
      exact paired_at fun c hc => hκ c (pm.mem_iff.mp hc)
    have permS : S.Perm W := by
      rw [hS, ← mapW]
      exact pm.map _
    have sortS : S.Pairwise pairLe := by
      rw [hS]
      exact List.pairwise_map.mpr (pw.imp fun h => h)
    have y2 := ext_upd (o := .lst (bs'.map V.ref)) nsl
    have hsl : (upd H1 sl (.lst (bs'.map V.ref))) sl = some (.lst (bs'.map V.ref)) := upd_same
    have htd2 := y2 _ _ htd
    have pS2 : Paired (PrO (upd H1 sl (.lst (bs'.map V.ref)))) bs' S := Paired.mapP pS fun _ _ h => y2 _ _ h
    have x2 := y1.trans y2
    have tsl : td ≠ sl := fun e => by rw [e] at htd; rw [htd] at nsl; cases nsl
    generalize upd H1 sl (.lst (bs'.map V.ref)) = H2 at *
    intro kd nkd
    have y3 := ext_upd (o := .dT []) nkd
    have hkd : (upd H2 kd (.dT [])) kd = some (.dT (kvD [])) := upd_same
    have htd3 := y3 _ _ htd2
    have hsl3 := y3 _ _ hsl
    have pS3 : Paired (PrO (upd H2 kd (.dT []))) bs' S := Paired.mapP pS2 fun _ _ h => y3 _ _ h
    have x3 := x2.trans y3
    have nkH : H kd = none := none_back x2 nkd
    have ktd : kd ≠ td := fun e => by rw [e, htd2] at nkd; cases nkd
    generalize upd H2 kd (.dT []) = H3 at *
    refine ⟨by show 3 ≤ sizeLine; decide, fun t3 nt3 => ?_⟩
    have y4 := ext_upd (o := .tup [V.ref td, .ref sl, .ref kd]) nt3
    have ht3 : SqT K (upd H3 t3 (.tup [V.ref td, .ref sl, .ref kd])) t3 [V.ref td, .ref sl, .ref kd] := SqT.of upd_same
    have htd4 := y4 _ _ htd3
    have hkd4 := y4 _ _ hkd
    have pl4 : PLst (upd H3 t3 (.tup [V.ref td, .ref sl, .ref kd])) sl S := ⟨bs', y4 _ _ hsl3, Paired.mapP pS3 fun _ _ h => y4 _ _ h⟩
    have x4 := x3.trans y4
    generalize upd H3 t3 (.tup [V.ref td, .ref sl, .ref kd]) = H4 at *
    refine ⟨t3, _, rfl, ht3, rfl, _, _, rfl, _, _, rfl, _, _, rfl, rfl, ?_⟩
    dsimp only [gName]
    have Sin : ∀ p, p ∈ S ↔ p ∈ W := fun p => permS.mem_iff
    have Sl : S.length ≤ 4000 := by rw [permS.length_eq]; exact wl
    refine ⟨fun me σ' H' => ∃ (la : Addr) (left kn D : List (Int × Int)) (rs : List V) (T : List (List (Int × Int))) (p5 p6 : Option V), σ' = [some (.ref a), some (.ref b), some (.ref td), some (.ref la), some (.ref kd), p5, p6, none, none, none] ∧ PLst H' la left ∧ H' kd = some (.dT (kvD D)) ∧ (∀ p, p ∈ D ↔ p ∈ kn) ∧ D.length + left.length ≤ 4000 ∧ H' td = some (.lst rs) ∧ Paired (fun v ps => ∃ c, v = .ref c ∧ c ≠ td ∧ H c = none ∧ PLst H' c ps) rs T ∧ T.length + left.length ≤ 4000 ∧ (∀ p ∈ left, p ∈ W) ∧ (∀ p ∈ W, p ∈ left ∨ p ∈ kn) ∧ (∀ R, Rounds TD left kn R → Rounds TD S [] (T ++ R)) ∧ Ext H H' ∧ me = left.length,
      ⟨_, sl, S, [], [], [], [], none, none, rfl, pl4, hkd4, fun p => Iff.rfl, by show 0 + _ ≤ 4000; omega, htd4, .nil, by show 0 + _ ≤ 4000; omega, fun p hp => (Sin p).mp hp, fun p hp => .inl ((Sin p).mpr hp), fun R h => h, x4, rfl⟩, ?_⟩
    rintro me σ' H5 ⟨la, left, kn, D, rs, T, p5, p6, rfl, pl5, hkd5, Dm, Dl, htd5, pT5, Tl, l1, l2, hR, x5, rfl⟩
    obtain ⟨cs, hla, pcs⟩ := pl5
    refine ⟨_, rfl, _, .inl ⟨_, SqL.of hla, rfl⟩, ?_⟩
    cases hl : left with
    | nil =>
      subst hl
      cases pcs
      refine iteF ⟨_, rfl, q td rs S T H5 x5 ntd htd5 (Paired.mapP pT5 fun _ _ ⟨c, e, _, h⟩ => ⟨c, e, h⟩) permS sortS ?_⟩
      have := hR [] .nil
      rw [List.append_nil] at this
      exact this
    | cons p0 l0 =>
      rw [← hl]
      have lne : left ≠ [] := by rw [hl]; intro e; cases e
      have ce : (cs.map V.ref).isEmpty = false := by
        cases cs with
        | nil => have := pcs.length; rw [hl] at this; cases this
        | cons _ _ => rfl
      rw [ce]
      refine iteT ?_
      have ha5 := x5 _ _ ha
      have pu5 : Paired (ILst H5) us TD := Paired.mapP pu fun _ _ h => h.ext x5
      have ul := pu.length
      refine ⟨fun σ' H' => ∃ (la : Addr) (left' kn' D : List (Int × Int)) (rs : List V) (T : List (List (Int × Int))) (p5 p6 : Option V), σ' = [some (.ref a), some (.ref b), some (.ref td), some (.ref la), some (.ref kd), p5, p6, none, none, none] ∧ PLst H' la left' ∧ H' kd = some (.dT (kvD D)) ∧ (∀ p, p ∈ D ↔ p ∈ kn') ∧ D.length + left'.length ≤ 4000 ∧ H' td = some (.lst rs) ∧ Paired (fun v ps => ∃ c, v = .ref c ∧ c ≠ td ∧ H c = none ∧ PLst H' c ps) rs T ∧ T.length + left'.length ≤ 4000 ∧ (∀ p ∈ left', p ∈ W) ∧ (∀ p ∈ W, p ∈ left' ∨ p ∈ kn') ∧ (∀ R, Rounds TD left' kn' R → Rounds TD S [] (T ++ R)) ∧ Ext H H' ∧ left'.length < left.length, ?_, ?_⟩
      · rintro σ' H' ⟨la, left', kn', D, rs, T, p5, p6, h1, h2, h3, h4, h5, h6, h7, h8, h9, h10, h11, h12, h13⟩
        exact ⟨left'.length, h13, la, left', kn', D, rs, T, p5, p6, h1, h2, h3, h4, h5, h6, h7, h8, h9, h10, h11, h12, rfl⟩
      have pcl := pcs.length
      refine .inl ⟨_, rfl, la, rfl, ⟨_, SqL.of hla⟩, fun D1 nD1 => ?_⟩
      refine W_list (K := K) (a := la) (xs := cs.map V.ref) (fun c H' => ∃ es : List Addr, H' D1 = some (.lst (es.map V.ref)) ∧ Paired (PrO H') es ((left.take c).filter (readyB TD kn)) ∧ Ext H5 H') ⟨[], upd_same, .nil, ext_upd nD1⟩ (fun c H' _ ⟨_, _, _, e⟩ => SqL.of (e _ _ hla)) ?_ ?_
      · rintro c u H6 hu ⟨es, hD1, pe, x6⟩
        rw [List.getElem?_map] at hu
        cases hc : cs[c]? with
        | none => rw [hc] at hu; cases hu
        | some cc =>
        rw [hc] at hu; cases hu
        obtain ⟨p, hp, hpo⟩ := Paired.at pcs hc
        have hpo6 : PrO H6 cc p := x6 _ _ hpo
        have pW := l1 p (List.mem_of_getElem? hp)
        have pr := win p pW
        have cl := (List.getElem?_eq_some_iff.mp hp).1
        have tk : left.take (c + 1) = left.take c ++ [p] := by rw [List.take_succ, hp]; rfl
        have el := pe.length
        have lf := List.length_filter_le (readyB TD kn) (left.take c)
        rw [List.length_take] at lf
        obtain ⟨u, hu⟩ : ∃ u, us[p.1.toNat]? = some u := ⟨_, List.getElem?_eq_getElem (by omega)⟩
        obtain ⟨L, hL, ⟨ua, rfl, hua⟩⟩ := Paired.at pu5 hu
        have eL : nearOf TD p.1 = L := by unfold nearOf; rw [List.getD_eq_getElem?_getD, hL]; rfl
        have atu : atI us p.1 = some (.ref ua) := by
          rw [show p.1 = ((p.1.toNat : Nat) : Int) by omega]; exact atI_nat hu
        refine ⟨cc, [.int p.1, .int p.2], rfl, SqT.of hpo6, rfl, _, _, rfl, _, _, rfl, rfl, rfl, ?_⟩
        have hua6 := x6 _ _ hua
        have hkd6 := x6 _ _ hkd5
        have x06 := x5.trans x6
        refine .inl ⟨_, rfl, _, rfl, .inl ⟨a, us, p.1, _, rfl, rfl, SqL.of (x6 _ _ ha5), atu, ua, rfl, ⟨_, SqL.of hua6⟩, x06 _ _ (htb Pt hP), (L.map V.int).length, (fun i => decide (L.getD i 0 ≠ p.2)), (fun i => V.bl (decide ((L.getD i 0, p.1) ∈ kn))), fun i H' hi xe => ?_, fun H' xe => ⟨_, SqL.of (xe _ _ hua6), Nat.le_refl _⟩, (passing (fun i => decide (L.getD i 0 ≠ p.2)) (L.map V.int).length 0).map (fun i => decide ((L.getD i 0, p.1) ∈ kn)), ?_, fun H' xe => ⟨_, rfl, ?_⟩⟩⟩
        · rw [List.length_map] at hi
          have e1 : (L.map V.int)[i]? = some (V.int (L.getD i 0)) := by rw [List.getElem?_map, List.getD_eq_getElem?_getD, List.getElem?_eq_getElem hi]; rfl
          refine ⟨⟨_, _, SqL.of (xe _ _ hua6), e1⟩, ?_⟩
          rintro y H'' ⟨rfl, c1⟩
          have d1 := c1 _ (SqL.of (xe _ _ hua6))
          rw [e1] at d1
          cases d1
          refine ⟨rfl, ?_⟩
          refine ⟨_, rfl, _, rfl, rfl, _, rfl, ?_⟩
          show (!decide (V.int (L.getD i 0) = V.int p.2)) = decide (L.getD i 0 ≠ p.2) ∧ if (!decide (V.int (L.getD i 0) = V.int p.2)) = true then _ else _
          rw [dec_intR]
          by_cases c : L.getD i 0 = p.2
          · rw [decide_eq_true c, decide_eq_false (fun h => h c)]
            exact ⟨rfl, iteF xe⟩
          · rw [decide_eq_false c, decide_eq_true c]
            refine ⟨rfl, iteT ?_⟩
            refine ⟨_, rfl, _, rfl, by show 2 ≤ sizeLine; decide, fun tq ntq => ?_⟩
            have yq := ext_upd (o := .tup [V.int (L.getD i 0), .int p.1]) ntq
            have htq : (upd H'' tq (.tup [V.int (L.getD i 0), .int p.1])) tq = some (.tup ((pkey (L.getD i 0, p.1)).map kV)) := upd_same
            refine ⟨_, rfl, kd, _, rfl, DGet.t ((xe.trans yq) _ _ hkd6) htq, ?_, xe.trans yq⟩
            dsimp only
            rw [val_kvD]
            exact congrArg V.bl (decide_eq_decide.mpr (Dm _))
        · rw [List.map_map]
          rfl
        · have gr := gen_ready TD kn p
          rw [eL] at gr
          rw [List.length_map, gr]
          have x56 := x6.trans xe
          have hD1' := xe _ _ hD1
          have pe' : Paired (PrO H') es ((left.take c).filter (readyB TD kn)) := Paired.mapP pe fun _ _ h => xe _ _ h
          cases hrd : readyB TD kn p with
          | false =>
            refine iteF ⟨es, hD1', ?_, x56⟩
            rw [tk, List.filter_append, List.filter_cons, if_neg (by rw [hrd]; decide), List.filter_nil, List.append_nil]
            exact pe'
          | true =>
            refine iteT ⟨_, rfl, _, rfl, by show 2 ≤ sizeLine; decide, fun tn ntn => ?_⟩
            have yn := ext_upd (o := .tup [V.int p.1, .int p.2]) ntn
            have hD2 := yn _ _ hD1'
            have tnD : tn ≠ D1 := fun e => by rw [e, hD1'] at ntn; cases ntn
            refine ⟨_, hD2, by rw [List.length_map, sizeLine_eq]; omega, es ++ [tn], by rw [upd_same, List.map_append]; rfl, ?_, ext_new (x56.trans yn) nD1⟩
            rw [tk, List.filter_append, List.filter_cons, if_pos hrd, List.filter_nil]
            have up : ∀ {b : Addr} {q : Int × Int}, PrO (upd H' tn (.tup [V.int p.1, .int p.2])) b q → PrO (upd (upd H' tn (.tup [V.int p.1, .int p.2])) D1 (.lst (es.map V.ref ++ [V.ref tn]))) b q := fun {b q} h => by
              have nb : b ≠ D1 := fun e => by
                have h2 : (upd H' tn (.tup [V.int p.1, .int p.2])) b = some (.tup [.int q.1, .int q.2]) := h
                rw [e, hD2] at h2; cases h2
              show (upd _ D1 _) b = _
              rw [upd_ne nb]; exact h
            exact Paired.app (Paired.mapP pe' fun _ _ h => up (yn _ _ h)) (.cons (up upd_same) .nil)
      · rintro H6 ⟨es, hD1, pe, x6⟩
        rw [List.length_map, pcl, List.take_length] at pe
        dsimp only [gName]
        have RL : PLst H6 D1 (readyL TD left kn) := ⟨es, hD1, pe⟩
        have hla6 := x6 _ _ hla
        have pcs6 : Paired (PrO H6) cs left := Paired.mapP pcs fun _ _ h => x6 _ _ h
        refine .inl ⟨_, rfl, la, rfl, ⟨_, SqL.of hla6⟩, fun D2 nD2 => ?_⟩
        refine W_list (K := K) (a := la) (xs := cs.map V.ref) (fun c H' => ∃ fs : List Addr, H' D2 = some (.lst (fs.map V.ref)) ∧ Paired (PrO H') fs ((left.take c).filter fun p => decide (p ∉ readyL TD left kn)) ∧ Ext H6 H') ⟨[], upd_same, .nil, ext_upd nD2⟩ (fun c H' _ ⟨_, _, _, e⟩ => SqL.of (e _ _ hla6)) ?_ ?_
        · rintro c u H7 hu ⟨fs, hD2, pf, x7⟩
          rw [List.getElem?_map] at hu
          cases hc : cs[c]? with
          | none => rw [hc] at hu; cases hu
          | some cc =>
          rw [hc] at hu; cases hu
          obtain ⟨p, hp, hpo⟩ := Paired.at pcs6 hc
          have hpo7 : PrO H7 cc p := x7 _ _ hpo
          have cl := (List.getElem?_eq_some_iff.mp hp).1
          have tk : left.take (c + 1) = left.take c ++ [p] := by rw [List.take_succ, hp]; rfl
          have fl := pf.length
          have lf := List.length_filter_le (fun p => decide (p ∉ readyL TD left kn)) (left.take c)
          rw [List.length_take] at lf
          refine ⟨rfl, _, rfl, _, rfl, in_pairs (neg := true) hpo7 (RL.ext x7) ⟨_, rfl, ?_⟩⟩
          show if (!decide (p ∈ readyL TD left kn)) = true then _ else _
          by_cases d : p ∈ readyL TD left kn
          · rw [decide_eq_true d]
            refine iteF ⟨fs, hD2, ?_, x7⟩
            rw [tk, List.filter_append, List.filter_cons, if_neg (by rw [decide_eq_true_iff]; exact fun h => h d), List.filter_nil, List.append_nil]
            exact pf
          · rw [decide_eq_false d]
            have up : ∀ {b : Addr} {q : Int × Int}, PrO H7 b q → PrO (upd H7 D2 (.lst (fs.map V.ref ++ [V.ref cc]))) b q := fun {b q} h => by
              have nb : b ≠ D2 := fun e => by
                have h2 : H7 b = some (.tup [.int q.1, .int q.2]) := h
                rw [e, hD2] at h2; cases h2
              show (upd _ D2 _) b = _
              rw [upd_ne nb]; exact h
            refine iteT ⟨_, rfl, _, hD2, by rw [List.length_map, sizeLine_eq]; omega, fs ++ [cc], by rw [upd_same, List.map_append]; rfl, ?_, ext_new x7 nD2⟩
            rw [tk, List.filter_append, List.filter_cons, if_pos (decide_eq_true d), List.filter_nil]
            exact Paired.app (Paired.mapP pf fun _ _ h => up h) (.cons (up hpo7) .nil)
        rintro H7 ⟨fs, hD2, pf, x7⟩
        rw [List.length_map, pcl, List.take_length] at pf
        dsimp only [gName]
        have LL : PLst H7 D2 (laterL TD left kn) := ⟨fs, hD2, pf⟩
        have RL7 := RL.ext x7
        have x57 := x6.trans x7
        have hkd7 := x57 _ _ hkd5
        have htd7 := x57 _ _ htd5
        have pT7 : Paired (fun v ps => ∃ c, v = V.ref c ∧ c ≠ td ∧ H c = none ∧ PLst H7 c ps) rs T := Paired.mapP pT5 fun _ _ ⟨c, e, n, n0, h⟩ => ⟨c, e, n, n0, h.ext x57⟩
        have nD1H : H5 D1 = none := nD1
        have hD1' := x7 _ _ hD1
        have ktd' : td ≠ kd := fun e => ktd e.symm
        have eln := pe.length
        have rll := List.length_filter_le (readyB TD kn) left
        have ll := later_less lv l1 l2 lne
        have split : (readyL TD left kn).length + (laterL TD left kn).length ≤ left.length := by
          unfold laterL readyL
          have : (left.filter fun p => decide (p ∉ left.filter (readyB TD kn))).length ≤ (left.filter fun p => !(readyB TD kn p)).length := by
            refine (List.Sublist.length_le ?_)
            have e : (left.filter fun p => decide (p ∉ left.filter (readyB TD kn))) = left.filter fun p => !(readyB TD kn p) := List.filter_congr fun p hp => by
              rw [Bool.eq_iff_iff, decide_eq_true_iff, List.mem_filter, Bool.not_eq_true']
              constructor
              · intro h
                cases c : readyB TD kn p with
                | false => rfl
                | true => exact absurd ⟨hp, c⟩ h
              · intro h ⟨_, h2⟩
                rw [h] at h2; cases h2
            rw [e]
            exact List.Sublist.refl _
          have h2 : (left.filter (readyB TD kn)).length + (left.filter fun p => !(readyB TD kn p)).length = left.length := by
            rw [← List.countP_eq_length_filter, ← List.countP_eq_length_filter]
            have := List.length_eq_countP_add_countP (readyB TD kn) (l := left)
            simpa using this.symm
          omega
        refine .inl ⟨_, rfl, D1, rfl, ⟨_, SqL.of hD1'⟩, for_list (K := K) (a := D1) (xs := es.map V.ref) (fun c σ' H' => ∃ p6, σ' = [some (.ref a), some (.ref b), some (.ref td), some (.ref D2), some (.ref kd), some (.ref D1), p6, none, none, none] ∧ H' kd = some (.dT (kvD (addD D ((readyL TD left kn).take c)))) ∧ Keep kd H7 H') ⟨_, rfl, hkd7, Keep.refl _ _⟩ (fun c σ' H' _ ⟨_, _, _, k⟩ => SqL.of (k _ _ hD1' fun e => by rw [e, hkd7] at hD1'; cases hD1')) ?_ ?_⟩
        · rintro c u σ' H8 hu ⟨q6, rfl, hkd8, k8⟩
          rw [List.getElem?_map] at hu
          cases hc : es[c]? with
          | none => rw [hc] at hu; cases hu
          | some cc =>
          rw [hc] at hu; cases hu
          obtain ⟨p, hp, hpo⟩ := Paired.at pe hc
          have hpo8 : PrO H8 cc p := (show PrO H7 cc p from x7 _ _ hpo).keepK k8 hkd7
          have hb : H8 cc = some (.tup ((pkey p).map kV)) := hpo8
          have al := addD_len ((readyL TD left kn).take c) D
          rw [List.length_take] at al
          refine ⟨_, rfl, _, rfl, kd, _, rfl, DPut.t hkd8 hb (by unfold kvD; rw [List.length_map, sizeLine_eq]; omega), ⟨_, rfl, ?_, k8.trans Keep.upd⟩⟩
          rw [upd_same, kvD_put, List.take_succ, show (readyL TD left kn)[c]? = some p from hp, ← addD_snoc]
          rfl
        · rintro σ' H8 ⟨q6, rfl, hkd8, k8⟩
          rw [List.length_map, eln, show ((left.filter (readyB TD kn)).length) = (readyL TD left kn).length from rfl, List.take_length] at hkd8
          have htd8 := k8 _ _ htd7 ktd'
          have tl := pT7.length
          have ne2 : D2 ≠ td := fun e => by
            have := x6 _ _ htd5
            rw [← e, nD2] at this; cases this
          have ne1 : D1 ≠ td := fun e => by rw [e, htd5] at nD1; cases nD1
          have kt : Keep td H8 (upd H8 td (.lst (rs ++ [V.ref D1]))) := Keep.upd
          have al := addD_len (readyL TD left kn) D
          have lin := later_in (TD := TD) l1 l2
          refine ⟨_, rfl, .inl ⟨rfl, _, SqL.of htd8⟩, _, rfl, td, _, _, rfl, rfl, htd8, by rw [sizeLine_eq]; omega, D2, laterL TD left kn, kn ++ readyL TD left kn, addD D (readyL TD left kn), rs ++ [.ref D1], T ++ [readyL TD left kn], _, _, rfl, (LL.keepK k8 hkd7).keepL kt htd8 ne2, by rw [upd_ne ktd]; exact hkd8, fun p => by rw [addD_mem, Dm, List.mem_append], by omega, upd_same, ?_, by rw [List.length_append, List.length_singleton]; omega, lin.1, lin.2, fun R r => ?_, fun b o e => ?_, ll⟩
          · exact Paired.app (Paired.mapP pT7 fun _ _ ⟨c, e, n, n0, h⟩ => ⟨c, e, n, n0, (h.keepK k8 hkd7).keepL kt htd8 n⟩) (.cons ⟨D1, rfl, ne1, none_back x5 nD1, (RL7.keepK k8 hkd7).keepL kt htd8 ne1⟩ .nil)
          · rw [List.append_assoc]
            exact hR _ (.cons lne r)
          · have nb : b ≠ td := fun z => by rw [z, ntd] at e; cases e
            have nk : b ≠ kd := fun z => by rw [z, nkH] at e; cases e
            rw [upd_ne nb]
            exact k8 _ _ ((x5.trans x57) _ _ e) nk

end
end My

end
section
set_option linter.all false
set_option maxRecDepth 100000
set_option maxHeartbeats 4000000
set_option Elab.async false
namespace My
open PySem L2
section
variable {P : Program} {w : World} {K : PySem.W.Frag} {mg : Str → Option Value} {base : Heap} {t : Adr} {TB : List Addr} {LB : List (Addr × Str)}
/-! ### tied_bags -/
/-- the numbers tied to one, by the ties in their order -/
def nearL (E : List (Int × Int)) (i : Int) : List Int := (E.filter fun p => decide (p.1 = i ∨ p.2 = i)).map fun p => p.1 + p.2 - i
theorem nearL_snoc {E : List (Int × Int)} {p : Int × Int} {i : Int} : nearL (E ++ [p]) i = nearL E i ++ if p.1 = i ∨ p.2 = i then [p.1 + p.2 - i] else [] := by
  unfold nearL
  rw [List.filter_append, List.map_append, List.filter_cons]
  congr 1
  split <;> rename_i h <;> simp at h <;> simp [h]
/-- a tree of bags: how many, and its ties -/
structure TreeT (K : PySem.W.Frag) (H : Hp) (v : V) (n : Nat) (E : List (Int × Int)) : Prop where
  at_ : ∃ a b c us ts, v = .ref a ∧ SqT K H a [.ref b, .ref c] ∧ SqT K H b us ∧ us.length = n ∧ SqT K H c ts ∧ Paired (fun u (p : Int × Int) => ∃ z, u = V.ref z ∧ PrO H z p) ts E
  few : n ≤ 50
  fewE : E.length ≤ 100
  ins : ∀ p ∈ E, (0 ≤ p.1 ∧ p.1 < (n : Int)) ∧ (0 ≤ p.2 ∧ p.2 < (n : Int)) ∧ p.1 ≠ p.2
/-- the lists of what is tied, each sorted -/
def TiedOk (n : Nat) (E : List (Int × Int)) (TD : List (List Int)) : Prop := TD.length = n ∧ ∀ i : Nat, i < n → (nearOf TD i).Perm (nearL E i) ∧ (nearOf TD i).Pairwise (· ≤ ·)
def spTiedBags (K : PySem.W.Frag) : Sp := fun vs H Q _ => ∃ (v : V) (n : Nat) (E : List (Int × Int)), vs = [v] ∧ TreeT K H v n E ∧ (∀ i : Int, (nearL E i).length < 64) ∧ ∀ (r : Addr) (rs : List V) (TD : List (List Int)) (H' : Hp), Ext H H' → H r = none → H' r = some (.lst rs) → Paired (ILst H') rs TD → TiedOk n E TD → Q (.ref r) H'
theorem sc_tied_bags : FnScope ["tree", "bags", "ties", "told", "bag", "i", "j", "others"] ["tree"] (defScope s_tied_bags) := ⟨rfl, rfl, rfl, by decide +kernel, rfl, by decide +kernel, by decide +kernel⟩
theorem ok_tied_bags {f : Addr} {fd : FuncData} (F : Fun K "tied_bags" "tied_bags" s_tied_bags f fd) (T : Txt K mg t) : FnOk P w K mg base CX0 1 f fd ["tree"] (spTiedBags K) := by
  have nd := sc_tied_bags.nd
  refine F.ok sc_tied_bags (fun vs H Q E h => ?_) (fun cdv A outer s H vs Q E hr h => ?_)
  · obtain ⟨v, n, E', rfl, _⟩ := h
    rfl
  · obtain ⟨v, n, E', rfl, ⟨⟨a, b, c, us, ts, rfl, ha, hb, ul, hc, pt⟩, n50, e100, ein⟩, n64, q⟩ := h
    refine ⟨_, (pss_cons (ps_asg (pv 0) (pg_tup (by rfl) (pgs_cons (pg_name (i := 1) nd rfl (Or.inl rfl)) (pgs_cons (pg_name (i := 2) nd rfl (Or.inl rfl)) pgs_nil)))) (pss_cons (ps_setLc (i := 3) (own := [("bag", 4)]) (by rfl) nd rfl rfl (sw_true rfl rfl rfl (by decide +kernel)) (pi_alt (pi_list (pv 1)) (pi_tup (pv 1))) (blkOk_by (own := [("bag", 4)]) rfl) (fun _ _ _ _ _ => (pg_name (i := 4) nd rfl (Or.inl rfl))) (fun _ _ _ _ _ => pts_nil) (fun _ _ _ _ _ => (pe_lst pa_nil))) (pss_cons (ps_for PassesOwn.never rfl (pi_alt (pi_list (pv 2)) (pi_tup (pv 2))) (pg_tup (by rfl) (pgs_cons (pg_name (i := 5) nd rfl (Or.inl rfl)) (pgs_cons (pg_name (i := 6) nd rfl (Or.inl rfl)) pgs_nil))) (pss_cons (ps_expr (pe_bm PySem.F.plainAttrs_list PySem.F.slot_list_append PySem.F.type_list_append mt_append (pe_ix ix_seq (pv 3) (pv 5) (fun _ _ => rfl)) (pa_cons (pv 6) pa_nil))) (pss_one (ps_expr (pe_bm PySem.F.plainAttrs_list PySem.F.slot_list_append PySem.F.type_list_append mt_append (pe_ix ix_seq (pv 3) (pv 6) (fun _ _ => rfl)) (pa_cons (pv 5) pa_nil)))))) (pss_one (ps_ret (pe_lc (own := [("others", 7)]) (by rfl) nd (pi_alt (pi_list (pv 3)) (pi_tup (pv 3))) (blkOk_by (own := [("others", 7)]) rfl) (fun _ _ _ _ _ => (pg_name (i := 7) nd rfl (Or.inl rfl))) (fun _ _ _ _ _ => pts_nil) (fun _ _ _ _ _ => (pe_callB (cr_sorted2K (K := K) rfl rfl) (by rfl) T.b_sorted (by decide +kernel) (pa_cons (pv 7) pa_nil))))))))), ?_⟩
    refine ⟨_, rfl, a, _, rfl, ha, rfl, _, _, rfl, _, _, rfl, rfl, ?_⟩
    dsimp only [gName]
    refine .inr ⟨_, rfl, b, rfl, ⟨_, hb⟩, fun D nD => ?_⟩
    refine W_tup (K := K) (a := b) (xs := us) (fun i H' => ∃ as : List Addr, H' D = some (.lst (as.map V.ref)) ∧ as.length = i ∧ as.Nodup ∧ (∀ x ∈ as, H' x = some (.lst []) ∧ x ≠ D ∧ H x = none) ∧ Ext H H') ⟨[], upd_same, rfl, .nil, (fun x h => absurd h List.not_mem_nil), ext_upd nD⟩ (fun i H' _ ⟨_, _, _, _, _, e⟩ => e.sqT hb) ?_ ?_
    · rintro i u H1 hu ⟨as, hD, al, and_, ax, x1⟩
      have il := (List.getElem?_eq_some_iff.mp hu).1
      refine ⟨rfl, ?_⟩
      dsimp only [tYes]
      rw [if_pos rfl]
      refine ⟨by show 0 ≤ sizeLine; decide, fun l nl => ?_⟩
      have y1 := ext_upd (o := .lst []) nl
      have hD1 := y1 _ _ hD
      have lD : l ≠ D := fun e => by rw [e, hD] at nl; cases nl
      have lH := none_back x1 nl
      have lne : ∀ x ∈ as, x ≠ l := fun x hx e => by
        have := (ax x hx).1
        rw [e, nl] at this; cases this
      refine ⟨_, hD1, by rw [List.length_map, sizeLine_eq]; omega, as ++ [l], by rw [upd_same, List.map_append]; rfl, by rw [List.length_append, al]; rfl, List.nodup_append.mpr ⟨and_, List.nodup_cons.mpr ⟨List.not_mem_nil, .nil⟩, fun x hx z hz e => lne x hx (by rw [List.mem_singleton.mp hz] at e; exact e)⟩, fun x hx => ?_, ext_new (x1.trans y1) nD⟩
      rcases List.mem_append.mp hx with hx | hx
      · obtain ⟨h1, h2, h3⟩ := ax x hx
        exact ⟨by rw [upd_ne h2, upd_ne (lne x hx)]; exact h1, h2, h3⟩
      · rw [List.mem_singleton.mp hx]
        exact ⟨by rw [upd_ne lD]; exact upd_same, lD, lH⟩
    rintro H1 ⟨as, hD, al, and_, ax, x1⟩
    dsimp only [gName]
    have al : as.length = n := by rw [al, ul]
    have hc1 := x1.sqT hc
    have pt1 : Paired (fun u (p : Int × Int) => ∃ z, u = V.ref z ∧ PrO H1 z p) ts E' := Paired.mapP pt fun _ _ ⟨z, e, h⟩ => ⟨z, e, x1 _ _ h⟩
    have tl := pt.length
    refine .inr ⟨_, rfl, c, rfl, ⟨_, hc1⟩, for_tup (K := K) (a := c) (xs := ts) (fun k σ' H' => ∃ (p5 p6 : Option V), σ' = [some (.ref a), some (.ref b), some (.ref c), some (.ref D), none, p5, p6, none] ∧ H' D = some (.lst (as.map V.ref)) ∧ (∀ (i : Nat) (x : Addr), as[i]? = some x → H' x = some (.lst ((nearL (E'.take k) i).map V.int))) ∧ Ext H H') ⟨_, _, rfl, hD, fun i x hx => ?_, x1⟩ (fun k σ' H' _ ⟨_, _, _, _, _, e⟩ => e.sqT hc) ?_ ?_⟩
    · rw [List.take_zero]
      exact (ax x (List.mem_of_getElem? hx)).1
    · rintro k u σ' H2 hu ⟨p5, p6, rfl, hD2, hx2, x2⟩
      obtain ⟨p, hp, ⟨ua, rfl, hua⟩⟩ := Paired.at pt hu
      obtain ⟨i1, i2, ne⟩ := ein p (List.mem_of_getElem? hp)
      have kl := (List.getElem?_eq_some_iff.mp hp).1
      have tk : E'.take (k + 1) = E'.take k ++ [p] := by rw [List.take_succ, hp]; rfl
      have hua2 : SqT K H2 ua [V.int p.1, .int p.2] := SqT.of (x2 _ _ hua)
      refine ⟨ua, _, rfl, hua2, rfl, _, _, rfl, _, _, rfl, rfl, ?_⟩
      dsimp only [gName]
      obtain ⟨z1, hz1⟩ : ∃ z, as[p.1.toNat]? = some z := ⟨_, List.getElem?_eq_getElem (by omega)⟩
      obtain ⟨z2, hz2⟩ : ∃ z, as[p.2.toNat]? = some z := ⟨_, List.getElem?_eq_getElem (by omega)⟩
      have e1 : ((p.1.toNat : Nat) : Int) = p.1 := by omega
      have e2 : ((p.2.toNat : Nat) : Int) = p.2 := by omega
      have z12 : z1 ≠ z2 := fun e => by
        rw [e] at hz1
        have := (List.getElem?_inj (by omega) and_).mp (hz1.trans hz2.symm)
        omega
      have at1 : atI (as.map V.ref) p.1 = some (.ref z1) := by
        rw [← e1]; refine atI_nat ?_; rw [List.getElem?_map, hz1]; rfl
      have at2 : atI (as.map V.ref) p.2 = some (.ref z2) := by
        rw [← e2]; refine atI_nat ?_; rw [List.getElem?_map, hz2]; rfl
      have h1 := hx2 _ _ hz1
      have h2 := hx2 _ _ hz2
      rw [e1] at h1
      rw [e2] at h2
      have zD1 := (ax z1 (List.mem_of_getElem? hz1)).2
      have zD2 := (ax z2 (List.mem_of_getElem? hz2)).2
      have nfew : ∀ i, (nearL (E'.take k) i).length ≤ 100 := fun i => by
        unfold nearL
        rw [List.length_map]
        have := List.length_filter_le (fun p : Int × Int => decide (p.1 = i ∨ p.2 = i)) (E'.take k)
        rw [List.length_take] at this
        omega
      have f1 := nfew p.1
      have f2 := nfew p.2
      refine ⟨_, rfl, _, rfl, .inl ⟨D, _, p.1, .ref z1, rfl, rfl, SqL.of hD2, at1, .inl ⟨rfl, _, SqL.of h1⟩, _, rfl, z1, _, _, rfl, rfl, h1, by rw [List.length_map, sizeLine_eq]; omega, ?_⟩⟩
      have hD3 : (upd H2 z1 (.lst ((nearL (E'.take k) p.1).map V.int ++ [V.int p.2]))) D = some (.lst (as.map V.ref)) := by rw [upd_ne (Ne.symm zD1.1)]; exact hD2
      have h23 : (upd H2 z1 (.lst ((nearL (E'.take k) p.1).map V.int ++ [V.int p.2]))) z2 = some (.lst ((nearL (E'.take k) p.2).map V.int)) := by rw [upd_ne (Ne.symm z12)]; exact h2
      have h13 : (upd H2 z1 (.lst ((nearL (E'.take k) p.1).map V.int ++ [V.int p.2]))) z1 = some (.lst ((nearL (E'.take k) p.1).map V.int ++ [V.int p.2])) := upd_same
      have ho3 : ∀ x, x ≠ z1 → (upd H2 z1 (.lst ((nearL (E'.take k) p.1).map V.int ++ [V.int p.2]))) x = H2 x := fun x h => upd_ne h
      have x3 : Ext H (upd H2 z1 (.lst ((nearL (E'.take k) p.1).map V.int ++ [V.int p.2]))) := ext_new x2 zD1.2
      generalize upd H2 z1 (.lst ((nearL (E'.take k) p.1).map V.int ++ [V.int p.2])) = H3 at *
      refine ⟨_, rfl, _, rfl, .inl ⟨D, _, p.2, .ref z2, rfl, rfl, SqL.of hD3, at2, .inl ⟨rfl, _, SqL.of h23⟩, _, rfl, z2, _, _, rfl, rfl, h23, by rw [List.length_map, sizeLine_eq]; omega, _, _, rfl, by rw [upd_ne (Ne.symm zD2.1)]; exact hD3, fun i x hx => ?_, ext_new x3 zD2.2⟩⟩
      have ii := (List.getElem?_eq_some_iff.mp hx).1
      rw [tk, nearL_snoc, List.map_append]
      by_cases c2 : x = z2
      · subst c2
        have ei : i = p.2.toNat := (List.getElem?_inj ii and_).mp (hx.trans hz2.symm)
        rw [upd_same, ei, e2, if_pos (.inr rfl)]
        show some (HO.lst (_ ++ [V.int p.1])) = some (HO.lst (_ ++ [V.int (p.1 + p.2 - p.2)]))
        rw [show p.1 + p.2 - p.2 = p.1 by omega]
      · rw [upd_ne c2]
        by_cases c1 : x = z1
        · subst c1
          have ei : i = p.1.toNat := (List.getElem?_inj ii and_).mp (hx.trans hz1.symm)
          rw [h13, ei, e1, if_pos (.inl rfl)]
          show some (HO.lst (_ ++ [V.int p.2])) = some (HO.lst (_ ++ [V.int (p.1 + p.2 - p.1)]))
          rw [show p.1 + p.2 - p.1 = p.2 by omega]
        · rw [ho3 x c1, hx2 i x hx, if_neg (fun h => ?_)]
          · simp
          · rcases h with h | h
            · exact c1 (by
                have : as[i]? = some z1 := by rw [show i = p.1.toNat by omega]; exact hz1
                rw [hx] at this; exact Option.some.inj this)
            · exact c2 (by
                have : as[i]? = some z2 := by rw [show i = p.2.toNat by omega]; exact hz2
                rw [hx] at this; exact Option.some.inj this)
    · rintro σ' H2 ⟨p5, p6, rfl, hD2, hx2, x2⟩
      rw [tl, List.take_length] at hx2
      refine .inl ⟨_, rfl, D, rfl, ⟨_, SqL.of hD2⟩, fun D2 nD2 => ?_⟩
      refine W_list (K := K) (a := D) (xs := as.map V.ref) (fun k H' => ∃ (rs : List V) (TD : List (List Int)), H' D2 = some (.lst rs) ∧ Paired (fun u L => ILst H' u L ∧ u ≠ .ref D2) rs TD ∧ TD.length = k ∧ (∀ i : Nat, i < k → (nearOf TD i).Perm (nearL E' i) ∧ (nearOf TD i).Pairwise (· ≤ ·)) ∧ Ext H2 H') ⟨[], [], upd_same, .nil, rfl, (fun i h => by omega), ext_upd nD2⟩ (fun k H' _ ⟨_, _, _, _, _, _, e⟩ => SqL.of (e _ _ hD2)) ?_ ?_
      · rintro k u H3 hu ⟨rs, TD, hD3, pr, tdl, tdo, x3⟩
        rw [List.getElem?_map] at hu
        cases hz : as[k]? with
        | none => rw [hz] at hu; cases hu
        | some z =>
        rw [hz] at hu; cases hu
        have kl := (List.getElem?_eq_some_iff.mp hz).1
        have hzv := x3 _ _ (hx2 k z hz)
        have rl := pr.length
        refine ⟨rfl, ?_⟩
        dsimp only [tYes]
        rw [if_pos rfl]
        refine ⟨_, rfl, z, _, rfl, .inl (SqL.of hzv), n64 _, fun ms q1 pm pw nq1 => ?_⟩
        have y4 := ext_upd (o := .lst (ms.map V.int)) nq1
        have hD4 := y4 _ _ hD3
        have q1D : q1 ≠ D2 := fun e => by rw [e, hD3] at nq1; cases nq1
        have keep : ∀ {u : V} {L : List Int}, ILst (upd H3 q1 (.lst (ms.map V.int))) u L → u ≠ .ref D2 → ILst (upd (upd H3 q1 (.lst (ms.map V.int))) D2 (.lst (rs ++ [V.ref q1]))) u L := fun {u L} ⟨b, e, hb⟩ ne => ⟨b, e, by rw [upd_ne (fun z => ne (by rw [e, z]))]; exact hb⟩
        refine ⟨_, hD4, by rw [rl, sizeLine_eq]; omega, rs ++ [.ref q1], TD ++ [ms], upd_same, Paired.app (Paired.mapP pr fun _ _ ⟨h, ne⟩ => ⟨keep (h.ext y4) ne, ne⟩) (.cons ⟨keep ⟨q1, rfl, upd_same⟩ (fun e => q1D (V.ref.inj e)), fun e => q1D (V.ref.inj e)⟩ .nil), by rw [List.length_append, tdl]; rfl, fun i hi => ?_, ext_new (x3.trans y4) nD2⟩
        by_cases c : i < k
        · have e : nearOf (TD ++ [ms]) i = nearOf TD i := by
            unfold nearOf
            rw [Int.toNat_natCast, List.getD_eq_getElem?_getD, List.getElem?_append_left (by omega), ← List.getD_eq_getElem?_getD]
          rw [e]
          exact tdo i c
        · have ei : i = k := by omega
          have e : nearOf (TD ++ [ms]) i = ms := by
            unfold nearOf
            rw [Int.toNat_natCast, List.getD_eq_getElem?_getD, List.getElem?_append_right (by omega), ei, tdl, Nat.sub_self]
            rfl
          rw [e, ei]
          exact ⟨pm, pw⟩
      · rintro H3 ⟨rs, TD, hD3, pr, tdl, tdo, x3⟩
        rw [List.length_map, al] at tdl tdo
        exact q D2 rs TD H3 (x2.trans x3) (none_back x2 nD2) hD3 (Paired.mapP pr fun _ _ h => h.1) ⟨tdl, tdo⟩

end
end My

end
section
set_option linter.all false
set_option maxRecDepth 100000
set_option maxHeartbeats 4000000
set_option Elab.async false
namespace My
open PySem L2
section
variable {P : Program} {w : World} {K : PySem.W.Frag} {mg : Str → Option Value} {base : Heap} {t : Adr} {TB : List Addr} {LB : List (Addr × Str)}
/-! ### dir_maths -/
def swapP (p : Int × Int) : Int × Int := (p.2, p.1)
/-- the ties, both ways -/
def dirE (E : List (Int × Int)) : List (Int × Int) := E ++ E.map swapP
def waysR (TD : List (List Int)) (i : Nat) : List (Int × Int) := (TD.getD i []).map fun j => ((i : Int), j)
def waysL (TD : List (List Int)) : List (Int × Int) := (List.range TD.length).flatMap (waysR TD)
theorem flat_perm {α β : Type} {f g : α → List β} : ∀ l : List α, (∀ x ∈ l, (f x).Perm (g x)) → (l.flatMap f).Perm (l.flatMap g)
  | [], _ => .nil
  | x :: l, h => by
    rw [List.flatMap_cons, List.flatMap_cons]
    exact (h x (List.mem_cons_self ..)).append (flat_perm l fun y hy => h y (List.mem_cons_of_mem _ hy))
theorem flat_app {α β : Type} {f g : α → List β} : ∀ l : List α, (l.flatMap fun x => f x ++ g x).Perm (l.flatMap f ++ l.flatMap g)
  | [] => .nil
  | x :: l => by
    rw [List.flatMap_cons, List.flatMap_cons, List.flatMap_cons]
    refine ((List.Perm.refl _).append (flat_app l)).trans ?_
    rw [List.append_assoc, List.append_assoc]
    refine (List.Perm.refl _).append ?_
    rw [← List.append_assoc, ← List.append_assoc]
    exact List.perm_append_comm.append (List.Perm.refl _)
theorem flat_nil {α β : Type} {f : α → List β} : ∀ l : List α, (∀ x ∈ l, f x = []) → l.flatMap f = []
  | [], _ => rfl
  | x :: l, h => by rw [List.flatMap_cons, h x (List.mem_cons_self ..), flat_nil l fun y hy => h y (List.mem_cons_of_mem _ hy)]; rfl
/-- one place of a range alone -/
theorem flat_one {β : Type} {x : β} {k : Nat} : ∀ n : Nat, k < n → (List.range n).flatMap (fun i => if i = k then [x] else []) = [x]
  | 0, h => by omega
  | n + 1, h => by
    rw [List.range_succ, List.flatMap_append, List.flatMap_singleton]
    by_cases c : k = n
    · rw [if_pos c.symm, flat_nil _ fun i hi => if_neg fun e => by have := List.mem_range.mp hi; omega]
      rfl
    · rw [if_neg (Ne.symm c), flat_one n (by omega), List.append_nil]
theorem near_cons {E : List (Int × Int)} {p : Int × Int} {i : Int} : nearL (p :: E) i = (if p.1 = i ∨ p.2 = i then [p.1 + p.2 - i] else []) ++ nearL E i := by
  unfold nearL
  rw [List.filter_cons]
  by_cases c : p.1 = i ∨ p.2 = i
  · rw [if_pos (decide_eq_true c), if_pos c]; rfl
  · rw [if_neg (by rw [decide_eq_false c]; decide), if_neg c]; rfl
theorem near_dir {n : Nat} : ∀ E : List (Int × Int), (∀ p ∈ E, (0 ≤ p.1 ∧ p.1 < (n : Int)) ∧ (0 ≤ p.2 ∧ p.2 < (n : Int)) ∧ p.1 ≠ p.2) → ((List.range n).flatMap fun i : Nat => (nearL E (i : Int)).map fun j => ((i : Int), j)).Perm (dirE E)
  | [], _ => by
    have e : ((List.range n).flatMap fun i : Nat => (nearL [] (i : Int)).map fun j => ((i : Int), j)) = [] := flat_nil _ fun _ _ => rfl
    rw [e]
    exact .nil
  | p :: E, h => by
    obtain ⟨⟨a1, a2⟩, ⟨b1, b2⟩, ne⟩ := h p (List.mem_cons_self ..)
    have ih := near_dir E fun q hq => h q (List.mem_cons_of_mem _ hq)
    have e : ∀ i ∈ List.range n, ((nearL (p :: E) (i : Int)).map fun j => ((i : Int), j)).Perm (((if i = p.1.toNat then [p] else []) ++ if i = p.2.toNat then [swapP p] else []) ++ (nearL E (i : Int)).map fun j => ((i : Int), j)) := fun i _ => by
      rw [near_cons, List.map_append]
      refine List.Perm.append ?_ (List.Perm.refl _)
      by_cases c1 : p.1 = i
      · rw [if_pos (.inl c1), if_pos (by omega), if_neg (by omega)]
        have : p = ((i : Int), p.1 + p.2 - i) := Prod.ext c1 (by show p.2 = _; omega)
        rw [List.map_singleton, ← this]
        exact List.Perm.refl _
      · by_cases c2 : p.2 = i
        · rw [if_pos (.inr c2), if_neg (by omega), if_pos (by omega)]
          have : swapP p = ((i : Int), p.1 + p.2 - i) := Prod.ext c2 (by show p.1 = _; omega)
          rw [List.map_singleton, ← this]
          exact List.Perm.refl _
        · rw [if_neg (fun h => h.elim c1 c2), if_neg (by omega), if_neg (by omega)]
          exact List.Perm.refl _
    refine (flat_perm _ e).trans ?_
    refine (flat_app _).trans ?_
    refine ((flat_app _).append ih).trans ?_
    rw [flat_one n (by omega), flat_one n (by omega)]
    unfold dirE
    show ([p] ++ [swapP p] ++ (E ++ E.map swapP)).Perm (p :: E ++ swapP p :: E.map swapP)
    refine List.Perm.cons p ?_
    show (swapP p :: (E ++ E.map swapP)).Perm (E ++ swapP p :: E.map swapP)
    exact List.perm_middle.symm
theorem ways_perm {n : Nat} {E : List (Int × Int)} {TD : List (List Int)} (h : TiedOk n E TD) (hin : ∀ p ∈ E, (0 ≤ p.1 ∧ p.1 < (n : Int)) ∧ (0 ≤ p.2 ∧ p.2 < (n : Int)) ∧ p.1 ≠ p.2) : (waysL TD).Perm (dirE E) := by
  unfold waysL
  rw [h.1]
  refine (flat_perm _ fun i hi => ?_).trans (near_dir E hin)
  exact (h.2 i (List.mem_range.mp hi)).1.map _
theorem ways_len {TD : List (List Int)} : ∀ i, ((List.range (i + 1)).flatMap (waysR TD)).length = ((List.range i).flatMap (waysR TD)).length + (TD.getD i []).length := fun i => by
  rw [List.range_succ, List.flatMap_append, List.flatMap_singleton, List.length_append]
  unfold waysR
  rw [List.length_map]
theorem ways_le {TD : List (List Int)} {i n : Nat} (h : i ≤ n) : ((List.range i).flatMap (waysR TD)).length ≤ ((List.range n).flatMap (waysR TD)).length := by
  induction n with
  | zero => rw [Nat.le_zero.mp h]; exact Nat.le_refl _
  | succ n ih =>
    by_cases c : i = n + 1
    · rw [c]; exact Nat.le_refl _
    · have := ih (by omega)
      rw [ways_len]
      omega
theorem pairLe_anti {p q : Int × Int} (h1 : pairLe p q) (h2 : pairLe q p) : p = q := by
  unfold pairLe at h1 h2
  obtain ⟨a, b⟩ := p
  obtain ⟨c, d⟩ := q
  simp only [lexI] at h1 h2
  have ac : a = c := by
    by_cases c1 : c < a
    · rw [decide_eq_true c1] at h1; cases h1
    · by_cases c2 : a < c
      · rw [decide_eq_true c2] at h2; cases h2
      · omega
  subst ac
  rw [decide_eq_false (Int.lt_irrefl a)] at h1 h2
  have bd : b = d := by
    by_cases c1 : d < b
    · rw [decide_eq_true c1] at h1; cases h1
    · by_cases c2 : b < d
      · rw [decide_eq_true c2] at h2; cases h2
      · omega
  rw [bd]
theorem sorted_one : ∀ {l m : List (Int × Int)}, l.Perm m → l.Pairwise pairLe → m.Pairwise pairLe → l = m
  | [], m, h, _, _ => (List.nil_perm.mp h).symm
  | x :: l, m, h, hl, hm => by
    cases m with
    | nil => exact absurd h.length_eq (by simp)
    | cons y m =>
      rw [List.pairwise_cons] at hl hm
      have e : x = y := by
        rcases List.mem_cons.mp (h.mem_iff.mp (List.mem_cons_self ..)) with e | hx
        · exact e
        · rcases List.mem_cons.mp (h.mem_iff.mpr (List.mem_cons_self ..)) with e | hy
          · exact e.symm
          · exact pairLe_anti (hl.1 _ hy) (hm.1 _ hx)
      subst e
      rw [sorted_one (List.perm_cons x |>.mp h) hl.2 hm.2]

/-! ### rounds -/
/-- the rounds of a tree's letters, found -/
def spRounds (K : PySem.W.Frag) (TB : List Addr) : Sp := fun vs H Q _ => ∃ (v : V) (n : Nat) (E : List (Int × Int)), vs = [v] ∧ TreeT K H v n E ∧ (∀ i : Int, (nearL E i).length < 64) ∧ (∀ TD W, TiedOk n E TD → (∀ p, p ∈ W ↔ p ∈ dirE E) → Live TD W) ∧ (∀ Pt ∈ TB, H Pt = some (TblO Pt)) ∧
  ∀ (r : Addr) (rs : List V) (TD : List (List Int)) (S : List (Int × Int)) (R : List (List (Int × Int))) (H' : Hp), Ext H H' → H r = none → H' r = some (.lst rs) → Paired (fun v ps => ∃ c, v = .ref c ∧ H c = none ∧ PLst H' c ps) rs R → TiedOk n E TD → S.Perm (dirE E) → S.Pairwise pairLe → Rounds TD S [] R → Q (.ref r) H'
theorem sc_rounds : FnScope ["tree", "tied", "j", "i", "others"] ["tree"] (defScope s_rounds) := ⟨rfl, rfl, rfl, by decide +kernel, rfl, by decide +kernel, by decide +kernel⟩
theorem ok_rounds {TB : List Addr} {f : Addr} {fd fdt fdi : FuncData} (F : Fun K "rounds" "rounds" s_rounds f fd) (T : Txt K mg t) (G_tied_bags : FnOk P w K mg base CX0 1 t.f_tied_bags fdt ["tree"] (spTiedBags K)) (B_tied_bags : Binds K fdt ["tree"] []) (G_in_rounds : FnOk P w K mg base CX0 4 t.f_in_rounds fdi ["tied", "ways"] (spInRounds K TB)) (B_in_rounds : Binds K fdi ["tied", "ways"] []) : FnOk P w K mg base CX0 5 f fd ["tree"] (spRounds K TB) := by
  have nd := sc_rounds.nd
  refine F.ok sc_rounds (fun vs H Q E h => ?_) (fun cdv A outer s H vs Q E hr h => ?_)
  · obtain ⟨v, n, E', rfl, _⟩ := h
    rfl
  · obtain ⟨v, n, E', rfl, tt, n64, lv, htb, q⟩ := h
    refine ⟨_, (pss_cons (ps_set (i := 1) nd rfl (Or.inl rfl) (pe_call G_tied_bags (hr.mono (by first | decide | omega)) (by rfl) T.m_tied_bags T.k_tied_bags B_tied_bags .nil pass0 (pa_cons (pv 0) pa_nil))) (pss_one (ps_ret (pe_call G_in_rounds (hr.mono (by first | decide | omega)) (by rfl) T.m_in_rounds T.k_in_rounds B_in_rounds .nil pass0 (pa_cons (pv 1) (pa_cons (pe_lc2 (own := [("i", 3), ("others", 4), ("j", 2)]) (vs1 := [2]) (by rfl) nd (pi_enum (by rfl) T.b_enumerate (pa_cons (pv 1) pa_nil)) (blkOk_by (own := [("i", 3), ("others", 4), ("j", 2)]) rfl) (by decide) (fun _ _ _ _ _ => (pg_tupK (K := K) (n := 2) rfl rfl (pgs_cons (pg_name (i := 3) nd rfl (Or.inl rfl)) (pgs_cons (pg_name (i := 4) nd rfl (Or.inl rfl)) pgs_nil)))) (fun _ _ _ _ _ => pts_nil) (fun _ _ _ _ _ => (pi_alt (pi_listK (K := K) rfl (pv 4)) (pi_tupK (K := K) rfl (pv 4)))) (fun _ _ _ _ _ => (pg_name (i := 2) nd rfl (Or.inl rfl))) (fun _ _ _ _ _ => pts_nil) (fun _ _ _ _ _ => (pe_tup (pa_cons (pv 3) (pa_cons (pv 2) pa_nil))))) pa_nil)))))), ?_⟩
    refine ⟨_, rfl, v, n, E', rfl, tt, n64, fun a us TD H1 x1 na ha pu tok => ?_⟩
    have wp := ways_perm tok tt.ins
    have ul := pu.length
    have wl : (waysL TD).length ≤ 200 := by
      rw [wp.length_eq]
      unfold dirE
      rw [List.length_append, List.length_map]
      have := tt.fewE
      omega
    refine ⟨_, rfl, _, rfl, a, _, rfl, SqL.of ha, fun D nD => ?_⟩
    refine W_enumL (K := K) (a := a) (xs := us) (fun i H' => ∃ as : List Addr, H' D = some (.lst (as.map V.ref)) ∧ Paired (PrO H') as ((List.range i).flatMap (waysR TD)) ∧ Ext H1 H') ⟨[], upd_same, .nil, ext_upd nD⟩ (fun i H' _ ⟨_, _, _, x⟩ => SqL.of (x _ _ ha)) ?_ ?_
    · rintro i x T H2 hx ⟨as, hD, pa, x2⟩ nT
      obtain ⟨ns, hns, ⟨c, rfl, hc⟩⟩ := Paired.at pu hx
      have hi := (List.getElem?_eq_some_iff.mp hns).1
      have y1 := ext_upd (o := .tup [.int (i : Nat), V.ref c]) nT
      have hT : SqT K (upd H2 T (.tup [.int (i : Nat), V.ref c])) T [.int (i : Nat), V.ref c] := SqT.of upd_same
      have hD1 := y1 _ _ hD
      have pa1 : Paired (PrO (upd H2 T (.tup [.int (i : Nat), V.ref c]))) as ((List.range i).flatMap (waysR TD)) := Paired.mapP pa fun _ _ h => y1 _ _ h
      have x3 := x2.trans y1
      generalize upd H2 T (.tup [.int (i : Nat), V.ref c]) = H3 at *
      refine ⟨T, _, rfl, hT, rfl, _, _, rfl, _, _, rfl, rfl, rfl, ?_⟩
      dsimp only [tYes]
      rw [if_pos rfl]
      have hc2 := x3 _ _ hc
      have eg : TD.getD i [] = ns := by rw [List.getD_eq_getElem?_getD, hns]; rfl
      have few := ways_le (TD := TD) (show i + 1 ≤ TD.length from hi)
      rw [ways_len, eg] at few
      have few : ((List.range i).flatMap (waysR TD)).length + ns.length ≤ 200 := Nat.le_trans few wl
      refine .inl ⟨_, rfl, c, rfl, ⟨_, SqL.of hc2⟩, W_list (K := K) (a := c) (xs := ns.map V.int) (fun j H' => ∃ as : List Addr, H' D = some (.lst (as.map V.ref)) ∧ Paired (PrO H') as ((List.range i).flatMap (waysR TD) ++ (ns.take j).map fun y => ((i : Int), y)) ∧ Ext H1 H') ⟨as, hD1, by rw [List.take_zero, List.map_nil, List.append_nil]; exact pa1, x3⟩ (fun j H' _ ⟨_, _, _, x⟩ => SqL.of (x _ _ hc)) ?_ ?_⟩
      · rintro j x H4 hx4 ⟨bs, hD4, pb, x4⟩
        obtain ⟨y, hy, rfl⟩ := int_at hx4
        have lb := pb.length
        rw [List.length_append, List.length_map, List.length_take] at lb
        have tk : ns.take (j + 1) = ns.take j ++ [y] := by rw [List.take_succ, hy]; rfl
        refine ⟨rfl, ?_⟩
        dsimp only [tYes]
        rw [if_pos rfl]
        refine ⟨_, rfl, _, rfl, (by show 2 ≤ sizeLine; decide), fun p np => ?_⟩
        have y4 := ext_upd (o := .tup [V.int (i : Nat), V.int y]) np
        have hD5 := y4 _ _ hD4
        have up : ∀ {b : Addr} {q : Int × Int}, PrO (upd H4 p (.tup [V.int (i : Nat), V.int y])) b q → PrO (upd (upd H4 p (.tup [V.int (i : Nat), V.int y])) D (.lst (bs.map V.ref ++ [V.ref p]))) b q := fun {b q} h => by
          have nb : b ≠ D := fun e => by
            have h2 : (upd H4 p (.tup [V.int (i : Nat), V.int y])) b = some (.tup [.int q.1, .int q.2]) := h
            rw [e, hD5] at h2; cases h2
          show (upd _ D _) b = _
          rw [upd_ne nb]; exact h
        refine ⟨_, hD5, by rw [List.length_map, sizeLine_eq]; omega, bs ++ [p], by rw [upd_same, List.map_append]; rfl, ?_, ext_new (x4.trans y4) nD⟩
        rw [tk, List.map_append, ← List.append_assoc]
        exact Paired.app (Paired.mapP pb fun _ _ h => up (y4 _ _ h)) (.cons (up (q := ((i : Int), y)) upd_same) .nil)
      · rintro H4 ⟨bs, hD4, pb, x4⟩
        refine ⟨bs, hD4, ?_, x4⟩
        rw [List.length_map, List.take_length] at pb
        rw [List.range_succ, List.flatMap_append, List.flatMap_singleton]
        unfold waysR at pb ⊢
        rw [eg]
        exact pb
    · rintro H2 ⟨as, hD, pa, x2⟩
      rw [ul] at pa
      have x12 := x1.trans x2
      refine ⟨a, D, us, TD, waysL TD, rfl, x2 _ _ ha, Paired.mapP pu fun _ _ h => h.ext x2, ⟨as, hD, pa⟩, by omega, fun p hp => ?_, lv TD _ tok fun p => wp.mem_iff, fun Pt hPt => x12 _ _ (htb Pt hPt), fun r rs S R H3 x3 nr hr3 pR sp sw rr => q r rs TD S R H3 (x12.trans x3) (none_back x12 nr) hr3 (Paired.mapP pR fun _ _ ⟨c, e, n0, h⟩ => ⟨c, e, none_back x12 n0, h⟩) tok (sp.trans wp) sw rr⟩
      obtain ⟨i, hi, hp⟩ := List.mem_flatMap.mp hp
      obtain ⟨y, _, rfl⟩ := List.mem_map.mp hp
      have := List.mem_range.mp hi
      exact ⟨by show (0 : Int) ≤ (i : Int); omega, by show (i : Int) < _; omega⟩

end
end My

end
section
set_option linter.all false
set_option maxRecDepth 100000
set_option maxHeartbeats 4000000
set_option Elab.async false
namespace My
open PySem L2
section
variable {P : Program} {w : World} {K : PySem.W.Frag} {mg : Str → Option Value} {base : Heap} {t : Adr} {TB : List Addr} {LB : List (Addr × Str)}
/-! ### _law_gprime -/

theorem sc__law_gprime : FnScope ["at", "some"] ["at"] (defScope s__law_gprime) := ⟨rfl, rfl, rfl, by decide +kernel, rfl, by decide +kernel, by decide +kernel⟩
theorem ok__law_gprime {f : Addr} {fd : FuncData} (F : Fun K "_law_gprime" "_law_gprime" s__law_gprime f fd) (T : Txt K mg t) : FnOk P w K mg base CX0 1 f fd ["at"] spPrime := by
  have nd := sc__law_gprime.nd
  refine F.ok sc__law_gprime (fun vs H Q E h => ?_) (fun cdv A outer s H vs Q E hr h => ?_)
  · obtain ⟨n, rfl, _⟩ := h
    rfl
  · obtain ⟨n, rfl, h0, q⟩ := h
    refine ⟨_, (pss_cons (ps_set (i := 1) nd rfl (Or.inl rfl) (pe_lst (pa_const rfl))) (pss_one (ps_ret (pe_ix ix_list (pe_op op_cat (pv 1) (pe_lst (pa_const rfl))) (pe_op op_mod (pv 0) pe_int) (fun _ _ => rfl))))), ?_⟩
    refine ⟨(by show 7 ≤ sizeLine; decide), fun l n1 => ?_⟩
    refine ⟨_, rfl, (by show 2 ≤ sizeLine; decide), fun l2 n2 => ?_⟩
    have hne : l ≠ l2 := fun z => by rw [← z, upd_same] at n2; cases n2
    refine ⟨l, l2, _, _, rfl, rfl, by rw [upd_ne hne, upd_same], upd_same, (by show 9 ≤ sizeLine; decide), fun l3 n3 => ?_⟩
    refine ⟨_, rfl, _, _, rfl, rfl, (by show (0 : Int) < 9; decide), ?_⟩
    have hm0 : 0 ≤ n % 9 := Int.emod_nonneg _ (by decide)
    have hm1 : n % 9 < 9 := Int.emod_lt_of_pos _ (by decide)
    have ext : Ext H (upd (upd (upd H l (.lst [V.int 2147483647, V.int 2147483629, V.int 2147483587, V.int 2147483579, V.int 2147483563, V.int 2147483549, V.int 2147483543])) l2 (.lst [V.int 2147483497, V.int 2147483489])) l3
      (.lst ([V.int 2147483647, V.int 2147483629, V.int 2147483587, V.int 2147483579, V.int 2147483563, V.int 2147483549, V.int 2147483543] ++ [V.int 2147483497, V.int 2147483489]))) := ((ext_upd n1).upd n2).upd n3
    have cases11 : n % 9 = 0 ∨ n % 9 = 1 ∨ n % 9 = 2 ∨ n % 9 = 3 ∨ n % 9 = 4 ∨ n % 9 = 5 ∨ n % 9 = 6 ∨ n % 9 = 7 ∨ n % 9 = 8 := by omega
    rcases cases11 with e | e | e | e | e | e | e | e | e
    all_goals exact ⟨l3, _, _, _, rfl, congrArg V.int e, SqL.of upd_same, rfl, q _ _ (by decide) (by decide) ext⟩

/-! ### _law_gfresh -/

def spFresh : Sp := fun vs H Q _ => ∃ (j : Addr) (m : Nat), vs = [.ref j] ∧ ∃ lj : Addr, Jr H j lj m ∧ m ≤ 1000000 ∧ ∀ (r : Int) (H' : Hp), 0 ≤ r → Jr H' j lj (m + 1) → Keep j H H' → Q (.int r) H'
theorem sc__law_gfresh : FnScope ["tape", "at", "cell", "one", "two", "three"] ["tape"] (defScope s__law_gfresh) := ⟨rfl, rfl, rfl, by decide +kernel, rfl, by decide +kernel, by decide +kernel⟩
theorem ok__law_gfresh {f : Addr} {fd fdp : FuncData} (F : Fun K "_law_gfresh" "_law_gfresh" s__law_gfresh f fd) (T : Txt K mg t) (G__law_gprime : FnOk P w K mg base CX0 1 t.f__law_gprime fdp ["at"] spPrime) (B__law_gprime : Binds K fdp ["at"] []) : FnOk P w K mg base CX0 2 f fd ["tape"] spFresh := by
  have nd := sc__law_gfresh.nd
  refine F.ok sc__law_gfresh (fun vs H Q E h => ?_) (fun cdv A outer s H vs Q E hr h => ?_)
  · obtain ⟨j, m, rfl, _⟩ := h
    rfl
  · obtain ⟨j, m, rfl, l, ⟨ns, d, c, hj, hl, hlj, hd, hc⟩, hm, q⟩ := h
    refine ⟨_, (pss_cons (ps_set (i := 1) nd rfl (Or.inl rfl) (pe_ix ix_seq (pv 0) pe_int (fun _ _ => rfl))) (pss_cons (ps_asg (pe_op op_add (pv 1) pe_int) (pg_sub (pv 0) pe_int set_list)) (pss_cons (ps_set (i := 2) nd rfl (Or.inl rfl) (pe_op op_add (pe_op op_mul pe_int (pv 1)) pe_int)) (pss_cons (ps_if (pt_cmpR op_lt (pv 1) (pe_callB call_len_seq (by rfl) T.b_len (by decide +kernel) (pa_cons (pe_ix ix_seq (pv 0) pe_int (fun _ _ => rfl)) pa_nil)) (nomark _)) (pss_one (ps_set (i := 2) nd rfl (Or.inl rfl) (pe_ix ix_seq (pe_ix ix_seq (pv 0) pe_int (fun _ _ => rfl)) (pv 1) (fun _ _ => rfl)))) (pss_one (ps_if (pt_cmpR op_gt (pe_callB call_len_seq (by rfl) T.b_len (by decide +kernel) (pa_cons (pe_ix ix_seq (pv 0) pe_int (fun _ _ => rfl)) pa_nil)) pe_int (nomark _)) (pss_one (ps_set (i := 2) nd rfl (Or.inl rfl) (pe_op op_add (pe_op op_mul (pe_op op_mod (pe_ix ix_seq (pe_ix ix_seq (pv 0) pe_int (fun _ _ => rfl)) (pe_op op_mod (pv 1) (pe_callB call_len_seq (by rfl) T.b_len (by decide +kernel) (pa_cons (pe_ix ix_seq (pv 0) pe_int (fun _ _ => rfl)) pa_nil))) (fun _ _ => rfl)) pe_int) (pe_op op_add (pv 1) pe_int)) (pv 1)))) pss_nil))) (pss_cons (ps_if (PW.pt (pw_and (pt_cmpR op_lt (pv 1) (pe_callB call_len_seq (by rfl) T.b_len (by decide +kernel) (pa_cons (pe_ix ix_seq (pv 0) pe_int (fun _ _ => rfl)) pa_nil)) (nomark _)) (pw_and1 (pt_cmpR op_ge (pv 2) (pe_op op_pow pe_int pe_int) (nomark _))))) (pss_one (ps_ret (pv 2))) pss_nil) (pss_cons (ps_set (i := 3) nd rfl (Or.inl rfl) (pe_op op_mod (pe_op op_pow (pe_op op_add (pe_op op_add (pe_op op_mul (pe_op op_mod (pv 2) pe_int) (pe_op op_add (pv 1) pe_int)) (pe_op op_mul pe_int (pv 1))) pe_int) pe_int) (pe_call G__law_gprime (hr.mono (by first | decide | omega)) (by rfl) T.m__law_gprime T.k__law_gprime B__law_gprime .nil pass0 (pa_cons (pv 1) pa_nil)))) (pss_cons (ps_set (i := 4) nd rfl (Or.inl rfl) (pe_op op_mod (pe_op op_pow (pe_op op_add (pe_op op_add (pe_op op_mul (pv 3) (pe_op op_add (pv 1) pe_int)) (pe_op op_mod (pv 2) pe_int)) pe_int) pe_int) (pe_call G__law_gprime (hr.mono (by first | decide | omega)) (by rfl) T.m__law_gprime T.k__law_gprime B__law_gprime .nil pass0 (pa_cons (pe_op op_add (pv 1) pe_int) pa_nil)))) (pss_cons (ps_set (i := 5) nd rfl (Or.inl rfl) (pe_op op_mod (pe_op op_add (pe_op op_mul (pv 4) (pv 4)) (pv 3)) (pe_call G__law_gprime (hr.mono (by first | decide | omega)) (by rfl) T.m__law_gprime T.k__law_gprime B__law_gprime .nil pass0 (pa_cons (pe_op op_add (pv 1) pe_int) pa_nil)))) (pss_one (ps_ret (pe_op op_add (pe_op op_mul (pe_op op_add (pe_op op_mul (pv 5) pe_int) (pv 4)) pe_int) (pv 3)))))))))))), ?_⟩
    refine ⟨_, rfl, .inl ⟨j, _, 1, .int d, rfl, rfl, SqL.of hj, rfl, ?_⟩⟩
    refine ⟨_, rfl, _, _, rfl, rfl, _, rfl, j, _, 1, 1, rfl, rfl, hj, rfl, ?_⟩
    refine ⟨_, rfl, _, _, rfl, rfl, .inl ⟨by decide, by decide⟩, _, _, rfl, rfl, ?_⟩
    have hj1 : (upd H j (.lst (List.set [V.ref l, V.int d, V.int c] 1 (V.int ((d : Int) + 1))))) j = some (.lst [.ref l, .int ((d + 1 : Nat) : Int), .int c]) := upd_same
    have hl1 : (upd H j (.lst (List.set [V.ref l, V.int d, V.int c] 1 (V.int ((d : Int) + 1))))) l = some (.lst (ns.map V.int)) := by rw [upd_ne hlj]; exact hl
    have kp1 : Keep j H (upd H j (.lst (List.set [V.ref l, V.int d, V.int c] 1 (V.int ((d : Int) + 1))))) := Keep.upd
    revert hj1 hl1 kp1
    generalize upd H j (.lst (List.set [V.ref l, V.int d, V.int c] 1 (V.int ((d : Int) + 1)))) = H1
    intro hj1 hl1 kp1
    dsimp only [gName]
    have jr1 : Jr H1 j l (m + 1) := ⟨ns, d + 1, c, hj1, hl1, hlj, by omega, hc⟩
    have hdm : (d : Int) ≤ 1000000 := by omega
    refine seq_cut (t := tIfS _ _ _) (fun σ H' => ∃ cell : Int, σ = [some (V.ref j), some (V.int d), some (V.int cell), none, none, none] ∧ H' = H1) ?_ ?_
    · rintro σ H' ⟨cell, rfl, rfl⟩
      refine seq_cut (t := tIfS _ _ _) (fun σ H2 => σ = [some (V.ref j), some (V.int d), some (V.int cell), none, none, none] ∧ H2 = H') ?_ ?_
      · rintro σ H2 ⟨rfl, rfl⟩
        have p0 : 0 ≤ cell % 2147483477 := Int.emod_nonneg _ (by decide)
        have p1 : cell % 2147483477 < 2147483477 := Int.emod_lt_of_pos _ (by decide)
        have p2 : 0 ≤ cell % 2147483477 * ((d : Int) + 1) := Int.mul_nonneg p0 (by omega)
        have p3 : cell % 2147483477 * ((d : Int) + 1) ≤ 2147483477 * 1000001 := Int.mul_le_mul (Int.le_of_lt p1) (by omega) (by omega) (by decide)
        refine ⟨_, rfl, _, _, rfl, rfl, (by show (0 : Int) < 2147483477; decide), _, rfl, _, _, rfl, rfl, _, _, rfl, rfl, .inl ⟨by omega, by omega⟩, _, rfl, _, _, rfl, rfl, .inl ⟨by decide, by decide⟩, _, _, rfl, rfl, _, _, rfl, rfl, _, _, rfl, rfl, ⟨by decide, by decide, by omega⟩, ?_⟩
        refine ⟨_, rfl, _, rfl, by omega, fun q1 H3 l1 u1 x3 => ⟨_, _, rfl, rfl, by omega, ?_⟩⟩
        have o0 : 0 ≤ (cell % 2147483477 * ((d : Int) + 1) + 104729 * (d : Int) + 17) ^ (5 : Int).toNat % q1 := Int.emod_nonneg _ (by omega)
        have o1 : (cell % 2147483477 * ((d : Int) + 1) + 104729 * (d : Int) + 17) ^ (5 : Int).toNat % q1 < q1 := Int.emod_lt_of_pos _ (by omega)
        dsimp only [gName]
        generalize (cell % 2147483477 * ((d : Int) + 1) + 104729 * (d : Int) + 17) ^ (5 : Int).toNat % q1 = one at o0 o1
        have r0 : 0 ≤ one * ((d : Int) + 3) := Int.mul_nonneg o0 (by omega)
        have r1 : one * ((d : Int) + 3) ≤ 2147483647 * 1000003 := Int.mul_le_mul (by omega) (by omega) (by omega) (by decide)
        have s0 : 0 ≤ cell % 65537 := Int.emod_nonneg _ (by decide)
        have s1 : cell % 65537 < 65537 := Int.emod_lt_of_pos _ (by decide)
        refine ⟨_, rfl, _, rfl, _, _, rfl, rfl, _, _, rfl, rfl, .inl ⟨by omega, by omega⟩, _, rfl, _, _, rfl, rfl, (by show (0 : Int) < 65537; decide), _, _, rfl, rfl, _, _, rfl, rfl, _, _, rfl, rfl, ⟨by decide, by decide, by omega⟩, ?_⟩
        refine ⟨_, rfl, _, _, rfl, rfl, _, rfl, by omega, fun q2 H4 l2 u2 x4 => ⟨_, _, rfl, rfl, by omega, ?_⟩⟩
        have w0 : 0 ≤ (one * ((d : Int) + 3) + cell % 65537 + 1) ^ (3 : Int).toNat % q2 := Int.emod_nonneg _ (by omega)
        have w1 : (one * ((d : Int) + 3) + cell % 65537 + 1) ^ (3 : Int).toNat % q2 < q2 := Int.emod_lt_of_pos _ (by omega)
        dsimp only [gName]
        generalize (one * ((d : Int) + 3) + cell % 65537 + 1) ^ (3 : Int).toNat % q2 = two at w0 w1
        refine ⟨_, rfl, _, rfl, _, _, rfl, rfl, .inl ⟨by omega, by omega⟩, _, rfl, _, _, rfl, rfl, ?_⟩
        refine ⟨_, rfl, _, _, rfl, rfl, _, rfl, by omega, fun q3 H5 l3 u3 x5 => ⟨_, _, rfl, rfl, by omega, ?_⟩⟩
        have z0 : 0 ≤ (two * two + one) % q3 := Int.emod_nonneg _ (by omega)
        have z1 : (two * two + one) % q3 < q3 := Int.emod_lt_of_pos _ (by omega)
        dsimp only [gName]
        generalize (two * two + one) % q3 = three at z0 z1
        have x25 := (x3.trans x4).trans x5
        refine ⟨_, rfl, _, _, rfl, rfl, .inl ⟨by omega, by omega⟩, _, rfl, _, _, rfl, rfl, _, _, rfl, rfl, .inl ⟨by omega, by omega⟩, _, rfl, _, _, rfl, rfl, ?_⟩
        exact q _ _ (by omega) (x25.jr jr1) (kp1.trans x25.keep)
      · intro N hN
        refine ⟨_, rfl, _, rfl, .inl ⟨j, _, 0, .ref l, rfl, rfl, SqL.of hj1, rfl, l, _, rfl, .inl (SqL.of hl1), _, _, rfl, rfl, _, rfl, ?_⟩⟩
        refine ite2 (fun _ => ?_) (fun _ => iteF (hN _ _ ⟨rfl, rfl⟩))
        refine ⟨_, rfl, _, _, rfl, rfl, ⟨by decide, by decide, by decide⟩, _, _, rfl, rfl, _, rfl, ?_⟩
        refine ite2 (fun h => ⟨_, rfl, q cell H' ?_ jr1 kp1⟩) (fun _ => hN _ _ ⟨rfl, rfl⟩)
        have h : (10 : Int) ^ (18 : Int).toNat ≤ cell := of_decide_eq_true h
        have e : (10 : Int) ^ (18 : Int).toNat = 1000000000000000000 := by decide
        rw [e] at h
        omega
    · intro N2 hN2
      refine ⟨_, rfl, _, rfl, .inl ⟨j, _, 0, .ref l, rfl, rfl, SqL.of hj1, rfl, l, _, rfl, .inl (SqL.of hl1), _, _, rfl, rfl, _, rfl, ?_⟩⟩
      refine ite2 (fun hp => ?_) (fun _ => ?_)
      · have hp : (d : Int) < ((ns.map V.int).length : Nat) := of_decide_eq_true hp
        have hkl : d < ns.length := by rw [List.length_map] at hp; omega
        have hx : (ns.map V.int)[d]? = some (.int ns[d]) := by simp [hkl]
        refine ⟨_, rfl, .inl ⟨j, _, 0, .ref l, rfl, rfl, SqL.of hj1, rfl, _, rfl, ?_⟩⟩
        exact .inl ⟨l, _, _, .int ns[d], rfl, rfl, SqL.of hl1, atI_nat hx, hN2 _ _ ⟨_, rfl, rfl⟩⟩
      · refine ⟨_, rfl, .inl ⟨j, _, 0, .ref l, rfl, rfl, SqL.of hj1, rfl, l, _, rfl, .inl (SqL.of hl1), _, _, rfl, rfl, _, rfl, ?_⟩⟩
        refine ite2 (fun hp => ?_) (fun _ => hN2 _ _ ⟨_, rfl, rfl⟩)
        have hp : (0 : Int) < ((ns.map V.int).length : Nat) := of_decide_eq_true hp
        refine ⟨_, rfl, .inl ⟨j, _, 0, .ref l, rfl, rfl, SqL.of hj1, rfl, ?_⟩⟩
        refine ⟨_, rfl, _, rfl, .inl ⟨j, _, 0, .ref l, rfl, rfl, SqL.of hj1, rfl, l, _, rfl, .inl (SqL.of hl1), _, _, rfl, rfl, hp, ?_⟩⟩
        have e0 : 0 ≤ (d : Int) % ((ns.map V.int).length : Nat) := Int.emod_nonneg _ (by omega)
        have e1 : (d : Int) % ((ns.map V.int).length : Nat) < ((ns.map V.int).length : Nat) := Int.emod_lt_of_pos _ hp
        obtain ⟨k, hk⟩ : ∃ k : Nat, (d : Int) % ((ns.map V.int).length : Nat) = (k : Int) := ⟨_, (Int.toNat_of_nonneg e0).symm⟩
        have hkl : k < ns.length := by rw [hk] at e1; rw [List.length_map] at e1; omega
        have hx : (ns.map V.int)[k]? = some (.int ns[k]) := by simp [hkl]
        refine .inl ⟨l, _, _, .int ns[k], rfl, rfl, SqL.of hl1, ?_, ?_⟩
        · show atI (ns.map V.int) ((d : Int) % ((ns.map V.int).length : Nat)) = _
          rw [hk]
          exact atI_nat hx
        · exact ⟨_, _, rfl, rfl, (by show (0 : Int) < 1000003; decide), _, rfl, _, _, rfl, rfl, _, _, rfl, rfl, .inr ⟨by omega, by omega⟩, _, rfl, _, _, rfl, rfl, hN2 _ _ ⟨_, rfl, rfl⟩⟩

/-! ### _law_gdraw -/

def spGDraw : Sp := fun vs H Q _ => ∃ (j : Addr) (many : Int) (m : Nat), vs = [.ref j, .int many] ∧ ∃ lj : Addr, Jr H j lj m ∧ m ≤ 1000000 ∧ 0 < many ∧ many < 2 ^ 400 ∧
  ∀ (r : Int) (H' : Hp), 0 ≤ r → r < many → Jr H' j lj (m + 1) → Keep j H H' → Q (.int r) H'
theorem sc__law_gdraw : FnScope ["tape", "many", "drawn"] ["tape", "many"] (defScope s__law_gdraw) := ⟨rfl, rfl, rfl, by decide +kernel, rfl, by decide +kernel, by decide +kernel⟩
theorem ok__law_gdraw {f : Addr} {fd fdp : FuncData} (F : Fun K "_law_gdraw" "_law_gdraw" s__law_gdraw f fd) (T : Txt K mg t) (G__law_gfresh : FnOk P w K mg base CX0 2 t.f__law_gfresh fdp ["tape"] spFresh) (B__law_gfresh : Binds K fdp ["tape"] []) : FnOk P w K mg base CX0 3 f fd ["tape", "many"] spGDraw := by
  have nd := sc__law_gdraw.nd
  refine F.ok sc__law_gdraw (fun vs H Q E h => ?_) (fun cdv A outer s H vs Q E hr h => ?_)
  · obtain ⟨j, many, m, rfl, _⟩ := h
    rfl
  · obtain ⟨j, many, m, rfl, l, jr, hm, h0, h1, q⟩ := h
    refine ⟨_, (pss_cons (ps_if (pt_cmpR op_lt (pe_ix ix_seq (pv 0) pe_int (fun _ _ => rfl)) (pv 1) (nomark _)) (pss_one (ps_asg (pe_call G__law_gfresh (hr.mono (by first | decide | omega)) (by rfl) T.m__law_gfresh T.k__law_gfresh B__law_gfresh .nil pass0 (pa_cons (pv 0) pa_nil)) (pg_sub (pv 0) pe_int set_list))) pss_nil) (pss_cons (ps_set (i := 2) nd rfl (Or.inl rfl) (pe_op op_mod (pe_ix ix_seq (pv 0) pe_int (fun _ _ => rfl)) (pv 1))) (pss_cons (ps_asg (pe_op op_fdivW (pe_ix ix_seq (pv 0) pe_int (fun _ _ => rfl)) (pv 1)) (pg_sub (pv 0) pe_int set_list)) (pss_one (ps_ret (pv 2)))))), ?_⟩
    refine seq_cut (t := tIfS _ _ _) (fun σ H1 => σ = [some (.ref j), some (.int many), none] ∧ Jr H1 j l (m + 1) ∧ Keep j H H1) ?_ ?_
    · rintro σ H1 ⟨rfl, ⟨ns, d, c, hj, hl, hlj, hd, hc⟩, kp⟩
      refine ⟨_, rfl, .inl ⟨j, _, 2, .int c, rfl, rfl, SqL.of hj, rfl, ?_⟩⟩
      refine ⟨_, rfl, _, _, rfl, rfl, h0, ?_⟩
      refine ⟨_, rfl, .inl ⟨j, _, 2, .int c, rfl, rfl, SqL.of hj, rfl, ?_⟩⟩
      refine ⟨_, rfl, _, _, rfl, rfl, ⟨h0, h1⟩, ?_⟩
      refine ⟨_, rfl, j, _, 2, 2, rfl, rfl, hj, rfl, ?_⟩
      refine ⟨_, rfl, q _ _ (Int.emod_nonneg _ (by omega)) (Int.emod_lt_of_pos _ h0) ⟨ns, d, c / many, upd_same, ?_, hlj, hd, Int.ediv_nonneg hc (by omega)⟩ (kp.trans Keep.upd)⟩
      rw [upd_ne hlj]; exact hl
    · intro N hN
      obtain ⟨ns, d, c, hj, hl, hlj, hd, hc⟩ := id jr
      refine ⟨_, rfl, .inl ⟨j, _, 2, .int c, rfl, rfl, SqL.of hj, rfl, ?_⟩⟩
      refine ⟨_, rfl, _, _, rfl, rfl, _, rfl, ?_⟩
      refine ite2 (fun _ => ?_) (fun _ => hN _ _ ⟨rfl, jr.mono (by omega), Keep.refl _ _⟩)
      refine ⟨_, rfl, j, m, rfl, l, jr, hm, fun r H1 r0 jr1 k1 => ?_⟩
      obtain ⟨ns1, d1, c1, hj1, hl1, hlj1, hd1, hc1⟩ := jr1
      refine ⟨_, rfl, j, _, 2, 2, rfl, rfl, hj1, rfl, ?_⟩
      refine hN _ _ ⟨rfl, ⟨ns1, d1, r, upd_same, ?_, hlj1, hd1, r0⟩, k1.trans Keep.upd⟩
      rw [upd_ne hlj1]; exact hl1

end
end My

end
section
set_option linter.all false
set_option maxRecDepth 100000
set_option maxHeartbeats 4000000
set_option Elab.async false
namespace My
open PySem L2
section
variable {P : Program} {w : World} {K : PySem.W.Frag} {mg : Str → Option Value} {base : Heap} {t : Adr} {TB : List Addr} {LB : List (Addr × Str)}
/-! ### _law_gnear -/
def spLNear (K : PySem.W.Frag) : Sp := fun vs H Q _ => ∃ (c : Addr) (ts : List V) (E : List (Int × Int)) (i : Int), vs = [.ref c, .int i] ∧ SqT K H c ts ∧ Paired (fun u (p : Int × Int) => IT K H u [p.1, p.2]) ts E ∧ E.length ≤ 100 ∧ (nearL E i).length < 64 ∧
  ∀ (r : Addr) (ms : List Int) (H' : Hp), Ext H H' → H r = none → H' r = some (.lst (ms.map V.int)) → ms.Perm (nearL E i) → ms.Pairwise (· ≤ ·) → Q (.ref r) H'
theorem sc__law_gnear : FnScope ["ties", "i", "one", "other"] ["ties", "i"] (defScope s__law_gnear) := ⟨rfl, rfl, rfl, by decide +kernel, rfl, by decide +kernel, by decide +kernel⟩
theorem ok__law_gnear {f : Addr} {fd : FuncData} (F : Fun K "_law_gnear" "_law_gnear" s__law_gnear f fd) (T : Txt K mg t) : FnOk P w K mg base CX0 1 f fd ["ties", "i"] (spLNear K) := by
  have nd := sc__law_gnear.nd
  refine F.ok sc__law_gnear (fun vs H Q E h => ?_) (fun cdv A outer s H vs Q E hr h => ?_)
  · obtain ⟨c, ts, E', i, rfl, _⟩ := h
    rfl
  · obtain ⟨c, ts, E', i, rfl, hc, pt, e100, n64, q⟩ := h
    refine ⟨_, (pss_one (ps_ret (pe_callB (cr_sorted2 rfl) (by rfl) T.b_sorted (by decide +kernel) (pa_cons (pe_lc (own := [("one", 2), ("other", 3)]) (by rfl) nd (pi_alt (pi_list (pv 0)) (pi_tup (pv 0))) (blkOk_by (own := [("one", 2), ("other", 3)]) rfl) (fun _ _ _ _ _ => (pg_tupK (K := K) (n := 2) rfl rfl (pgs_cons (pg_name (i := 2) nd rfl (Or.inl rfl)) (pgs_cons (pg_name (i := 3) nd rfl (Or.inl rfl)) pgs_nil)))) (fun _ _ _ _ _ => (pts_one (pt_cmpR (op_in_seqK (K := K) rfl) (pv 1) (pe_tup (pa_cons (pv 2) (pa_cons (pv 3) pa_nil))) (by rfl)))) (fun _ _ _ _ _ => (pe_op op_sub (pe_op op_add (pv 2) (pv 3)) (pv 1)))) pa_nil)))), ?_⟩
    have tl := pt.length
    refine .inr ⟨_, rfl, c, rfl, ⟨_, hc⟩, fun D nD => ?_⟩
    refine W_tup (K := K) (a := c) (xs := ts) (fun k H' => H' D = some (.lst ((nearL (E'.take k) i).map V.int)) ∧ Ext H H') ⟨upd_same, ext_upd nD⟩ (fun k H' _ ⟨_, e⟩ => e.sqT hc) ?_ ?_
    · rintro k u H1 hu ⟨hD, x1⟩
      obtain ⟨p, hp, ⟨ua, rfl, hua⟩⟩ := Paired.at pt hu
      have tk : E'.take (k + 1) = E'.take k ++ [p] := by rw [List.take_succ, hp]; rfl
      have hua1 := x1.sqT hua
      have few : (nearL (E'.take k) i).length ≤ 100 := by
        unfold nearL
        rw [List.length_map]
        have := List.length_filter_le (fun p : Int × Int => decide (p.1 = i ∨ p.2 = i)) (E'.take k)
        rw [List.length_take] at this
        omega
      refine ⟨ua, _, rfl, hua1, rfl, _, _, rfl, _, _, rfl, rfl, rfl, ?_⟩
      have iv : inV (V.int i) [V.int p.1, V.int p.2] = decide (p.1 = i ∨ p.2 = i) := by
        rw [show ([V.int p.1, V.int p.2] : List V) = [p.1, p.2].map V.int from rfl, inV_int, Bool.eq_iff_iff, decide_eq_true_iff, decide_eq_true_iff, List.mem_cons, List.mem_singleton]
        exact ⟨fun h => h.elim (fun e => .inl e.symm) (fun e => .inr e.symm), fun h => h.elim (fun e => .inl e.symm) (fun e => .inr e.symm)⟩
      refine ⟨_, rfl, _, rfl, _, rfl, by show 2 ≤ sizeLine; decide, fun T0 nT0 => ?_⟩
      have y1 := ext_upd (o := .tup [V.int p.1, .int p.2]) nT0
      have hD1 := y1 _ _ hD
      refine ⟨T0, _, rfl, .inr (SqT.of upd_same), rfl, rfl, ?_⟩
      refine ⟨_, rfl, ?_⟩
      show if (inV (V.int i) [V.int p.1, V.int p.2]) = true then _ else _
      rw [iv, tk, nearL_snoc]
      by_cases c : p.1 = i ∨ p.2 = i
      · rw [decide_eq_true c, if_pos c]
        refine iteT ⟨_, rfl, _, rfl, _, _, rfl, rfl, _, rfl, _, _, rfl, rfl, _, hD1, by rw [List.length_map, sizeLine_eq]; omega, ?_, ext_new (x1.trans y1) nD⟩
        rw [upd_same, List.map_append]
        rfl
      · rw [decide_eq_false c, if_neg c]
        refine iteF ⟨?_, x1.trans y1⟩
        rw [List.append_nil]
        exact hD1
    · rintro H1 ⟨hD, x1⟩
      rw [tl, List.take_length] at hD
      exact ⟨D, _, rfl, .inl (SqL.of hD), n64, fun ms r pm pw nr => q r ms _ (x1.trans (ext_upd nr)) (none_back x1 nr) upd_same pm pw⟩

/-! ### _law_gorder -/
theorem erase_perm {α : Type} : ∀ {xs : List α} {k : Nat} {y : α}, xs[k]? = some y → (y :: xs.eraseIdx k).Perm xs
  | [], _, _, h => by simp at h
  | x :: xs, 0, y, h => by simp at h; subst h; exact List.Perm.refl _
  | x :: xs, k + 1, y, h => by
    have h' : xs[k]? = some y := by simpa using h
    exact (List.Perm.swap x y _).trans (List.Perm.cons x (erase_perm h'))
theorem erase_map {α β : Type} (f : α → β) : ∀ (xs : List α) (k : Nat), (xs.map f).eraseIdx k = (xs.eraseIdx k).map f
  | [], _ => rfl
  | x :: xs, 0 => rfl
  | x :: xs, k + 1 => congrArg (f x :: ·) (erase_map f xs k)
theorem some_take {xs ns : List Int} {k : Nat} {y : Int} (hk : xs[k]? = some y) : (xs.eraseIdx k ++ (ns ++ [y])).Perm (xs ++ ns) := by
  have p1 : (y :: xs.eraseIdx k).Perm xs := erase_perm hk
  have p2 : (xs.eraseIdx k ++ (ns ++ [y])).Perm (y :: (xs.eraseIdx k ++ ns)) := by
    rw [← List.append_assoc]
    exact List.perm_append_comm
  exact p2.trans (List.Perm.append_right ns p1)
def spGOrder : Sp := fun vs H Q _ => ∃ (j : Addr) (m n : Nat), vs = [.ref j, .int n] ∧ n ≤ 50 ∧ ∃ lj : Addr, Jr H j lj m ∧ m ≤ 900000 ∧
  ∀ (r : Addr) (os : List Int) (H' : Hp), H r = none → H' r = some (.lst (os.map V.int)) → os.Perm ((List.range n).map Int.ofNat) → Jr H' j lj (m + n) → Keep j H H' → Q (.ref r) H'
theorem sc__law_gorder : FnScope ["tape", "many", "left", "k"] ["tape", "many"] (defScope s__law_gorder) := ⟨rfl, rfl, rfl, by decide +kernel, rfl, by decide +kernel, by decide +kernel⟩
theorem ok__law_gorder {f : Addr} {fd fdd : FuncData} (F : Fun K "_law_gorder" "_law_gorder" s__law_gorder f fd) (T : Txt K mg t) (G__law_gdraw : FnOk P w K mg base CX0 3 t.f__law_gdraw fdd ["tape", "many"] spGDraw) (B__law_gdraw : Binds K fdd ["tape", "many"] []) : FnOk P w K mg base CX0 4 f fd ["tape", "many"] spGOrder := by
  have nd := sc__law_gorder.nd
  refine F.ok sc__law_gorder (fun vs H Q E h => ?_) (fun cdv A outer s H vs Q E hr h => ?_)
  · obtain ⟨j, m, n, rfl, _⟩ := h
    rfl
  · obtain ⟨j, m, n, rfl, hl, lj, hj, hm, q⟩ := h
    refine ⟨_, (pss_cons (ps_set (i := 2) nd rfl (Or.inr rfl) (pe_listRange rfl (by rfl) T.b_list (by rfl) T.b_range (pv 1))) (pss_one (ps_ret (pe_lc (own := [("k", 3)]) (by rfl) nd (pi_range1 (by rfl) T.b_range (pa_cons (pv 1) pa_nil)) (blkOk_by (own := [("k", 3)]) rfl) (fun _ _ _ _ _ => (pg_name (i := 3) nd rfl (Or.inl rfl))) (fun _ _ _ _ _ => pts_nil) (fun _ _ _ _ _ => (pe_bmK (K := K) rfl PySem.F.plainAttrs_list PySem.F.slot_list_pop PySem.F.type_list_pop mt_popAt (pv 2) (pa_cons (pe_call G__law_gdraw (hr.mono (by first | decide | omega)) (by rfl) T.m__law_gdraw T.k__law_gdraw B__law_gdraw .nil pass0 (pa_cons (pv 0) (pa_cons (pe_callB (call_len_seqK (K := K) rfl) (by rfl) T.b_len (by decide +kernel) (pa_cons (pv 2) pa_nil)) pa_nil))) pa_nil))))))), ?_⟩
    refine ⟨_, rfl, n, rfl, by omega, fun l nl => ?_⟩
    have y1 := ext_upd (o := .lst ((List.range n).map fun (i : Nat) => V.int (i : Nat))) nl
    have nlj := hj.ne nl
    have hj1 := y1.jr hj
    have ens : ((List.range n).map fun (i : Nat) => V.int (i : Nat)) = ((List.range n).map Int.ofNat).map V.int := by rw [List.map_map]; rfl
    have hl1 : (upd H l (.lst ((List.range n).map fun (i : Nat) => V.int (i : Nat)))) l = some (.lst (((List.range n).map Int.ofNat).map V.int)) := by rw [upd_same, ens]
    have nsl : ((List.range n).map Int.ofNat).length = n := by rw [List.length_map, List.length_range]
    generalize (List.range n).map Int.ofNat = ns at *
    generalize upd H l (.lst ((List.range n).map fun (i : Nat) => V.int (i : Nat))) = H1 at *
    dsimp only [gName]
    refine ⟨_, rfl, _, rfl, (by omega), (by omega), fun D nD => ?_⟩
    have nDj := hj1.ne nD
    have nDl : D ≠ l := fun e => by rw [e, hl1] at nD; cases nD
    refine W_range (lo := 0) (n := ((n : Nat) : Int).toNat) (fun i H' => ∃ xs os : List Int, H' D = some (.lst (os.map V.int)) ∧ H' l = some (.lst (xs.map V.int)) ∧ (xs ++ os).Perm ns ∧ os.length = i ∧ Jr H' j lj (m + i) ∧ Keep j H H') ⟨ns, [], upd_same, by rw [upd_ne (Ne.symm nDl)]; exact hl1, by rw [List.append_nil], rfl, (hj1.upd nDj.1 nDj.2).mono (by omega), (y1.trans (ext_upd nD)).keep⟩ ?_ ?_
    · rintro i H2 hi ⟨xs, os, hD, hl2, pm, ol, hj2, k2⟩
      have hi : i < n := by omega
      have pl := pm.length_eq
      rw [List.length_append] at pl
      refine ⟨rfl, ?_⟩
      dsimp only [tYes]
      rw [if_pos rfl]
      refine ⟨_, rfl, .inl ⟨rfl, _, SqL.of hl2⟩, _, rfl, _, rfl, l, _, rfl, .inl (SqL.of hl2), j, _, _, rfl, lj, hj2, (by omega), (by rw [List.length_map]; omega), (by rw [List.length_map]; exact Int.lt_of_le_of_lt (Int.ofNat_le.mpr (show xs.length ≤ 50 by omega)) (by decide)), fun r H3 r0 r1 hj3 k3 => ?_⟩
      rw [List.length_map] at r1
      have hl3 := k3 _ _ hl2 nlj.1
      have hD3 := k3 _ _ hD nDj.1
      have hk : r.toNat < xs.length := by omega
      have ey : (xs.map V.int)[r.toNat]? = some (.int (xs[r.toNat]'hk)) := by rw [List.getElem?_map, List.getElem?_eq_getElem hk]; rfl
      have es : seqIndex? r (xs.map V.int).length = some r.toNat := by
        rw [List.length_map]
        refine (ixN_seq (n := xs.length) (i := r) ?_).1
        unfold ixN
        rw [if_pos r0, if_pos (by omega)]
      refine ⟨l, _, _, _, _, rfl, rfl, hl3, (by omega), (by omega), es, ey, ?_⟩
      have em : (xs.map V.int).eraseIdx r.toNat = (xs.eraseIdx r.toNat).map V.int := erase_map _ _ _
      rw [em]
      refine ⟨os.map V.int, by rw [upd_ne nDl]; exact hD3, by rw [List.length_map, sizeLine_eq]; omega, xs.eraseIdx r.toNat, os ++ [xs[r.toNat]'hk], by rw [upd_same, List.map_append]; rfl, by rw [upd_ne (Ne.symm nDl), upd_same], (some_take (List.getElem?_eq_getElem hk)).trans pm, by rw [List.length_append, ol]; rfl, ((hj3.upd nlj.1 nlj.2).upd nDj.1 nDj.2).mono (by omega), fun b o e nb => ?_⟩
      have b1 : b ≠ l := fun z => by rw [z, nl] at e; cases e
      have b2 : b ≠ D := fun z => by rw [z, none_back y1 nD] at e; cases e
      rw [upd_ne b2, upd_ne b1]
      exact k3 b o (k2 b o e nb) nb
    · rintro H2 ⟨xs, os, hD, hl2, pm, ol, hj2, k2⟩
      have pl := pm.length_eq
      rw [List.length_append] at pl
      have ol : os.length = n := by omega
      obtain rfl : xs = [] := List.eq_nil_of_length_eq_zero (by omega)
      exact q D os _ (none_back y1 nD) hD (by simpa using pm) (hj2.mono (by omega)) k2

/-! ### _law_grounds -/
def spLGrounds (K : PySem.W.Frag) : Sp := fun vs H Q _ => ∃ (v : V) (b : Addr) (n : Nat) (E W : List (Int × Int)) (TD : List (List Int)), vs = [v, .ref b] ∧ TreeT K H v n E ∧ (∀ i : Int, (nearL E i).length < 64) ∧ TiedOk n E TD ∧ PLst H b W ∧ W.length ≤ 4000 ∧ (∀ p ∈ W, 0 ≤ p.1 ∧ p.1 < (TD.length : Int)) ∧ Live TD W ∧
  ∀ (r : Addr) (rs : List V) (S : List (Int × Int)) (R : List (List (Int × Int))) (H' : Hp), Ext H H' → H r = none → H' r = some (.lst rs) → Paired (fun v ps => ∃ c, v = .ref c ∧ PLst H' c ps) rs R → S.Perm W → S.Pairwise pairLe → Rounds TD S [] R → Q (.ref r) H'
theorem sc__law_grounds : FnScope ["tree", "pairs", "left", "told", "found", "here", "i", "j", "pair", "k"] ["tree", "pairs"] (defScope s__law_grounds) := ⟨rfl, rfl, rfl, by decide +kernel, rfl, by decide +kernel, by decide +kernel⟩
theorem ok__law_grounds {f : Addr} {fd fdn : FuncData} (F : Fun K "_law_grounds" "_law_grounds" s__law_grounds f fd) (T : Txt K mg t) (G__law_gnear : FnOk P w K mg base CX0 1 t.f__law_gnear fdn ["ties", "i"] (spLNear K)) (B__law_gnear : Binds K fdn ["ties", "i"] []) : FnOk P w K mg base CX0 2 f fd ["tree", "pairs"] (spLGrounds K) := by
  have nd := sc__law_grounds.nd
  refine F.ok sc__law_grounds (fun vs H Q E h => ?_) (fun cdv A outer s H vs Q E hr h => ?_)
  · obtain ⟨v, b, n, E', W, TD, rfl, _⟩ := h
    rfl
  · obtain ⟨v, b, n, E', W, TD, rfl, tt, n64, tok, ⟨bs, hb, pb⟩, wl, win, lv, q⟩ := h
    refine ⟨_, (pss_cons (ps_set (i := 2) nd rfl (Or.inl rfl) (pe_callB cr_sortedP (by rfl) T.b_sorted (by decide +kernel) (pa_cons (pv 1) pa_nil))) (pss_cons (ps_set (i := 3) nd rfl (Or.inr rfl) (pe_lst pa_nil)) (pss_cons (ps_set (i := 4) nd rfl (Or.inl rfl) (pe_lst pa_nil)) (pss_cons (ps_while PassesOwn.never (pt_cmpR (op_neD (room64 hr)) (pv 2) (pe_lst pa_nil) (nomark _)) (pss_cons (ps_set (i := 5) nd rfl (Or.inr rfl) (pe_lst pa_nil)) (pss_cons (ps_for PassesOwn.never rfl (pi_alt (pi_list (pv 2)) (pi_tup (pv 2))) (pg_tup (by rfl) (pgs_cons (pg_name (i := 6) nd rfl (Or.inr rfl)) (pgs_cons (pg_name (i := 7) nd rfl (Or.inr rfl)) pgs_nil))) (pss_one (ps_if (pt_val (pe_callB (cr_all rfl) (by rfl) T.b_all (by decide +kernel) (pa_cons (pe_lc (own := [("k", 9)]) (by rfl) nd (pi_alt (pi_list (pe_call G__law_gnear (hr.mono (by first | decide | omega)) (by rfl) T.m__law_gnear T.k__law_gnear B__law_gnear .nil pass0 (pa_cons (pe_ix ix_seq (pv 0) pe_int (fun _ _ => rfl)) (pa_cons (pv 6) pa_nil)))) (pi_tup (pe_call G__law_gnear (hr.mono (by first | decide | omega)) (by rfl) T.m__law_gnear T.k__law_gnear B__law_gnear .nil pass0 (pa_cons (pe_ix ix_seq (pv 0) pe_int (fun _ _ => rfl)) (pa_cons (pv 6) pa_nil))))) (blkOk_by (own := [("k", 9)]) rfl) (fun _ _ _ _ _ => (pg_name (i := 9) nd rfl (Or.inl rfl))) (fun _ _ _ _ _ => pts_nil) (fun _ _ _ _ _ => (pe_or (pe_cmpR op_eq (pv 9) (pv 7) (nomark _)) (pe_one (pe_cmpR (op_inDK (K := K) rfl (room64 hr)) (pe_tup (pa_cons (pv 9) (pa_cons (pv 6) pa_nil))) (pv 3) (by rfl)))))) pa_nil))) (pss_one (ps_expr (pe_bm PySem.F.plainAttrs_list PySem.F.slot_list_append PySem.F.type_list_append mt_append (pv 5) (pa_cons (pe_tup (pa_cons (pv 6) (pa_cons (pv 7) pa_nil))) pa_nil)))) pss_nil))) (pss_cons (ps_expr (pe_bm PySem.F.plainAttrs_list PySem.F.slot_list_append PySem.F.type_list_append mt_append (pv 4) (pa_cons (pv 5) pa_nil))) (pss_cons (ps_set (i := 3) nd rfl (Or.inr rfl) (pe_op op_cat (pv 3) (pv 5))) (pss_one (ps_setLc (i := 2) (own := [("pair", 8)]) (by rfl) nd rfl rfl (sw_true rfl rfl rfl (by decide +kernel)) (pi_alt (pi_list (pv 2)) (pi_tup (pv 2))) (blkOk_by (own := [("pair", 8)]) rfl) (fun _ _ _ _ _ => (pg_name (i := 8) nd rfl (Or.inl rfl))) (fun _ _ _ _ _ => (pts_one (pt_cmpR (op_notInDK (K := K) rfl (room64 hr)) (pv 8) (pv 5) (by rfl)))) (fun _ _ _ _ _ => (pv 8))))))))) (pss_one (ps_ret (pv 4))))))), ?_⟩
    obtain ⟨mapW, hκ⟩ := pairs_at pb
    refine ⟨_, rfl, b, bs, (fun c => [(pairAt H c).1, (pairAt H c).2]), rfl, SqL.of hb, fun c hc => SqT.of (hκ c hc), .inr (fun c hc e => by cases e), fun bs' sl pm pw nsl => ?_⟩
    obtain ⟨S, hS⟩ : ∃ S, S = bs'.map (pairAt H) := ⟨_, rfl⟩
    have pS : Paired (PrO H) bs' S := by
      rw [hS]
      exact paired_at fun c hc => hκ c (pm.mem_iff.mp hc)
    have permS : S.Perm W := by
      rw [hS, ← mapW]
      exact pm.map _
    have sortS : S.Pairwise pairLe := by
      rw [hS]
      exact List.pairwise_map.mpr (pw.imp fun h => h)
    have y1 := ext_upd (o := .lst (bs'.map V.ref)) nsl
    have pl1 : PLst (upd H sl (.lst (bs'.map V.ref))) sl S := ⟨bs', upd_same, Paired.mapP pS fun _ _ h => y1 _ _ h⟩
    generalize upd H sl (.lst (bs'.map V.ref)) = H1 at *
    refine ⟨by show 0 ≤ sizeLine; decide, fun td ntd => ?_⟩
    have y2 := ext_upd (o := .lst []) ntd
    have htd2 : PLst (upd H1 td (.lst [])) td [] := ⟨[], upd_same, .nil⟩
    have pl2 := pl1.ext y2
    have x2 := y1.trans y2
    generalize upd H1 td (.lst []) = H2 at *
    refine ⟨by show 0 ≤ sizeLine; decide, fun fd nfd => ?_⟩
    have y3 := ext_upd (o := .lst []) nfd
    have hfd3 : (upd H2 fd (.lst [])) fd = some (.lst []) := upd_same
    have htd3 := htd2.ext y3
    have pl3 := pl2.ext y3
    have x3 := x2.trans y3
    have nfH : H fd = none := none_back x2 nfd
    have ne_of : ∀ {c : Addr} {ps : List (Int × Int)}, PLst H2 c ps → c ≠ fd := fun ⟨_, h, _⟩ e => by rw [e, nfd] at h; cases h
    have tdf := ne_of htd2
    have slf := ne_of pl2
    generalize upd H2 fd (.lst []) = H3 at *
    have Sin : ∀ p, p ∈ S ↔ p ∈ W := fun p => permS.mem_iff
    have Sl : S.length ≤ 4000 := by rw [permS.length_eq]; exact wl
    refine ⟨fun me σ' H' => ∃ (la ka : Addr) (left kn : List (Int × Int)) (rs : List V) (T : List (List (Int × Int))) (p5 p6 p7 : Option V), σ' = [some v, some (.ref b), some (.ref la), some (.ref ka), some (.ref fd), p5, p6, p7, none, none] ∧ la ≠ fd ∧ ka ≠ fd ∧ PLst H' la left ∧ PLst H' ka kn ∧ kn.length + left.length ≤ 4000 ∧ H' fd = some (.lst rs) ∧ Paired (fun v ps => ∃ c, v = .ref c ∧ c ≠ fd ∧ PLst H' c ps) rs T ∧ T.length + left.length ≤ 4000 ∧ (∀ p ∈ left, p ∈ W) ∧ (∀ p ∈ W, p ∈ left ∨ p ∈ kn) ∧ (∀ R, Rounds TD left kn R → Rounds TD S [] (T ++ R)) ∧ Ext H H' ∧ me = left.length,
      ⟨_, sl, td, S, [], [], [], none, none, none, rfl, slf, tdf, pl3, htd3, by show 0 + _ ≤ 4000; omega, hfd3, .nil, by show 0 + _ ≤ 4000; omega, fun p hp => (Sin p).mp hp, fun p hp => .inl ((Sin p).mpr hp), fun R h => h, x3, rfl⟩, ?_⟩
    rintro me σ' H5 ⟨la, ka, left, kn, rs, T, p5, p6, p7, rfl, lf, kf, pl5, pk5, kl, hfd5, pT5, Tl, l1, l2, hR, x5, rfl⟩
    refine ⟨_, rfl, by show 0 ≤ sizeLine; decide, fun e0 ne0 => ?_⟩
    have z1 := ext_upd (o := .lst []) ne0
    have e0f : e0 ≠ fd := fun e => by rw [e, hfd5] at ne0; cases ne0
    obtain ⟨cs, hla, pcs⟩ := pl5
    refine ⟨.list (left.map pairD2), .list [], .lst (SqL.of (z1 _ _ hla)) (pairs_dp (Paired.mapP pcs fun _ _ h => z1 _ _ h)), .lst (SqL.of upd_same) .nil, shaped_pairs left, rfl, ?_⟩
    refine ⟨_, rfl, ?_⟩
    have hla5 := z1 _ _ hla
    have pcs5 : Paired (PrO (upd H5 e0 (.lst []))) cs left := Paired.mapP pcs fun _ _ h => z1 _ _ h
    have pk5' := pk5.ext z1
    have hfd5' := z1 _ _ hfd5
    have pT5' : Paired (fun v ps => ∃ c, v = V.ref c ∧ c ≠ fd ∧ PLst (upd H5 e0 (.lst [])) c ps) rs T := Paired.mapP pT5 fun _ _ ⟨c, e, n, h⟩ => ⟨c, e, n, h.ext z1⟩
    have x5' := x5.trans z1
    generalize upd H5 e0 (.lst []) = H6 at *
    cases hl : left with
    | nil =>
      subst hl
      refine iteF ⟨_, rfl, q fd rs S T H6 x5' nfH hfd5' (Paired.mapP pT5' fun _ _ ⟨c, e, _, h⟩ => ⟨c, e, h⟩) permS sortS ?_⟩
      have := hR [] .nil
      rw [List.append_nil] at this
      exact this
    | cons p0 l0 =>
      rw [← hl]
      have lne : left ≠ [] := by rw [hl]; intro e; cases e
      have ce : PyData.eqv (.list (left.map pairD2)) (.list []) = false := by
        rw [hl]; rfl
      rw [ce]
      refine iteT ?_
      refine ⟨fun σ' H' => ∃ (la ka : Addr) (left' kn' : List (Int × Int)) (rs : List V) (T : List (List (Int × Int))) (p5 p6 p7 : Option V), σ' = [some v, some (.ref b), some (.ref la), some (.ref ka), some (.ref fd), p5, p6, p7, none, none] ∧ la ≠ fd ∧ ka ≠ fd ∧ PLst H' la left' ∧ PLst H' ka kn' ∧ kn'.length + left'.length ≤ 4000 ∧ H' fd = some (.lst rs) ∧ Paired (fun v ps => ∃ c, v = .ref c ∧ c ≠ fd ∧ PLst H' c ps) rs T ∧ T.length + left'.length ≤ 4000 ∧ (∀ p ∈ left', p ∈ W) ∧ (∀ p ∈ W, p ∈ left' ∨ p ∈ kn') ∧ (∀ R, Rounds TD left' kn' R → Rounds TD S [] (T ++ R)) ∧ Ext H H' ∧ left'.length < left.length, ?_, ?_⟩
      · rintro σ' H' ⟨la, ka, left', kn', rs, T, p5, p6, p7, h1, h2, h3, h4, h5, h6, h7, h8, h9, h10, h11, h12, h13, h14⟩
        exact ⟨left'.length, h14, la, ka, left', kn', rs, T, p5, p6, p7, h1, h2, h3, h4, h5, h6, h7, h8, h9, h10, h11, h12, h13, rfl⟩
      have pcl := pcs.length
      refine ⟨by show 0 ≤ sizeLine; decide, fun hd nhd => ?_⟩
      have z2 := ext_upd (o := .lst []) nhd
      have hhd : (upd H6 hd (.lst [])) hd = some (.lst []) := upd_same
      have hla7 := z2 _ _ hla5
      have hdf : hd ≠ fd := fun e => by rw [e, hfd5'] at nhd; cases nhd
      have hdl : la ≠ hd := fun e => by rw [← e, hla5] at nhd; cases nhd
      have pcs7 : Paired (PrO (upd H6 hd (.lst []))) cs left := Paired.mapP pcs5 fun _ _ h => z2 _ _ h
      have pk7 := pk5'.ext z2
      have hfd7 := z2 _ _ hfd5'
      have pT7 : Paired (fun v ps => ∃ c, v = V.ref c ∧ c ≠ fd ∧ c ≠ hd ∧ PLst (upd H6 hd (.lst [])) c ps) rs T := Paired.mapP pT5' fun _ _ ⟨c, e, n, h⟩ => ⟨c, e, n, (fun z => by obtain ⟨_, h, _⟩ := h; rw [z, nhd] at h; cases h), h.ext z2⟩
      have x7 := x5'.trans z2
      have nhH := none_back x5' nhd
      have kah : ka ≠ hd := fun e => by obtain ⟨_, h, _⟩ := pk5'; rw [← e, h] at nhd; cases nhd
      generalize upd H6 hd (.lst []) = H7 at *
      refine .inl ⟨_, rfl, la, rfl, ⟨_, SqL.of hla7⟩, for_list (K := K) (a := la) (xs := cs.map V.ref) (fun c σ' H' => ∃ (es : List Addr) (p6 p7 : Option V), σ' = [some v, some (.ref b), some (.ref la), some (.ref ka), some (.ref fd), some (.ref hd), p6, p7, none, none] ∧ H' hd = some (.lst (es.map V.ref)) ∧ Paired (PrO H') es ((left.take c).filter (readyB TD kn)) ∧ Keep hd H7 H') ⟨[], _, _, rfl, hhd, .nil, Keep.refl _ _⟩ (fun c σ' H' _ ⟨_, _, _, _, _, _, k⟩ => SqL.of (k _ _ hla7 hdl)) ?_ ?_⟩
      · rintro c u σ' H8 hu ⟨es, q6, q7, rfl, hh8, pe, k8⟩
        rw [List.getElem?_map] at hu
        cases hc : cs[c]? with
        | none => rw [hc] at hu; cases hu
        | some cc =>
        rw [hc] at hu; cases hu
        obtain ⟨p, hp, hpo⟩ := Paired.at pcs7 hc
        have pW := l1 p (List.mem_of_getElem? hp)
        have pr := win p pW
        have tk : left.take (c + 1) = left.take c ++ [p] := by rw [List.take_succ, hp]; rfl
        have el := pe.length
        have lfl := List.length_filter_le (readyB TD kn) (left.take c)
        rw [List.length_take] at lfl
        have hpo8 : PrO H8 cc p := k8 _ _ hpo fun e => by
          have hpo : H7 cc = some (.tup [.int p.1, .int p.2]) := hpo
          rw [e, hhd] at hpo; cases hpo
        refine ⟨cc, _, rfl, SqT.of hpo8, rfl, _, _, rfl, _, _, rfl, rfl, ?_⟩
        dsimp only [gName]
        obtain ⟨ta, tb, tc, us, ts, rfl, hta, htb, ul, htc, pt⟩ := id tt.at_
        have xk : ∀ {a : Addr} {xs : List V}, SqT K H a xs → SqT K H8 a xs := fun {a xs} h => by
          have h7 := x7.sqT h
          exact k8.sqT hhd h7
        have htc8 := xk htc
        have pt8 : Paired (fun u (p : Int × Int) => IT K H8 u [p.1, p.2]) ts E' := Paired.mapP pt fun _ _ ⟨z, e, h⟩ => ⟨z, e, xk (SqT.of h)⟩
        have i0 : p.1.toNat < n := by have := tok.1; omega
        have ip : ((p.1.toNat : Nat) : Int) = p.1 := by omega
        have ptk := (tok.2 p.1.toNat i0).1
        rw [ip] at ptk
        refine .inl ⟨_, rfl, .inr (.inl ⟨ta, _, 1, .ref tc, rfl, rfl, xk hta, rfl, ?_⟩)⟩
        refine ⟨_, rfl, tc, ts, E', p.1, rfl, htc8, pt8, tt.fewE, n64 _, fun r ms H9 x9 nr hr9 pm9 pw9 => ?_⟩
        refine ⟨r, rfl, ⟨_, SqL.of hr9⟩, fun D1 nD1 => ?_⟩
        have hh9 := x9 _ _ hh8
        have pk8 : PLst H8 ka kn := pk7.keepL k8 hhd kah
        have pk9 := pk8.ext x9
        refine W_list (K := K) (a := r) (xs := ms.map V.int) (fun k H' => H' D1 = some (.lst (((ms.take k).map fun x => decide (x = p.2) || decide ((x, p.1) ∈ kn)).map V.bl)) ∧ Ext H9 H') ⟨upd_same, ext_upd nD1⟩ (fun k H' _ ⟨_, e⟩ => SqL.of (e _ _ hr9)) ?_ ?_
        · rintro k x H10 hx ⟨hD, x10⟩
          obtain ⟨y, hy, rfl⟩ := int_at hx
          have tk : ms.take (k + 1) = ms.take k ++ [y] := by rw [List.take_succ, hy]; rfl
          have msl : (ms.take k).length ≤ 64 := by
            have := pm9.length_eq
            have := n64 p.1
            rw [List.length_take]
            omega
          refine ⟨rfl, ?_⟩
          dsimp only [tYes]
          rw [if_pos rfl]
          refine ⟨_, rfl, _, rfl, rfl, _, rfl, ?_⟩
          rw [dec_intR]
          by_cases c : y = p.2
          · rw [decide_eq_true c]
            refine iteT ⟨_, hD, by rw [List.length_map, List.length_map, sizeLine_eq]; omega, ?_, ext_new x10 nD1⟩
            rw [upd_same, tk, List.map_append, List.map_append, List.map_singleton, List.map_singleton, decide_eq_true c]
            rfl
          · rw [decide_eq_false c]
            refine iteF ⟨_, rfl, _, rfl, by show 2 ≤ sizeLine; decide, fun tq ntq => ?_⟩
            have yq := ext_upd (o := .tup [V.int y, .int p.1]) ntq
            have hq : PrO (upd H10 tq (.tup [V.int y, .int p.1])) tq (y, p.1) := upd_same
            have hDq := yq _ _ hD
            refine ⟨_, rfl, in_pairs (neg := false) hq ((pk9.ext x10).ext yq) ⟨_, hDq, by rw [List.length_map, List.length_map, sizeLine_eq]; omega, ?_, ext_new (x10.trans yq) nD1⟩⟩
            rw [upd_same, tk, List.map_append, List.map_append, List.map_singleton, List.map_singleton, decide_eq_false c]
            rfl
        · rintro H10 ⟨hD, x10⟩
          rw [List.length_map, List.take_length] at hD
          have er : (ms.map fun x => decide (x = p.2) || decide ((x, p.1) ∈ kn)).all id = readyB TD kn p := by
            unfold readyB
            rw [List.all_map, Bool.eq_iff_iff, List.all_eq_true, List.all_eq_true]
            have me : ∀ x, x ∈ ms ↔ x ∈ nearOf TD p.1 := fun x => (pm9.mem_iff).trans ptk.mem_iff.symm
            exact ⟨fun h x hx => h x ((me x).mpr hx), fun h x hx => h x ((me x).mp hx)⟩
          refine ⟨D1, _, rfl, SqL.of hD, _, rfl, ?_⟩
          rw [er]
          have x8 := x9.trans x10
          have hh10 := x8 _ _ hh8
          have pe10 : Paired (PrO H10) es ((left.take c).filter (readyB TD kn)) := Paired.mapP pe fun _ _ h => x8 _ _ h
          have k10 : Keep hd H7 H10 := k8.trans x8.keep
          cases hrd : readyB TD kn p with
          | false =>
            refine iteF ⟨es, _, _, rfl, hh10, ?_, k10⟩
            rw [tk, List.filter_append, List.filter_cons, if_neg (by rw [hrd]; decide), List.filter_nil, List.append_nil]
            exact pe10
          | true =>
            refine iteT ⟨_, rfl, .inl ⟨rfl, _, SqL.of hh10⟩, _, rfl, _, rfl, by show 2 ≤ sizeLine; decide, fun tn ntn => ?_⟩
            have yn := ext_upd (o := .tup [V.int p.1, .int p.2]) ntn
            have hh11 := yn _ _ hh10
            refine ⟨hd, _, _, rfl, rfl, hh11, by rw [List.length_map, sizeLine_eq]; omega, es ++ [tn], _, _, rfl, by rw [upd_same, List.map_append]; rfl, ?_, (k10.trans yn.keep).trans Keep.upd⟩
            rw [tk, List.filter_append, List.filter_cons, if_pos hrd, List.filter_nil]
            have up : ∀ {b : Addr} {q : Int × Int}, PrO (upd H10 tn (.tup [V.int p.1, .int p.2])) b q → PrO (upd (upd H10 tn (.tup [V.int p.1, .int p.2])) hd (.lst (es.map V.ref ++ [V.ref tn]))) b q := fun {b q} h => by
              have nb : b ≠ hd := fun e => by
                have h2 : (upd H10 tn (.tup [V.int p.1, .int p.2])) b = some (.tup [.int q.1, .int q.2]) := h
                rw [e, hh11] at h2; cases h2
              show (upd _ hd _) b = _
              rw [upd_ne nb]; exact h
            exact Paired.app (Paired.mapP pe10 fun _ _ h => up (yn _ _ h)) (.cons (up upd_same) .nil)
      · rintro σ' H8 ⟨es, q6, q7, rfl, hh8, pe, k8⟩
        rw [List.length_map, pcl, List.take_length] at pe
        have RL : PLst H8 hd (readyL TD left kn) := ⟨es, hh8, pe⟩
        have hfd8 := k8 _ _ hfd7 (Ne.symm hdf)
        have tl := pT7.length
        have rll := List.length_filter_le (readyB TD kn) left
        have eln := pe.length
        have ll := later_less lv l1 l2 lne
        have lin := later_in (TD := TD) l1 l2
        have split := ready_later TD left kn
        refine ⟨_, rfl, .inl ⟨rfl, _, SqL.of hfd8⟩, _, rfl, fd, _, _, rfl, rfl, hfd8, by rw [sizeLine_eq]; omega, ?_⟩
        have kf9 : Keep fd H8 (upd H8 fd (.lst (rs ++ [V.ref hd]))) := Keep.upd
        have hfd9 : (upd H8 fd (.lst (rs ++ [V.ref hd]))) fd = some (.lst (rs ++ [V.ref hd])) := upd_same
        have RL9 := RL.keepL kf9 hfd8 hdf
        have pk9 := (pk7.keepL k8 hhd kah).keepL kf9 hfd8 kf
        have pL9 : PLst (upd H8 fd (.lst (rs ++ [V.ref hd]))) la left := ((show PLst H7 la left from ⟨cs, hla7, pcs7⟩).keepL k8 hhd hdl).keepL kf9 hfd8 lf
        have pT9 : Paired (fun v ps => ∃ c, v = V.ref c ∧ c ≠ fd ∧ PLst (upd H8 fd (.lst (rs ++ [V.ref hd]))) c ps) (rs ++ [.ref hd]) (T ++ [readyL TD left kn]) := by
          refine Paired.app (Paired.mapP pT7 fun _ _ ⟨c, e, n, n2, h⟩ => ⟨c, e, n, (h.keepL k8 hhd n2).keepL kf9 hfd8 n⟩) (.cons ⟨hd, rfl, hdf, RL9⟩ .nil)
        have xx9 : Ext H (upd H8 fd (.lst (rs ++ [V.ref hd]))) := fun b o e => by
          have nb : b ≠ fd := fun z => by rw [z, nfH] at e; cases e
          have nh : b ≠ hd := fun z => by rw [z, nhH] at e; cases e
          rw [upd_ne nb]
          exact k8 _ _ (x7 _ _ e) nh
        generalize upd H8 fd (.lst (rs ++ [V.ref hd])) = H9 at *
        obtain ⟨ks, hka, pks⟩ := id pk9
        obtain ⟨es9, hh9, pe9⟩ := id RL9
        have kl9 := pks.length
        have el9 := pe9.length
        refine ⟨_, rfl, _, rfl, ka, hd, _, _, rfl, rfl, hka, hh9, by rw [List.length_map, List.length_map, sizeLine_eq]; have := show (readyL TD left kn).length ≤ left.length from rll; omega, fun k2 nk2 => ?_⟩
        have y10 := ext_upd (o := .lst (ks.map V.ref ++ es9.map V.ref)) nk2
        have K10 : PLst (upd H9 k2 (.lst (ks.map V.ref ++ es9.map V.ref))) k2 (kn ++ readyL TD left kn) := ⟨ks ++ es9, by rw [upd_same, List.map_append], Paired.app (Paired.mapP pks fun _ _ h => y10 _ _ h) (Paired.mapP pe9 fun _ _ h => y10 _ _ h)⟩
        have k2f : k2 ≠ fd := fun e => by rw [e, hfd9] at nk2; cases nk2
        have hfd10 := y10 _ _ hfd9
        have RL10 := RL9.ext y10
        obtain ⟨cs10, hla10, pcs10⟩ := pL9.ext y10
        have pT10 : Paired (fun v ps => ∃ c, v = V.ref c ∧ c ≠ fd ∧ PLst (upd H9 k2 (.lst (ks.map V.ref ++ es9.map V.ref))) c ps) (rs ++ [.ref hd]) (T ++ [readyL TD left kn]) := Paired.mapP pT9 fun _ _ ⟨c, e, n, h⟩ => ⟨c, e, n, h.ext y10⟩
        have xx10 := xx9.trans y10
        generalize upd H9 k2 (.lst (ks.map V.ref ++ es9.map V.ref)) = H10 at *
        dsimp only [gName]
        have pcl10 := pcs10.length
        refine .inl ⟨_, rfl, la, rfl, ⟨_, SqL.of hla10⟩, fun D2 nD2 => ?_⟩
        refine W_list (K := K) (a := la) (xs := cs10.map V.ref) (fun c H' => ∃ fs : List Addr, H' D2 = some (.lst (fs.map V.ref)) ∧ Paired (PrO H') fs ((left.take c).filter fun p => decide (p ∉ readyL TD left kn)) ∧ Ext H10 H') ⟨[], upd_same, .nil, ext_upd nD2⟩ (fun c H' _ ⟨_, _, _, e⟩ => SqL.of (e _ _ hla10)) ?_ ?_
        · rintro c u H11 hu ⟨fs, hD2, pf, x11⟩
          rw [List.getElem?_map] at hu
          cases hc : cs10[c]? with
          | none => rw [hc] at hu; cases hu
          | some cc =>
          rw [hc] at hu; cases hu
          obtain ⟨p, hp, hpo⟩ := Paired.at pcs10 hc
          have hpo11 : PrO H11 cc p := x11 _ _ hpo
          have tk : left.take (c + 1) = left.take c ++ [p] := by rw [List.take_succ, hp]; rfl
          have fl := pf.length
          have lff := List.length_filter_le (fun p => decide (p ∉ readyL TD left kn)) (left.take c)
          rw [List.length_take] at lff
          refine ⟨rfl, _, rfl, _, rfl, in_pairs (neg := true) hpo11 (RL10.ext x11) ⟨_, rfl, ?_⟩⟩
          show if (!decide (p ∈ readyL TD left kn)) = true then _ else _
          by_cases d : p ∈ readyL TD left kn
          · rw [decide_eq_true d]
            refine iteF ⟨fs, hD2, ?_, x11⟩
            rw [tk, List.filter_append, List.filter_cons, if_neg (by rw [decide_eq_true_iff]; exact fun h => h d), List.filter_nil, List.append_nil]
            exact pf
          · rw [decide_eq_false d]
            have up : ∀ {b : Addr} {q : Int × Int}, PrO H11 b q → PrO (upd H11 D2 (.lst (fs.map V.ref ++ [V.ref cc]))) b q := fun {b q} h => by
              have nb : b ≠ D2 := fun e => by
                have h2 : H11 b = some (.tup [.int q.1, .int q.2]) := h
                rw [e, hD2] at h2; cases h2
              show (upd _ D2 _) b = _
              rw [upd_ne nb]; exact h
            refine iteT ⟨_, rfl, _, hD2, by rw [List.length_map, sizeLine_eq]; omega, fs ++ [cc], by rw [upd_same, List.map_append]; rfl, ?_, ext_new x11 nD2⟩
            rw [tk, List.filter_append, List.filter_cons, if_pos (decide_eq_true d), List.filter_nil]
            exact Paired.app (Paired.mapP pf fun _ _ h => up h) (.cons (up hpo11) .nil)
        · rintro H11 ⟨fs, hD2, pf, x11⟩
          rw [List.length_map, pcl10, List.take_length] at pf
          have D2f : D2 ≠ fd := fun e => by rw [e, hfd10] at nD2; cases nD2
          refine ⟨D2, k2, laterL TD left kn, kn ++ readyL TD left kn, rs ++ [.ref hd], T ++ [readyL TD left kn], _, _, _, rfl, D2f, k2f, ⟨fs, hD2, pf⟩, K10.ext x11, by rw [List.length_append]; omega, x11 _ _ hfd10, Paired.mapP pT10 fun _ _ ⟨c, e, n, h⟩ => ⟨c, e, n, h.ext x11⟩, by rw [List.length_append, List.length_singleton]; omega, lin.1, lin.2, fun R r => ?_, xx10.trans x11, ll⟩
          rw [List.append_assoc]
          exact hR _ (.cons lne r)

end
end My

end
section
set_option linter.all false
set_option maxRecDepth 100000
set_option maxHeartbeats 4000000
set_option Elab.async false
namespace My
open PySem L2
section
variable {P : Program} {w : World} {K : PySem.W.Frag} {mg : Str → Option Value} {base : Heap} {t : Adr} {TB : List Addr} {LB : List (Addr × Str)}
/-! ### tree_maths -/
def adjE (E : List (Int × Int)) (i k : Int) : Prop := (i, k) ∈ E ∨ (k, i) ∈ E
/-- a letter that comes at last -/
inductive Rd (E : List (Int × Int)) : Int → Int → Prop where
  | mk {i j : Int} (h : ∀ k, adjE E i k → k ≠ j → Rd E k i) : Rd E i j
def AllRd (E : List (Int × Int)) : Prop := ∀ i j, Rd E i j
theorem Rd.same {E F : List (Int × Int)} (h : ∀ i k, adjE E i k ↔ adjE F i k) {i j : Int} (r : Rd E i j) : Rd F i j := by
  induction r with
  | mk _ ih => exact .mk fun k hk ne => ih k ((h _ k).mpr hk) ne
theorem rd_nil : AllRd [] := fun i j => .mk fun k h _ => h.elim (fun h => absurd h List.not_mem_nil) (fun h => absurd h List.not_mem_nil)
theorem rd_leaf {E E' : List (Int × Int)} {x y : Int} (h : AllRd E) (hx : ∀ p ∈ E, p.1 ≠ x ∧ p.2 ≠ x) (ne : x ≠ y) (ha : ∀ i k, adjE E' i k ↔ adjE E i k ∨ (i = x ∧ k = y) ∨ (i = y ∧ k = x)) : AllRd E' := by
  have fresh1 : ∀ k, ¬ adjE E x k := fun k a => a.elim (fun a => (hx _ a).1 rfl) (fun a => (hx _ a).2 rfl)
  have fresh2 : ∀ k, ¬ adjE E k x := fun k a => a.elim (fun a => (hx _ a).2 rfl) (fun a => (hx _ a).1 rfl)
  have xy : Rd E' x y := .mk fun k hk nk => by
    rcases (ha x k).mp hk with a | ⟨_, a⟩ | ⟨a, _⟩
    · exact absurd a (fresh1 k)
    · exact absurd a nk
    · exact absurd a ne
  have go : ∀ i j, Rd E i j → i ≠ x → Rd E' i j := fun i j r => by
    induction r with
    | mk hh ih =>
      rename_i i j
      intro ni
      refine .mk fun k hk nk => ?_
      rcases (ha i k).mp hk with a | ⟨a, _⟩ | ⟨a, b⟩
      · exact ih k a nk fun e => fresh2 i (e ▸ a)
      · exact absurd a ni
      · rw [a, b]; exact xy
  intro i j
  by_cases c : i = x
  · refine .mk fun k hk nk => ?_
    rw [c] at hk ⊢
    rcases (ha x k).mp hk with a | ⟨_, a⟩ | ⟨a, _⟩
    · exact absurd a (fresh1 k)
    · rw [a]; exact go y x (h y x) (Ne.symm ne)
    · exact absurd a ne
  · exact go i j (h i j) c
/-- ties that grow leaf by leaf -/
inductive Grow : List (Int × Int) → Prop where
  | nil : Grow []
  | last {E : List (Int × Int)} {x y : Int} (h : Grow E) (hx : ∀ p ∈ E, p.1 ≠ x ∧ p.2 ≠ x) (ne : x ≠ y) : Grow (E ++ [(y, x)])
  | head {E : List (Int × Int)} {x y : Int} (h : Grow E) (hx : ∀ p ∈ E, p.1 ≠ x ∧ p.2 ≠ x) (ne : x ≠ y) : Grow ((x, y) :: E)
theorem Grow.rd {E : List (Int × Int)} (g : Grow E) : AllRd E := by
  induction g with
  | nil => exact rd_nil
  | last h hx ne ih =>
    refine rd_leaf ih hx ne fun i k => ?_
    unfold adjE
    simp only [List.mem_append, List.mem_singleton, Prod.mk.injEq]
    constructor
    · rintro ((a | ⟨a, b⟩) | (a | ⟨a, b⟩))
      · exact .inl (.inl a)
      · exact .inr (.inr ⟨a, b⟩)
      · exact .inl (.inr a)
      · exact .inr (.inl ⟨b, a⟩)
    · rintro ((a | a) | ⟨a, b⟩ | ⟨a, b⟩)
      · exact .inl (.inl a)
      · exact .inr (.inl a)
      · exact .inr (.inr ⟨b, a⟩)
      · exact .inl (.inr ⟨a, b⟩)
  | head h hx ne ih =>
    refine rd_leaf ih hx ne fun i k => ?_
    unfold adjE
    simp only [List.mem_cons, Prod.mk.injEq]
    constructor
    · rintro ((⟨a, b⟩ | a) | (⟨a, b⟩ | a))
      · exact .inr (.inl ⟨a, b⟩)
      · exact .inl (.inl a)
      · exact .inr (.inr ⟨b, a⟩)
      · exact .inl (.inr a)
    · rintro ((a | a) | ⟨a, b⟩ | ⟨a, b⟩)
      · exact .inl (.inr a)
      · exact .inr (.inr a)
      · exact .inl (.inl ⟨a, b⟩)
      · exact .inr (.inl ⟨b, a⟩)
/-- other numbers for all ends -/
theorem Grow.map {E : List (Int × Int)} {n : Int} {f : Int → Int} (g : Grow E) (hf : ∀ i j, 0 ≤ i → i < n → 0 ≤ j → j < n → f i = f j → i = j) (hE : ∀ p ∈ E, (0 ≤ p.1 ∧ p.1 < n) ∧ (0 ≤ p.2 ∧ p.2 < n)) : Grow (E.map fun p => (f p.1, f p.2)) := by
  induction g with
  | nil => exact .nil
  | last h hx ne ih =>
    rename_i E x y
    have hE0 : ∀ p ∈ E, (0 ≤ p.1 ∧ p.1 < n) ∧ (0 ≤ p.2 ∧ p.2 < n) := fun p hp => hE p (List.mem_append_left _ hp)
    have hq := hE (y, x) (List.mem_append_right _ (List.mem_singleton.mpr rfl))
    rw [List.map_append, List.map_singleton]
    refine .last (ih hE0) (fun p hp => ?_) (fun e => ne (hf x y hq.2.1 hq.2.2 hq.1.1 hq.1.2 e))
    obtain ⟨r, hr, rfl⟩ := List.mem_map.mp hp
    have hi := hE0 r hr
    exact ⟨fun e => (hx r hr).1 (hf _ _ hi.1.1 hi.1.2 hq.2.1 hq.2.2 e), fun e => (hx r hr).2 (hf _ _ hi.2.1 hi.2.2 hq.2.1 hq.2.2 e)⟩
  | head h hx ne ih =>
    rename_i E x y
    have hE0 : ∀ p ∈ E, (0 ≤ p.1 ∧ p.1 < n) ∧ (0 ≤ p.2 ∧ p.2 < n) := fun p hp => hE p (List.mem_cons_of_mem _ hp)
    have hq := hE (x, y) (List.mem_cons_self ..)
    rw [List.map_cons]
    refine .head (ih hE0) (fun p hp => ?_) (fun e => ne (hf x y hq.1.1 hq.1.2 hq.2.1 hq.2.2 e))
    obtain ⟨r, hr, rfl⟩ := List.mem_map.mp hp
    have hi := hE0 r hr
    exact ⟨fun e => (hx r hr).1 (hf _ _ hi.1.1 hi.1.2 hq.1.1 hq.1.2 e), fun e => (hx r hr).2 (hf _ _ hi.2.1 hi.2.2 hq.1.1 hq.1.2 e)⟩
theorem near_mem {E : List (Int × Int)} {i k : Int} : k ∈ nearL E i ↔ adjE E i k := by
  unfold nearL adjE
  rw [List.mem_map]
  constructor
  · rintro ⟨p, hp, rfl⟩
    obtain ⟨h1, h2⟩ := List.mem_filter.mp hp
    rcases of_decide_eq_true h2 with e | e
    · refine .inl ?_
      have : (i, p.1 + p.2 - i) = p := Prod.ext e.symm (by show p.1 + p.2 - i = p.2; omega)
      rw [this]; exact h1
    · refine .inr ?_
      have : (p.1 + p.2 - i, i) = p := Prod.ext (by show p.1 + p.2 - i = p.1; omega) e.symm
      rw [this]; exact h1
  · rintro (h | h)
    · exact ⟨_, List.mem_filter.mpr ⟨h, decide_eq_true (.inl rfl)⟩, by show i + k - i = k; omega⟩
    · exact ⟨_, List.mem_filter.mpr ⟨h, decide_eq_true (.inr rfl)⟩, by show k + i - i = k; omega⟩
theorem dir_mem {E : List (Int × Int)} {i k : Int} : (i, k) ∈ dirE E ↔ adjE E i k := by
  unfold dirE adjE
  rw [List.mem_append, List.mem_map]
  constructor
  · rintro (h | ⟨p, hp, e⟩)
    · exact .inl h
    · refine .inr ?_
      have : (k, i) = p := Prod.ext (by have := congrArg Prod.snd e; exact this.symm) (by have := congrArg Prod.fst e; exact this.symm)
      rw [this]; exact hp
  · rintro (h | h)
    · exact .inl h
    · exact .inr ⟨_, h, rfl⟩
theorem adjE_comm {E : List (Int × Int)} {i k : Int} (h : adjE E i k) : adjE E k i := h.symm
/-- in a tree some letter can always be told -/
theorem live_tree {n : Nat} {E W : List (Int × Int)} {TD : List (List Int)} (g : AllRd E) (hin : ∀ p ∈ E, (0 ≤ p.1 ∧ p.1 < (n : Int)) ∧ (0 ≤ p.2 ∧ p.2 < (n : Int)) ∧ p.1 ≠ p.2) (tok : TiedOk n E TD) (hW : ∀ p, p ∈ W ↔ p ∈ dirE E) : Live TD W := by
  have nm : ∀ i k : Int, 0 ≤ i → i < n → (k ∈ nearOf TD i ↔ adjE E i k) := fun i k h0 h1 => by
    have := (tok.2 i.toNat (by omega)).1
    rw [show ((i.toNat : Nat) : Int) = i by omega] at this
    exact this.mem_iff.trans near_mem
  have ai : ∀ i k, adjE E i k → (0 ≤ i ∧ i < (n : Int)) ∧ (0 ≤ k ∧ k < (n : Int)) := fun i k h => by
    rcases h with h | h
    · have := hin _ h; exact ⟨this.1, this.2.1⟩
    · have := hin _ h; exact ⟨this.2.1, this.1⟩
  refine live_of (fun p hp k hk _ => ?_) (fun p hp => ?_)
  · have a := dir_mem.mp ((hW p).mp hp)
    have i1 := (ai _ _ a).1
    exact (hW _).mpr (dir_mem.mpr (adjE_comm ((nm p.1 k i1.1 i1.2).mp hk)))
  · have a := dir_mem.mp ((hW p).mp hp)
    have go : ∀ i j, Rd E i j → 0 ≤ i → i < (n : Int) → Rdy TD i j := fun i j r => by
      induction r with
      | mk hh ih =>
        rename_i i j
        intro h0 h1
        refine .mk fun k hk nk => ?_
        have ak := (nm i k h0 h1).mp hk
        have kk := (ai _ _ ak).2
        exact ih k ak nk kk.1 kk.2
    have i1 := (ai _ _ a).1
    exact go _ _ (g _ _) i1.1 i1.2
theorem near_len {E : List (Int × Int)} {i : Int} : (nearL E i).length ≤ E.length := by
  unfold nearL
  rw [List.length_map]
  exact List.length_filter_le _ _
/-- a pair, rising -/
def sortP (p : Int × Int) : Int × Int := if p.1 ≤ p.2 then p else (p.2, p.1)
theorem two_sorted {ms : List Int} {x y : Int} (h : ms.Perm [x, y]) (w : ms.Pairwise (· ≤ ·)) : ms = [(sortP (x, y)).1, (sortP (x, y)).2] := by
  refine List.Perm.eq_of_pairwise (le := fun x y => decide (x ≤ y)) (fun x y _ _ h1 h2 => by have := of_decide_eq_true h1; have := of_decide_eq_true h2; omega) (w.imp fun h => decide_eq_true h) ?_ (h.trans ?_)
  · unfold sortP
    split <;> rename_i c <;> simp at c ⊢ <;> omega
  · unfold sortP
    split
    · exact List.Perm.refl _
    · exact List.Perm.swap _ _ _
theorem sortP_or (p : Int × Int) : sortP p = p ∨ sortP p = swapP p := by
  unfold sortP swapP
  split
  · exact .inl rfl
  · exact .inr rfl
theorem sortP_adj (E : List (Int × Int)) (i k : Int) : adjE (E.map sortP) i k ↔ adjE E i k := by
  have one : ∀ i k, (i, k) ∈ E.map sortP → adjE E i k := fun i k h => by
    obtain ⟨p, hp, e⟩ := List.mem_map.mp h
    rcases sortP_or p with c | c
    · rw [c] at e; exact .inl (e ▸ hp)
    · rw [c] at e
      refine .inr ?_
      have : p = (k, i) := Prod.ext (congrArg Prod.snd e) (congrArg Prod.fst e)
      rw [← this]; exact hp
  constructor
  · rintro (h | h)
    · exact one _ _ h
    · exact (one _ _ h).symm
  · have two : ∀ i k, (i, k) ∈ E → adjE (E.map sortP) i k := fun i k h => by
      have : sortP (i, k) ∈ E.map sortP := List.mem_map.mpr ⟨_, h, rfl⟩
      rcases sortP_or (i, k) with c | c
      · rw [c] at this; exact .inl this
      · rw [c] at this; exact .inr this
    rintro (h | h)
    · exact two _ _ h
    · exact (two _ _ h).symm
theorem AllRd.same {E F : List (Int × Int)} (h : ∀ i k, adjE E i k ↔ adjE F i k) (r : AllRd E) : AllRd F := fun i j => (r i j).same h
theorem adj_perm {E F : List (Int × Int)} (h : E.Perm F) (i k : Int) : adjE E i k ↔ adjE F i k := by
  unfold adjE
  rw [h.mem_iff, h.mem_iff]
/-- other numbers, in an order -/
def fO (os : List Int) (i : Int) : Int := os.getD i.toNat 0
theorem ord_in {os : List Int} {n : Nat} (h : os.Perm ((List.range n).map Int.ofNat)) {i : Int} (h0 : 0 ≤ i) (h1 : i < n) : atI (os.map V.int) i = some (.int (fO os i)) ∧ 0 ≤ fO os i ∧ fO os i < n := by
  have ol : os.length = n := by rw [h.length_eq, List.length_map, List.length_range]
  have hi : i.toNat < os.length := by omega
  have e : os[i.toNat]? = some (fO os i) := by unfold fO; rw [List.getD_eq_getElem?_getD, List.getElem?_eq_getElem hi]; rfl
  refine ⟨?_, ?_⟩
  · have : atI (os.map V.int) ((i.toNat : Nat) : Int) = some (.int (fO os i)) := atI_nat (by rw [List.getElem?_map, e]; rfl)
    rw [show ((i.toNat : Nat) : Int) = i by omega] at this
    exact this
  · obtain ⟨k, hk, e⟩ := List.mem_map.mp (h.mem_iff.mp (List.mem_of_getElem? e))
    have := List.mem_range.mp hk
    have e : (k : Int) = fO os i := e
    omega
theorem ord_inj {os : List Int} {n : Nat} (h : os.Perm ((List.range n).map Int.ofNat)) (i j : Int) (i0 : 0 ≤ i) (i1 : i < n) (j0 : 0 ≤ j) (j1 : j < n) (e : fO os i = fO os j) : i = j := by
  have ol : os.length = n := by rw [h.length_eq, List.length_map, List.length_range]
  have nd : os.Nodup := by
    refine h.nodup_iff.mpr ?_
    rw [List.nodup_iff_pairwise_ne, List.pairwise_map]
    exact (List.nodup_iff_pairwise_ne.mp List.nodup_range).imp fun h e => h (Int.ofNat.inj e)
  have e1 : os[i.toNat]? = some (fO os i) := by unfold fO; rw [List.getD_eq_getElem?_getD, List.getElem?_eq_getElem (by omega)]; rfl
  have e2 : os[j.toNat]? = some (fO os j) := by unfold fO; rw [List.getD_eq_getElem?_getD, List.getElem?_eq_getElem (by omega)]; rfl
  have := (List.getElem?_inj (by omega) nd).mp (e1.trans ((congrArg some e).trans e2.symm))
  omega
def fP (os : List Int) (p : Int × Int) : Int × Int := sortP (fO os p.1, fO os p.2)
/-- a tree by its growing ties, other numbers, sorted -/
theorem grown_tree {os : List Int} {n : Nat} {Tt S : List (Int × Int)} (h : os.Perm ((List.range n).map Int.ofNat)) (g : Grow Tt) (hT : ∀ p ∈ Tt, (0 ≤ p.1 ∧ p.1 < (n : Int)) ∧ (0 ≤ p.2 ∧ p.2 < (n : Int)) ∧ p.1 ≠ p.2) (hS : S.Perm (Tt.map (fP os))) : AllRd S ∧ S.length = Tt.length ∧ ∀ p ∈ S, (0 ≤ p.1 ∧ p.1 < (n : Int)) ∧ (0 ≤ p.2 ∧ p.2 < (n : Int)) ∧ p.1 ≠ p.2 := by
  have g2 := g.map (n := (n : Int)) (f := fO os) (ord_inj h) fun p hp => ⟨(hT p hp).1, (hT p hp).2.1⟩
  have e : Tt.map (fP os) = (Tt.map fun p => (fO os p.1, fO os p.2)).map sortP := by rw [List.map_map]; rfl
  refine ⟨?_, by rw [hS.length_eq, List.length_map], fun p hp => ?_⟩
  · refine g2.rd.same fun i k => ?_
    rw [adj_perm hS, e, sortP_adj]
  · obtain ⟨q, hq, rfl⟩ := List.mem_map.mp (hS.mem_iff.mp hp)
    obtain ⟨⟨a1, a2⟩, ⟨b1, b2⟩, ne⟩ := hT q hq
    have o1 := (ord_in h a1 a2).2
    have o2 := (ord_in h b1 b2).2
    have ne2 : fO os q.1 ≠ fO os q.2 := fun e => ne (ord_inj h _ _ a1 a2 b1 b2 e)
    unfold fP
    rcases sortP_or (fO os q.1, fO os q.2) with c | c
    · rw [c]; exact ⟨o1, o2, ne2⟩
    · rw [c]; exact ⟨o2, o1, Ne.symm ne2⟩

/-! ### _law_gbare_tree -/
theorem tup_pairs {H : Hp} : ∀ {bs : List Addr} {ps : List (Int × Int)}, Paired (PrO H) bs ps → Paired (fun u (p : Int × Int) => ∃ z, u = V.ref z ∧ PrO H z p) (bs.map V.ref) ps
  | _, _, .nil => .nil
  | _, _, .cons h t => .cons ⟨_, rfl, h⟩ (tup_pairs t)
/-- a drawn tree of bags -/
def DTree (K : PySem.W.Frag) (H : Hp) (v : V) (n : Nat) (E : List (Int × Int)) : Prop := TreeT K H v n E ∧ AllRd E ∧ E.length < 30
def spBare (K : PySem.W.Frag) : Sp := fun vs H Q _ => ∃ (j : Addr) (m : Nat), vs = [.ref j, .int 12] ∧ ∃ lj : Addr, Jr H j lj m ∧ m ≤ 800000 ∧
  ∀ (v : V) (n : Nat) (E : List (Int × Int)) (H' : Hp), DTree K H' v n E → Jr H' j lj (m + 50) → Keep j H H' → Q v H'
theorem sc__law_gbare_tree : FnScope ["tape", "most", "many", "line", "turned", "ties", "k", "at", "bags"] ["tape", "most"] (defScope s__law_gbare_tree) := ⟨rfl, rfl, rfl, by decide +kernel, rfl, by decide +kernel, by decide +kernel⟩
theorem ok__law_gbare_tree {f : Addr} {fd fdd fdo : FuncData} (F : Fun K "_law_gbare_tree" "_law_gbare_tree" s__law_gbare_tree f fd) (T : Txt K mg t) (G__law_gdraw : FnOk P w K mg base CX0 3 t.f__law_gdraw fdd ["tape", "many"] spGDraw) (B__law_gdraw : Binds K fdd ["tape", "many"] []) (G__law_gorder : FnOk P w K mg base CX0 4 t.f__law_gorder fdo ["tape", "many"] spGOrder) (B__law_gorder : Binds K fdo ["tape", "many"] []) : FnOk P w K mg base CX0 5 f fd ["tape", "most"] (spBare K) := by
  have nd := sc__law_gbare_tree.nd
  refine F.ok sc__law_gbare_tree (fun vs H Q E h => ?_) (fun cdv A outer s H vs Q E hr h => ?_)
  · obtain ⟨j, m, rfl, _⟩ := h
    rfl
  · obtain ⟨j, m, rfl, lj, hj, hm, q⟩ := h
    refine ⟨_, (pss_cons (ps_set (i := 2) nd rfl (Or.inl rfl) (pe_op op_add pe_int (pe_call G__law_gdraw (hr.mono (by first | decide | omega)) (by rfl) T.m__law_gdraw T.k__law_gdraw B__law_gdraw .nil pass0 (pa_cons (pv 0) (pa_cons (pv 1) pa_nil))))) (pss_cons (ps_set (i := 3) nd rfl (Or.inl rfl) (pe_call G__law_gdraw (hr.mono (by first | decide | omega)) (by rfl) T.m__law_gdraw T.k__law_gdraw B__law_gdraw .nil pass0 (pa_cons (pv 0) (pa_cons pe_int pa_nil)))) (pss_cons (ps_set (i := 4) nd rfl (Or.inl rfl) (pe_call G__law_gorder (hr.mono (by first | decide | omega)) (by rfl) T.m__law_gorder T.k__law_gorder B__law_gorder .nil pass0 (pa_cons (pv 0) (pa_cons (pv 2) pa_nil)))) (pss_cons (ps_set (i := 5) nd rfl (Or.inl rfl) (pe_lst pa_nil)) (pss_cons (ps_for PassesOwn.never rfl (pi_range2 (by rfl) T.b_range (pa_cons pe_int (pa_cons (pv 2) pa_nil))) (pg_name (i := 6) nd rfl (Or.inl rfl)) (pss_cons (ps_set (i := 7) nd rfl (Or.inl rfl) (pe_ix ix_list (pe_lst (pa_cons (pe_call G__law_gdraw (hr.mono (by first | decide | omega)) (by rfl) T.m__law_gdraw T.k__law_gdraw B__law_gdraw .nil pass0 (pa_cons (pv 0) (pa_cons (pv 6) pa_nil))) (pa_cons (pe_op op_sub (pv 6) pe_int) (pa_cons pe_int pa_nil)))) (pv 3) (fun _ _ => rfl))) (pss_one (ps_expr (pe_bm PySem.F.plainAttrs_list PySem.F.slot_list_append PySem.F.type_list_append mt_append (pv 5) (pa_cons (pe_callTy call_tuple_of (by rfl) T.b_tuple (by decide +kernel) (pa_cons (pe_callB (cr_sorted2 rfl) (by rfl) T.b_sorted (by decide +kernel) (pa_cons (pe_tup (pa_cons (pe_ix ix_seq (pv 4) (pv 7) (fun _ _ => rfl)) (pa_cons (pe_ix ix_seq (pv 4) (pv 6) (fun _ _ => rfl)) pa_nil))) pa_nil)) pa_nil)) pa_nil)))))) (pss_cons (ps_set (i := 8) nd rfl (Or.inl rfl) (pe_op op_rep (pe_lst (pa_cons (pe_tup pa_nil) pa_nil)) (pv 2))) (pss_cons (ps_asg (pe_tup (pa_cons pe_int pa_nil)) (pg_sub (pv 8) (pe_call G__law_gdraw (hr.mono (by first | decide | omega)) (by rfl) T.m__law_gdraw T.k__law_gdraw B__law_gdraw .nil pass0 (pa_cons (pv 0) (pa_cons (pv 2) pa_nil))) set_list)) (pss_one (ps_ret (pe_tup (pa_cons (pe_callTy call_tuple_of (by rfl) T.b_tuple (by decide +kernel) (pa_cons (pv 8) pa_nil)) (pa_cons (pe_callTy call_tuple_of (by rfl) T.b_tuple (by decide +kernel) (pa_cons (pe_callB cr_sortedP (by rfl) T.b_sorted (by decide +kernel) (pa_cons (pv 5) pa_nil)) pa_nil)) pa_nil)))))))))))), ?_⟩
    refine ⟨_, rfl, _, rfl, j, 12, m, rfl, lj, hj, by omega, by decide, by decide, fun r H1 r0 r1 hj1 k1 => ?_⟩
    refine ⟨_, _, rfl, rfl, ?_⟩
    dsimp only [gName]
    refine ⟨_, rfl, j, 3, m + 1, rfl, lj, hj1, by omega, by decide, by decide, fun ln H2 l0 l1 hj2 k2 => ?_⟩
    obtain ⟨n, hn⟩ : ∃ n : Nat, 1 + r = (n : Int) := ⟨(1 + r).toNat, by omega⟩
    rw [hn]
    have n1 : 1 ≤ n := by omega
    have n12 : n ≤ 12 := by omega
    dsimp only [gName]
    refine ⟨_, rfl, _, rfl, j, m + 2, n, rfl, by omega, lj, hj2, by omega, fun ao os H3 nao hao pos hj3 k3 => ?_⟩
    refine ⟨by show 0 ≤ sizeLine; decide, fun td ntd => ?_⟩
    have y4 := ext_upd (o := .lst []) ntd
    have ntj := hj3.ne ntd
    have hj4 := y4.jr hj3
    have htd4 : (upd H3 td (.lst [])) td = some (.lst []) := upd_same
    have hao4 := y4 _ _ hao
    have k03 := (k1.trans k2).trans k3
    have ntH : H td = none := by
      cases e : H td with
      | none => rfl
      | some o => have := k03 _ _ e ntj.1; rw [ntd] at this; cases this
    have k4 : Keep j H (upd H3 td (.lst [])) := k03.trans y4.keep
    have naj := hj2.ne nao
    have aot : ao ≠ td := fun e => by rw [e, ntd] at hao; cases hao
    generalize upd H3 td (.lst []) = H4 at *
    dsimp only [gName]
    refine ⟨_, rfl, 1, _, rfl, ⟨by omega, by omega, by omega, by omega⟩, for_range (lo := 1) (n := ((n : Int) - 1).toNat) (fun i σ' H' => ∃ (as : List Addr) (Tt : List (Int × Int)) (p6 p7 : Option V), σ' = [some (.ref j), some (.int 12), some (.int n), some (.int ln), some (.ref ao), some (.ref td), p6, p7, none] ∧ H' td = some (.lst (as.map V.ref)) ∧ Paired (PrO H') as (Tt.map (fP os)) ∧ Grow Tt ∧ Tt.length = i ∧ (∀ p ∈ Tt, (0 ≤ p.1 ∧ p.1 < 1 + (i : Int)) ∧ (0 ≤ p.2 ∧ p.2 < 1 + (i : Int)) ∧ p.1 ≠ p.2) ∧ Jr H' j lj (m + 2 + n + i) ∧ Keep j H H' ∧ H' ao = some (.lst (os.map V.int))) ⟨[], [], _, _, rfl, htd4, .nil, .nil, rfl, (fun p hp => absurd hp List.not_mem_nil), hj4.mono (by omega), k4, hao4⟩ ?_ ?_⟩
    · rintro i σ' H5 hi ⟨as, Tt, p6, p7, rfl, htd5, pa, gr, tl, tin, hj5, k5, hao5⟩
      have in1 : 1 + (i : Int) < n := by omega
      refine ⟨_, rfl, _, rfl, j, 1 + (i : Int), _, rfl, lj, hj5, by omega, by omega, Int.lt_of_lt_of_le (show 1 + (i : Int) < 50 by omega) (by decide), fun r2 H6 r20 r21 hj6 k6 => ?_⟩
      have htd6 := k6 _ _ htd5 ntj.1
      have hao6 := k6 _ _ hao5 naj.1
      refine ⟨_, rfl, _, _, rfl, rfl, by show 3 ≤ sizeLine; decide, fun l3 nl3 => ?_⟩
      obtain ⟨at_, hat, a0, a1⟩ : ∃ at_ : Int, atI [V.int r2, .int (1 + (i : Int) - 1), .int 0] ln = some (.int at_) ∧ 0 ≤ at_ ∧ at_ < 1 + (i : Int) := by
        rcases (show ln = 0 ∨ ln = 1 ∨ ln = 2 by omega) with rfl | rfl | rfl
        · exact ⟨_, rfl, r20, r21⟩
        · exact ⟨_, rfl, by omega, by omega⟩
        · exact ⟨_, rfl, by omega, by omega⟩
      have y7 := ext_upd (o := .lst [V.int r2, .int (1 + (i : Int) - 1), .int 0]) nl3
      have hl7 : SqL K (upd H6 l3 (.lst [V.int r2, .int (1 + (i : Int) - 1), .int 0])) l3 [V.int r2, .int (1 + (i : Int) - 1), .int 0] := SqL.of upd_same
      have htd7 := y7 _ _ htd6
      have hao7 := y7 _ _ hao6
      have hj7 := y7.jr hj6
      have k7 := k6.trans y7.keep
      generalize upd H6 l3 (.lst [V.int r2, .int (1 + (i : Int) - 1), .int 0]) = H7 at *
      refine ⟨_, rfl, l3, _, ln, .int at_, rfl, rfl, hl7, hat, ?_⟩
      dsimp only [gName]
      have o1 := ord_in pos a0 (show at_ < n by omega)
      have o2 := ord_in pos (show 0 ≤ 1 + (i : Int) by omega) in1
      refine ⟨_, rfl, .inl ⟨rfl, _, SqL.of htd7⟩, _, rfl, _, rfl, .inl ⟨ao, _, at_, _, rfl, rfl, SqL.of hao7, o1.1, _, rfl, _, rfl, .inl ⟨ao, _, 1 + (i : Int), _, rfl, rfl, SqL.of hao7, o2.1, by show 2 ≤ sizeLine; decide, fun t8 nt8 => ?_⟩⟩⟩
      have y8 := ext_upd (o := .tup [V.int (fO os at_), .int (fO os (1 + (i : Int)))]) nt8
      refine ⟨t8, [fO os at_, fO os (1 + (i : Int))], rfl, .inr (SqT.of upd_same), by show 2 < 64; decide, fun ms q9 pm pw nq9 => ?_⟩
      have y9 := y8.trans (ext_upd (o := .lst (ms.map V.int)) nq9)
      refine ⟨q9, _, rfl, .inl ⟨SqL.of upd_same, fun tp ntp => ?_⟩⟩
      have y10 := y9.trans (ext_upd (o := .tup (ms.map V.int)) ntp)
      have hpr : PrO (upd (upd (upd H7 t8 (.tup [V.int (fO os at_), .int (fO os (1 + (i : Int)))])) q9 (.lst (ms.map V.int))) tp (.tup (ms.map V.int))) tp (fP os (at_, 1 + (i : Int))) := by
        show (upd _ tp _) tp = _
        rw [upd_same, two_sorted pm pw]
        rfl
      generalize upd (upd (upd H7 t8 (.tup [V.int (fO os at_), .int (fO os (1 + (i : Int)))])) q9 (.lst (ms.map V.int))) tp (.tup (ms.map V.int)) = H10 at *
      have htd10 := y10 _ _ htd7
      have hj10 := y10.jr hj7
      have k10 := k7.trans y10.keep
      have al := pa.length
      rw [List.length_map] at al
      have pa5 : Paired (PrO H10) as (Tt.map (fP os)) := Paired.mapP pa fun b p h => y10 _ _ (y7 _ _ (k6 _ _ h fun e => by
        obtain ⟨_, _, _, hjj, _⟩ := hj5
        have h : H5 b = some (.tup [.int p.1, .int p.2]) := h
        rw [e, hjj] at h; cases h))
      have up : ∀ {b : Addr} {q : Int × Int}, PrO H10 b q → PrO (upd H10 td (.lst (as.map V.ref ++ [V.ref tp]))) b q := fun {b q} h => by
        have nb : b ≠ td := fun e => by
          have h2 : H10 b = some (.tup [.int q.1, .int q.2]) := h
          rw [e, htd10] at h2; cases h2
        show (upd _ td _) b = _
        rw [upd_ne nb]; exact h
      refine ⟨td, _, _, rfl, rfl, htd10, by rw [List.length_map, sizeLine_eq]; omega, as ++ [tp], Tt ++ [(at_, 1 + (i : Int))], _, _, rfl, by rw [upd_same, List.map_append]; rfl, ?_, .last gr (fun p hp => ?_) (by omega), by rw [List.length_append, tl]; rfl, fun p hp => ?_, (hj10.upd ntj.1 ntj.2).mono (by omega), fun b o e nb => ?_, by rw [upd_ne aot]; exact y10 _ _ hao7⟩
      · rw [List.map_append]
        exact Paired.app (Paired.mapP pa5 fun _ _ h => up h) (.cons (up hpr) .nil)
      · have := tin p hp
        constructor <;> omega
      · rcases List.mem_append.mp hp with hp | hp
        · have := tin p hp
          refine ⟨⟨this.1.1, ?_⟩, ⟨this.2.1.1, ?_⟩, this.2.2⟩ <;> omega
        · rw [List.mem_singleton.mp hp]
          refine ⟨⟨a0, ?_⟩, ⟨?_, ?_⟩, ?_⟩ <;> show _ <;> dsimp only <;> omega
      · have nt : b ≠ td := fun z => by rw [z, ntH] at e; cases e
        rw [upd_ne nt]
        exact (k5.trans k10) b o e nb
    · rintro σ' H5 ⟨as, Tt, p6, p7, rfl, htd5, pa, gr, tl, tin, hj5, k5, hao5⟩
      refine ⟨by show 0 ≤ sizeLine; decide, fun t6 nt6 => ?_⟩
      have y6 := ext_upd (o := .tup []) nt6
      refine ⟨by show 1 ≤ sizeLine; decide, fun l6 nl6 => ?_⟩
      have y7 := y6.trans (ext_upd (o := .lst [V.ref t6]) nl6)
      refine ⟨_, rfl, l6, n, _, rfl, rfl, upd_same, by omega, by omega, by show 1 * _ ≤ sizeLine; rw [sizeLine_eq]; omega, fun bd nbd => ?_⟩
      obtain ⟨bg, hbg⟩ : ∃ bg, bg = (List.replicate ((n : Int)).toNat [V.ref t6]).flatten := ⟨_, rfl⟩
      have bgl : bg.length = n := by rw [hbg, len_rep, List.length_singleton]; omega
      rw [← hbg]
      have y8 := y7.trans (ext_upd (o := .lst bg) nbd)
      have hbd8 : (upd (upd (upd H5 t6 (.tup [])) l6 (.lst [V.ref t6])) bd (.lst bg)) bd = some (.lst bg) := upd_same
      have nb5 := none_back y7 nbd
      generalize upd (upd (upd H5 t6 (.tup [])) l6 (.lst [V.ref t6])) bd (.lst bg) = H8 at *
      dsimp only [gName]
      refine ⟨by show 1 ≤ sizeLine; decide, fun t9 nt9 => ?_⟩
      have y9 := y8.trans (ext_upd (o := .tup [V.int 0]) nt9)
      have hbd9 := (ext_upd (o := .tup [V.int 0]) nt9) _ _ hbd8
      have hj9 := y9.jr hj5
      generalize upd H8 t9 (.tup [V.int 0]) = H9 at *
      refine ⟨_, rfl, _, rfl, _, rfl, j, n, _, rfl, lj, hj9, by omega, by omega, Int.lt_of_lt_of_le (show (n : Int) < 50 by omega) (by decide), fun r5 H10 r50 r51 hj10 k10 => ?_⟩
      have nbj := hj5.ne nb5
      have hbd10 := k10 _ _ hbd9 nbj.1
      refine ⟨bd, _, r5, r5.toNat, rfl, rfl, hbd10, by unfold ixN; rw [if_pos r50, if_pos (by omega)], ?_⟩
      have kbd : Keep j H5 (upd H10 bd (.lst (bg.set r5.toNat (V.ref t9)))) := fun b o e nb => by
        have nd2 : b ≠ bd := fun z => by rw [z, nb5] at e; cases e
        rw [upd_ne nd2]
        exact k10 b o (y9 b o e) nb
      have hbd11 : (upd H10 bd (.lst (bg.set r5.toNat (V.ref t9)))) bd = some (.lst (bg.set r5.toNat (V.ref t9))) := upd_same
      have hj11 := hj10.upd (o := .lst (bg.set r5.toNat (V.ref t9))) nbj.1 nbj.2
      have bsl : (bg.set r5.toNat (V.ref t9)).length = n := by rw [List.length_set, bgl]
      generalize bg.set r5.toNat (V.ref t9) = bg2 at *
      generalize upd H10 bd (.lst bg2) = H11 at *
      have htd11 := kbd _ _ htd5 ntj.1
      have pa11 : Paired (PrO H11) as (Tt.map (fP os)) := Paired.mapP pa fun b p h => kbd _ _ h fun e => by
        obtain ⟨_, _, _, hjj, _⟩ := hj5
        have h : H5 b = some (.tup [.int p.1, .int p.2]) := h
        rw [e, hjj] at h; cases h
      have k11 := k5.trans kbd
      clear hbd10 hbd9 hbd8
      refine ⟨_, rfl, bd, _, rfl, .inl ⟨SqL.of hbd11, fun tb ntb => ?_⟩⟩
      have y12 := ext_upd (o := .tup bg2) ntb
      have htb : (upd H11 tb (.tup bg2)) tb = some (.tup bg2) := upd_same
      have htd12 := y12 _ _ htd11
      have pa12 : Paired (PrO (upd H11 tb (.tup bg2))) as (Tt.map (fP os)) := Paired.mapP pa11 fun _ _ h => y12 _ _ h
      have hj12 := y12.jr hj11
      have k12 := k11.trans y12.keep
      generalize upd H11 tb (.tup bg2) = H12 at *
      obtain ⟨mapT, hκ⟩ := pairs_at pa12
      refine ⟨_, rfl, td, as, (fun c => [(pairAt H12 c).1, (pairAt H12 c).2]), rfl, SqL.of htd12, fun c hc => SqT.of (hκ c hc), .inr (fun c hc e => by cases e), fun bs' sl pm pw nsl => ?_⟩
      obtain ⟨S, hS⟩ : ∃ S, S = bs'.map (pairAt H12) := ⟨_, rfl⟩
      have pS : Paired (PrO H12) bs' S := by
        rw [hS]
        exact paired_at fun c hc => hκ c (pm.mem_iff.mp hc)
      have permS : S.Perm (Tt.map (fP os)) := by
        rw [hS, ← mapT]
        exact pm.map _
      have y13 := ext_upd (o := .lst (bs'.map V.ref)) nsl
      refine ⟨sl, _, rfl, .inl ⟨SqL.of upd_same, fun tt ntt => ?_⟩⟩
      have y14 := y13.trans (ext_upd (o := .tup (bs'.map V.ref)) ntt)
      have htt : (upd (upd H12 sl (.lst (bs'.map V.ref))) tt (.tup (bs'.map V.ref))) tt = some (.tup (bs'.map V.ref)) := upd_same
      generalize upd (upd H12 sl (.lst (bs'.map V.ref))) tt (.tup (bs'.map V.ref)) = H14 at *
      refine ⟨by show 2 ≤ sizeLine; decide, fun rt nrt => ?_⟩
      have y15 := ext_upd (o := .tup [V.ref tb, .ref tt]) nrt
      have y25 := y14.trans y15
      have tin2 : ∀ p ∈ Tt, (0 ≤ p.1 ∧ p.1 < (n : Int)) ∧ (0 ≤ p.2 ∧ p.2 < (n : Int)) ∧ p.1 ≠ p.2 := fun p hp => by
        have := tin p hp
        refine ⟨⟨this.1.1, by omega⟩, ⟨this.2.1.1, by omega⟩, this.2.2⟩
      obtain ⟨g1, g2, g3⟩ := grown_tree pos gr tin2 permS
      refine q _ n S _ ⟨⟨⟨rt, tb, tt, bg2, bs'.map V.ref, rfl, SqT.of upd_same, SqT.of (y25 _ _ htb), bsl, SqT.of (y15 _ _ htt), ?_⟩, by omega, by omega, g3⟩, g1, by omega⟩ ((y25.jr hj12).mono (by omega)) (k12.trans y25.keep)
      exact tup_pairs (Paired.mapP pS fun _ _ h => y25 _ _ h)

end
end My

end
section
set_option linter.all false
set_option maxRecDepth 100000
set_option maxHeartbeats 4000000
set_option Elab.async false
namespace My
open PySem L2
section
variable {P : Program} {w : World} {K : PySem.W.Frag} {mg : Str → Option Value} {base : Heap} {t : Adr} {TB : List Addr} {LB : List (Addr × Str)}
/-! ### _law_gbags -/
theorem filter_two (p : Int → Bool) : ∀ L : List Int, L.length = (L.filter p).length + (L.filter fun y => !p y).length
  | [] => rfl
  | a :: L => by
    have ih := filter_two p L
    rw [List.filter_cons, List.filter_cons]
    cases p a with
    | true => show L.length + 1 = (L.filter p).length + 1 + _; simp; omega
    | false => show L.length + 1 = (L.filter p).length + ((L.filter fun y => !p y).length + 1); omega
theorem nodup_len : ∀ {n : Nat} {L : List Int}, L.Nodup → (∀ y ∈ L, 0 ≤ y ∧ y < (n : Int)) → L.length ≤ n
  | 0, [], _, _ => Nat.le_refl _
  | 0, a :: L, _, h => by have := h a (List.mem_cons_self ..); omega
  | n + 1, L, hn, h => by
    have ih := nodup_len (n := n) (L := L.filter fun y => decide (y < (n : Int))) (hn.filter _) fun y hy => by
      obtain ⟨h1, h2⟩ := List.mem_filter.mp hy
      exact ⟨(h y h1).1, of_decide_eq_true h2⟩
    have hc : (L.filter fun y => !decide (y < (n : Int))).length ≤ 1 := by
      have e : (L.filter fun y => !decide (y < (n : Int))) = L.filter (· == (n : Int)) := List.filter_congr fun y hy => by
        have := h y hy
        by_cases c : y < (n : Int)
        · rw [decide_eq_true c]; exact (beq_eq_false_iff_ne.mpr (by omega)).symm
        · rw [decide_eq_false c]; exact (beq_iff_eq.mpr (by omega)).symm
      rw [e, List.filter_beq, hn.count, List.length_replicate]
      split <;> omega
    have l1 := filter_two (fun y => decide (y < (n : Int))) L
    omega
theorem sl_listGK {X : Cx} {K : PySem.W.Frag} (h : X.K = K) : SlR X (rSlLG K) := by subst h; exact sl_listG
/-- a list of few names -/
def NL (H : Hp) (x : Addr) (n B : Nat) : Prop := ∃ zs : List Int, H x = some (.lst (zs.map V.int)) ∧ zs.length ≤ B ∧ ∀ z ∈ zs, 0 ≤ z ∧ z < (n : Int)
theorem NL.ext {H H' : Hp} {x : Addr} {n B B' : Nat} (e : Ext H H') (hb : B ≤ B') (h : NL H x n B) : NL H' x n B' := let ⟨zs, a, b, c⟩ := h; ⟨zs, e _ _ a, Nat.le_trans b hb, c⟩
theorem NL.mono {H : Hp} {x : Addr} {n B B' : Nat} (hb : B ≤ B') (h : NL H x n B) : NL H x n B' := h.ext (Ext.refl H) hb
theorem for_enumL {K : PySem.W.Frag} {a : Addr} {xs : List V} {g : TG} {tb : TS} {D : Ends} {σ : St} {H : Hp} (Pv : Nat → St → Hp → Prop) (h0 : Pv 0 σ H) (hl : ∀ i σ H, i ≤ xs.length → Pv i σ H → SqL K H a xs)
    (hs : ∀ i x T σ H, xs[i]? = some x → Pv i σ H → H T = none → g (.ref T) σ (upd H T (.tup [.int (i : Nat), x])) fun σ2 H2 => tb { D with nx := Pv (i + 1), ct := Pv (i + 1), bk := D.nx } σ2 H2) (hd : ∀ σ H, Pv xs.length σ H → D.nx σ H) :
    ∃ W : Nat → Nat → St → Hp → Prop, (∃ m, W 0 m σ H) ∧ ∀ i m σ H, W i m σ H →
      ((Ite K a).stop i H ∧ D.nx σ H) ∨ ((Ite K a).go i H ∧ ∃ N : St → Hp → Prop, (∀ σ' H', N σ' H' → ∃ m', m' < m ∧ W (i + 1) m' σ' H') ∧ ∀ x H', (Ite K a).yld i H x H' → g x σ H' fun σ2 H2 => tb { D with nx := N, ct := N, bk := D.nx } σ2 H2) := by
  refine ⟨fun i m σ H => m = xs.length - i ∧ i ≤ xs.length ∧ Pv i σ H, ⟨xs.length, by simp, Nat.zero_le _, h0⟩, ?_⟩
  rintro i m σ H ⟨rfl, hi, p⟩
  have q := hl i σ H hi p
  by_cases hlt : i < xs.length
  · refine .inr ⟨⟨xs, _, q, List.getElem?_eq_getElem hlt⟩, Pv (i + 1), fun σ' H' p' => ⟨xs.length - (i + 1), by omega, rfl, hlt, p'⟩, ?_⟩
    rintro v H' ⟨T, x, rfl, hT, rfl, c⟩
    exact hs i x T σ H (c _ q) p hT
  · obtain rfl : i = xs.length := by omega
    exact .inl ⟨⟨xs, q, Nat.le_refl _⟩, hd σ H p⟩
theorem IT.updB {K : PySem.W.Frag} {H : Hp} {u : V} {L : List Int} {D : Addr} {zs ys : List V} (h : IT K H u L) (hD : H D = some (.lst zs)) : IT K (upd H D (.lst ys)) u L := h.keep (Keep.upd) hD
/-- the lists of near names, each at its place -/
structure Nears (H0 H : Hp) (D C : Addr) (as : List Addr) (n B : Nat) : Prop where
  at_ : H D = some (.lst (as.map V.ref))
  len : as.length = n
  each : ∀ x ∈ as, NL H x n B ∧ x ≠ D ∧ x ≠ C ∧ H0 x = none
theorem Nears.ext {H0 H H' : Hp} {D C : Addr} {as : List Addr} {n B B' : Nat} (e : Ext H H') (hb : B ≤ B') (h : Nears H0 H D C as n B) : Nears H0 H' D C as n B' := ⟨e _ _ h.at_, h.len, fun x hx => ⟨(h.each x hx).1.ext e hb, (h.each x hx).2⟩⟩
theorem Nears.get {H0 H : Hp} {D C : Addr} {as : List Addr} {n B : Nat} (h : Nears H0 H D C as n B) {z : Int} (z0 : 0 ≤ z) (z1 : z < n) : ∃ x ∈ as, atI (as.map V.ref) z = some (.ref x) := by
  have hz : z.toNat < as.length := by rw [h.len]; omega
  refine ⟨as[z.toNat], List.getElem_mem hz, ?_⟩
  have : atI (as.map V.ref) ((z.toNat : Nat) : Int) = some (.ref as[z.toNat]) := atI_nat (by rw [List.getElem?_map, List.getElem?_eq_getElem hz]; rfl)
  rw [show ((z.toNat : Nat) : Int) = z by omega] at this
  exact this
def spGBags (K : PySem.W.Frag) : Sp := fun vs H Q _ => ∃ (v : V) (oa : Addr) (s : List Int × List (List Int × List Int)) (os : List Int), vs = [v, .ref oa] ∧ ShT K H v s ∧ H oa = some (.lst (os.map V.int)) ∧ os.Perm ((List.range s.1.length).map Int.ofNat) ∧ s.1.length ≤ 12 ∧ s.2.length ≤ 10 ∧ (∀ p ∈ s.2, p.1.length ≤ 3 ∧ ∀ y ∈ p.1, 0 ≤ y ∧ y < (s.1.length : Int)) ∧
  ∀ (r : Addr) (us : List V) (Bs : List (List Int)) (H' : Hp), Ext H H' → H r = none → H' r = some (.lst us) → Paired (IT K H') us Bs → Bs.length = s.1.length → (∀ B ∈ Bs, B.length ≤ 12 ∧ ∀ y ∈ B, 0 ≤ y ∧ y < (s.1.length : Int)) → Q (.ref r) H'
theorem sc__law_gbags : FnScope ["sheet", "order", "near", "name", "names", "worths", "bags", "k", "bag", "other"] ["sheet", "order"] (defScope s__law_gbags) := ⟨rfl, rfl, rfl, by decide +kernel, rfl, by decide +kernel, by decide +kernel⟩
theorem ok__law_gbags {f : Addr} {fd : FuncData} (F : Fun K "_law_gbags" "_law_gbags" s__law_gbags f fd) (T : Txt K mg t) : FnOk P w K mg base CX0 1 f fd ["sheet", "order"] (spGBags K) := by
  have nd := sc__law_gbags.nd
  refine F.ok sc__law_gbags (fun vs H Q E h => ?_) (fun cdv A outer s H vs Q E hr h => ?_)
  · obtain ⟨v, oa, s, os, rfl, _⟩ := h
    rfl
  · obtain ⟨v, oa, ⟨ns, ps⟩, os, rfl, ⟨sa, _, b, us, rfl, hsa, ⟨za, rfl, hza⟩, hb, pu⟩, hoa, pos, n12, p10, hps, q⟩ := h
    have hza : SqT K H za (ns.map V.int) := hza
    have pu : Paired (PtT K H) us ps := pu
    have n12 : ns.length ≤ 12 := n12
    have pos : os.Perm ((List.range ns.length).map Int.ofNat) := pos
    have p10 : ps.length ≤ 10 := p10
    refine ⟨_, (pss_cons (ps_set (i := 2) nd rfl (Or.inl rfl) (pe_lst pa_nil)) (pss_cons (ps_for PassesOwn.never rfl (pi_range1 (by rfl) T.b_range (pa_cons (pe_callB call_len_seq (by rfl) T.b_len (by decide +kernel) (pa_cons (pe_ix ix_seq (pv 0) pe_int (fun _ _ => rfl)) pa_nil)) pa_nil)) (pg_name (i := 3) nd rfl (Or.inl rfl)) (pss_cons (ps_expr (pe_bm PySem.F.plainAttrs_list PySem.F.slot_list_append PySem.F.type_list_append mt_append (pv 2) (pa_cons (pe_lst (pa_cons (pv 3) pa_nil)) pa_nil))) (pss_one (ps_for PassesOwn.never rfl (pi_alt (pi_list (pe_ix ix_seq (pv 0) pe_int (fun _ _ => rfl))) (pi_tup (pe_ix ix_seq (pv 0) pe_int (fun _ _ => rfl)))) (pg_tup (by rfl) (pgs_cons (pg_name (i := 4) nd rfl (Or.inl rfl)) (pgs_cons (pg_name (i := 5) nd rfl (Or.inl rfl)) pgs_nil))) (pss_one (ps_if (pt_cmpR op_in_seq (pv 3) (pv 4) (by rfl)) (pss_one (ps_expr (pe_bm PySem.F.plainAttrs_list PySem.F.slot_list_extend PySem.F.type_list_extend mt_extendG (pe_ix ix_seq (pv 2) (pv 3) (fun _ _ => rfl)) (pa_cons (pv 4) pa_nil)))) pss_nil)))))) (pss_cons (ps_set (i := 6) nd rfl (Or.inl rfl) (pe_lst pa_nil)) (pss_cons (ps_for PassesOwn.never rfl (pi_enum (by rfl) T.b_enumerate (pa_cons (pv 1) pa_nil)) (pg_tup (by rfl) (pgs_cons (pg_name (i := 7) nd rfl (Or.inr rfl)) (pgs_cons (pg_name (i := 3) nd rfl (Or.inl rfl)) pgs_nil))) (pss_cons (ps_set (i := 8) nd rfl (Or.inl rfl) (pe_callB (cr_sortedX rfl) (by rfl) T.b_sorted (by decide +kernel) (pa_cons (pe_callTy (cr_setOf rfl) (by rfl) T.b_set (by decide +kernel) (pa_cons (pe_lc (own := [("other", 9)]) (by rfl) nd (pi_alt (pi_list (pe_ix ix_seq (pv 2) (pv 3) (fun _ _ => rfl))) (pi_tup (pe_ix ix_seq (pv 2) (pv 3) (fun _ _ => rfl)))) (blkOk_by (own := [("other", 9)]) rfl) (fun _ _ _ _ _ => (pg_name (i := 9) nd rfl (Or.inl rfl))) (fun _ _ _ _ _ => (pts_one (pt_cmpR (op_notIn_seqK (K := K) rfl) (pv 9) (pe_slice (sl_listGK (K := K) rfl) (pv 1) po_none (po_some (pv 7))) (by rfl)))) (fun _ _ _ _ _ => (pv 9))) pa_nil)) pa_nil))) (pss_cons (ps_for PassesOwn.never rfl (pi_alt (pi_list (pv 8)) (pi_tup (pv 8))) (pg_name (i := 9) nd rfl (Or.inl rfl)) (pss_one (ps_expr (pe_bm PySem.F.plainAttrs_list PySem.F.slot_list_extend PySem.F.type_list_extend mt_extendG (pe_ix ix_seq (pv 2) (pv 9) (fun _ _ => rfl)) (pa_cons (pv 8) pa_nil))))) (pss_one (ps_expr (pe_bm PySem.F.plainAttrs_list PySem.F.slot_list_append PySem.F.type_list_append mt_append (pv 6) (pa_cons (pe_callTy call_tuple_of (by rfl) T.b_tuple (by decide +kernel) (pa_cons (pv 8) pa_nil)) pa_nil))))))) (pss_one (ps_ret (pv 6))))))), ?_⟩
    refine ⟨(by show 0 ≤ sizeLine; decide), fun D nD => ?_⟩
    have y0 := ext_upd (o := .lst []) nD
    dsimp only [gName]
    refine ⟨_, rfl, .inr (.inl ⟨sa, _, 0, _, rfl, rfl, y0.sqT hsa, rfl, za, _, rfl, .inr (y0.sqT hza), _, rfl, (by omega), (by rw [List.length_map]; omega), for_range (n := (((ns.map V.int).length : Nat) : Int).toNat) (fun i σ' H' => ∃ (o3 o4 o5 : Option V) (as : List Addr), σ' = [some (.ref sa), some (.ref oa), some (.ref D), o3, o4, o5, none, none, none, none] ∧ H' D = some (.lst (as.map V.ref)) ∧ as.length = i ∧ (∀ x ∈ as, NL H' x ns.length 31 ∧ x ≠ D ∧ H x = none) ∧ Ext H H') ⟨none, none, none, [], rfl, upd_same, rfl, (fun x hx => absurd hx List.not_mem_nil), y0⟩ ?_ ?_⟩)⟩
    · rintro i σ' H1 hi ⟨o3, o4, o5, as, rfl, hD, al, hx, x1⟩
      have hi : i < ns.length := by rw [List.length_map] at hi; omega
      dsimp only [gName]
      refine ⟨_, rfl, .inl ⟨rfl, _, SqL.of hD⟩, _, rfl, (by show 1 ≤ sizeLine; decide), fun M nM => ?_⟩
      have y1 := ext_upd (o := .lst [V.int (0 + (i : Int))]) nM
      have hM1 : (upd H1 M (.lst [V.int (0 + (i : Int))])) M = some (.lst [V.int (0 + (i : Int))]) := upd_same
      have hD1 := y1 _ _ hD
      have MD : M ≠ D := fun e => by rw [e, hD] at nM; cases nM
      have nMH := none_back x1 nM
      refine ⟨D, _, _, rfl, rfl, hD1, by rw [List.length_map, sizeLine_eq]; omega, ?_⟩
      have hxN : ∀ x ∈ as, NL (upd (upd H1 M (.lst [V.int (0 + (i : Int))])) D (.lst (as.map V.ref ++ [V.ref M]))) x ns.length 31 ∧ x ≠ D ∧ x ≠ M ∧ H x = none := fun x h => by
        obtain ⟨⟨zs, h1, h2, h3⟩, xD, xH⟩ := hx x h
        exact ⟨⟨zs, by rw [upd_ne xD]; exact y1 _ _ h1, h2, h3⟩, xD, (fun e => by rw [e, nM] at h1; cases h1), xH⟩
      have hM2 : (upd (upd H1 M (.lst [V.int (0 + (i : Int))])) D (.lst (as.map V.ref ++ [V.ref M]))) M = some (.lst ([0 + (i : Int)].map V.int)) := by rw [upd_ne MD]; exact hM1
      have hD2 : (upd (upd H1 M (.lst [V.int (0 + (i : Int))])) D (.lst (as.map V.ref ++ [V.ref M]))) D = some (.lst ((as ++ [M]).map V.ref)) := by rw [upd_same, List.map_append]; rfl
      have x2 : Ext H (upd (upd H1 M (.lst [V.int (0 + (i : Int))])) D (.lst (as.map V.ref ++ [V.ref M]))) := ext_new (x1.trans y1) nD
      generalize upd (upd H1 M (.lst [V.int (0 + (i : Int))])) D (.lst (as.map V.ref ++ [V.ref M])) = H2 at *
      have atM : atI ((as ++ [M]).map V.ref) (0 + (i : Int)) = some (.ref M) := by
        rw [Int.zero_add]
        refine atI_nat ?_
        rw [List.getElem?_map, List.getElem?_append_right (by omega), al, Nat.sub_self]
        rfl
      refine .inr ⟨_, rfl, .inr (.inl ⟨sa, _, 1, _, rfl, rfl, x2.sqT hsa, rfl, b, rfl, ⟨_, x2.sqT hb⟩, for_tup (K := K) (a := b) (xs := us) (fun k σ' H' => ∃ (o4 o5 : Option V) (N : List Int), σ' = [some (.ref sa), some (.ref oa), some (.ref D), some (.int (0 + (i : Int))), o4, o5, none, none, none, none] ∧ H' M = some (.lst (N.map V.int)) ∧ N.length ≤ 1 + k * 3 ∧ (∀ y ∈ N, 0 ≤ y ∧ y < (ns.length : Int)) ∧ Keep M H2 H') ⟨_, _, _, rfl, hM2, Nat.le_refl _, (fun y hy => by rw [List.mem_singleton.mp hy]; omega), Keep.refl _ _⟩ (fun k σ' H' _ ⟨_, _, _, _, _, _, _, e⟩ => (Ext_keepJ x2 nMH e).sqT hb) ?_ ?_⟩)⟩
      · rintro k y σ' H3 hy ⟨q4, q5, N, rfl, hM, Nl, Nin, k3⟩
        have x3 : Ext H H3 := Ext_keepJ x2 nMH k3
        obtain ⟨p, hp, pa, xn, xw, rfl, hpa, ⟨na, rfl, hna⟩, ⟨wa, rfl, hwa⟩⟩ := Paired.at pu hy
        have hk := (List.getElem?_eq_some_iff.mp hp).1
        obtain ⟨pl3, pin⟩ := hps p (List.mem_of_getElem? hp)
        refine ⟨pa, _, rfl, x3.sqT hpa, rfl, _, _, rfl, _, _, rfl, rfl, ?_⟩
        dsimp only [gName]
        refine ⟨_, rfl, _, rfl, na, _, rfl, .inr (x3.sqT hna), rfl, flat_intsW _, _, rfl, ?_⟩
        show if (inV (V.int (0 + (i : Int))) (p.1.map V.int)) = true then _ else _
        rw [inV_int]
        have hD3 := k3 _ _ hD2 (Ne.symm MD)
        by_cases c : (0 : Int) + (i : Int) ∈ p.1
        · rw [decide_eq_true c]
          refine iteT ⟨_, rfl, _, rfl, .inl ⟨D, _, 0 + (i : Int), .ref M, rfl, rfl, SqL.of hD3, atM, .inl ⟨rfl, _, SqL.of hM⟩, _, rfl, M, na, _, _, rfl, rfl, hM, .inr (x3.sqT hna), by rw [List.length_map, List.length_map, sizeLine_eq]; omega, _, _, N ++ p.1, rfl, by rw [upd_same, List.map_append], by rw [List.length_append]; omega, fun y hy => ?_, k3.trans Keep.upd⟩⟩
          rcases List.mem_append.mp hy with h | h
          · exact Nin y h
          · exact pin y h
        · rw [decide_eq_false c]
          exact iteF ⟨_, _, N, rfl, hM, by omega, Nin, k3⟩
      · rintro σ' H3 ⟨q4, q5, N, rfl, hM, Nl, Nin, k3⟩
        have pul := pu.length
        refine ⟨_, _, _, as ++ [M], rfl, k3 _ _ hD2 (Ne.symm MD), by rw [List.length_append, al]; rfl, fun x hx => ?_, Ext_keepJ x2 nMH k3⟩
        rcases List.mem_append.mp hx with h | h
        · obtain ⟨⟨zs, h1, h2, h3⟩, xD, xM, xH⟩ := hxN x h
          exact ⟨⟨zs, k3 _ _ h1 xM, h2, h3⟩, xD, xH⟩
        · rw [List.mem_singleton.mp h]
          exact ⟨⟨N, hM, by omega, Nin⟩, MD, nMH⟩
    · rintro σ' H1 ⟨o3, o4, o5, as, rfl, hD, al, hx, x1⟩
      have al : as.length = ns.length := by rw [al, List.length_map]; omega
      refine ⟨(by show 0 ≤ sizeLine; decide), fun C nC => ?_⟩
      have y1 := ext_upd (o := .lst []) nC
      have hC : (upd H1 C (.lst [])) C = some (.lst []) := upd_same
      have hD1 := y1 _ _ hD
      have nCH := none_back x1 nC
      have CD : C ≠ D := fun e => by rw [e, hD] at nC; cases nC
      have hx1 : ∀ x ∈ as, NL (upd H1 C (.lst [])) x ns.length 31 ∧ x ≠ D ∧ x ≠ C ∧ H x = none := fun x h => ⟨(hx x h).1.ext y1 (Nat.le_refl _), (hx x h).2.1, (fun e => by obtain ⟨_, h, _⟩ := (hx x h).1; rw [e, nC] at h; cases h), (hx x h).2.2⟩
      have x2 := x1.trans y1
      generalize upd H1 C (.lst []) = H2 at *
      dsimp only [gName]
      have hoa2 := x2 _ _ hoa
      have ol : os.length = ns.length := by rw [pos.length_eq, List.length_map, List.length_range]
      refine ⟨_, rfl, oa, _, rfl, SqL.of hoa2, for_enumL (K := K) (a := oa) (xs := os.map V.int) (fun k σ' H' => ∃ (o3 o4 o5 o7 o8 o9 : Option V) (us : List V) (Bs : List (List Int)), σ' = [some (.ref sa), some (.ref oa), some (.ref D), o3, o4, o5, some (.ref C), o7, o8, o9] ∧ H' C = some (.lst us) ∧ Paired (IT K H') us Bs ∧ Bs.length = k ∧ (∀ B ∈ Bs, B.length ≤ 12 ∧ ∀ y ∈ B, 0 ≤ y ∧ y < (ns.length : Int)) ∧ Nears H H' D C as ns.length (31 + 144 * k) ∧ Ext H H') ⟨_, _, _, _, _, _, [], [], rfl, hC, .nil, rfl, (fun B hB => absurd hB List.not_mem_nil), ⟨hD1, al, hx1⟩, x2⟩ (fun k σ' H' _ ⟨_, _, _, _, _, _, _, _, _, _, _, _, _, _, e⟩ => SqL.of (e _ _ hoa)) ?_ ?_⟩
      · rintro k u T σ' H3 hu ⟨q3, q4, q5, q7, q8, q9, us2, Bs, rfl, hC3, pB, Bl, Bin, nr, x3⟩ nT
        obtain ⟨z, hz, rfl⟩ := int_at hu
        have kl := (List.getElem?_eq_some_iff.mp hz).1
        have zin : 0 ≤ z ∧ z < (ns.length : Int) := by
          obtain ⟨k', hk', e⟩ := List.mem_map.mp (pos.mem_iff.mp (List.mem_of_getElem? hz))
          have := List.mem_range.mp hk'
          have e : (k' : Int) = z := e
          omega
        have y4 := ext_upd (o := .tup [.int (k : Nat), V.int z]) nT
        have hT : SqT K (upd H3 T (.tup [.int (k : Nat), V.int z])) T [.int (k : Nat), V.int z] := SqT.of upd_same
        have hC4 := y4 _ _ hC3
        have pB4 : Paired (IT K (upd H3 T (.tup [.int (k : Nat), V.int z]))) us2 Bs := Paired.mapP pB fun _ _ h => h.ext y4
        have nr4 := nr.ext y4 (Nat.le_refl _)
        have x4 := x3.trans y4
        generalize upd H3 T (.tup [.int (k : Nat), V.int z]) = H4 at *
        refine ⟨T, _, rfl, hT, rfl, _, _, rfl, _, _, rfl, rfl, ?_⟩
        dsimp only [gName]
        obtain ⟨xz, xzm, atz⟩ := nr4.get zin.1 zin.2
        obtain ⟨zs, hzs, zsl, zsin⟩ := (nr4.each xz xzm).1
        refine .inl ⟨_, rfl, _, rfl, .inl ⟨D, _, z, .ref xz, rfl, rfl, SqL.of nr4.at_, atz, xz, rfl, ⟨_, SqL.of hzs⟩, fun L nL => ?_⟩⟩
        refine W_list (K := K) (a := xz) (xs := zs.map V.int) (fun c H' => ∃ ws : List Int, H' L = some (.lst (ws.map V.int)) ∧ ws.length ≤ c ∧ (∀ y ∈ ws, 0 ≤ y ∧ y < (ns.length : Int)) ∧ Ext H4 H') ⟨[], upd_same, Nat.le_refl _, (fun y h => absurd h List.not_mem_nil), ext_upd nL⟩ (fun c H' _ ⟨_, _, _, _, e⟩ => SqL.of (e _ _ hzs)) ?_ ?_
        · rintro c u H5 hu ⟨ws, hL, wl, win, x5⟩
          obtain ⟨y, hy, rfl⟩ := int_at hu
          have cl := (List.getElem?_eq_some_iff.mp hy).1
          refine ⟨rfl, _, rfl, _, rfl, _, rfl, _, rfl, oa, _, rfl, SqL.of ((x4.trans x5) _ _ hoa), fun pc H6 x6 npc hpc => ?_⟩
          refine ⟨pc, _, rfl, .inl (SqL.of hpc), rfl, List.all_eq_true.mpr fun v hv => ?_, _, rfl, ?_⟩
          · obtain ⟨_, _, rfl⟩ := List.mem_map.mp (cutV_mem hv)
            rfl
          have x56 := x5.trans x6
          have hL6 := x6 _ _ hL
          show if (!inV (V.int y) (cutV (os.map V.int) none (some ((k : Nat) : Int)))) = true then _ else _
          generalize (!inV (V.int y) (cutV (os.map V.int) none (some ((k : Nat) : Int)))) = bb
          cases bb with
          | true =>
            refine iteT ⟨_, rfl, _, hL6, by rw [List.length_map, sizeLine_eq]; omega, ws ++ [y], by rw [upd_same, List.map_append]; rfl, by rw [List.length_append, List.length_singleton]; omega, fun v hv => ?_, ext_new x56 nL⟩
            rcases List.mem_append.mp hv with h | h
            · exact win v h
            · rw [List.mem_singleton.mp h]; exact zsin y (List.mem_of_getElem? hy)
          | false => exact iteF ⟨ws, hL6, by omega, win, x56⟩
        · rintro H5 ⟨ws, hL, wl, win, x5⟩
          rw [List.length_map] at wl
          refine ⟨L, ws, rfl, .inl (SqL.of hL), (by show _ < 4096; omega), fun pk ks npk ndk memk lenk => ?_⟩
          refine ⟨pk, ks, rfl, upd_same, fun bag pS perm srt nS => ?_⟩
          have y6 := (ext_upd npk).trans (ext_upd (o := .lst (bag.map V.int)) nS)
          generalize hH6 : upd (upd H5 pk _) pS (.lst (bag.map V.int)) = H6 at *
          have hpS : H6 pS = some (.lst (bag.map V.int)) := by rw [← hH6, upd_same]
          have nS5 : H5 pS = none := none_back (ext_upd npk) nS
          have binn : ∀ y ∈ bag, 0 ≤ y ∧ y < (ns.length : Int) := fun y hy => win y ((memk y).mp (perm.mem_iff.mp hy))
          have bl := nodup_len (perm.nodup_iff.mpr ndk) binn
          have x46 := x5.trans y6
          have nr6 := nr4.ext x46 (Nat.le_refl _)
          have hC6 := x46 _ _ hC4
          have pB6 : Paired (IT K H6) us2 Bs := Paired.mapP pB4 fun _ _ h => h.ext x46
          have x6 := x4.trans x46
          have nSH : H pS = none := none_back (x4.trans x5) nS5
          have pSne : ∀ x ∈ as, pS ≠ x := fun x hx e => by
            obtain ⟨_, h, _⟩ := (nr4.each x hx).1
            have := x5 _ _ h
            rw [← e, nS5] at this; cases this
          have pSC : pS ≠ C := fun e => by
            have := x5 _ _ hC4
            rw [← e, nS5] at this; cases this
          dsimp only [gName]
          refine .inl ⟨_, rfl, pS, rfl, ⟨_, SqL.of hpS⟩, for_list (K := K) (a := pS) (xs := bag.map V.int) (fun c σ' H' => ∃ (o9 : Option V), σ' = [some (.ref sa), some (.ref oa), some (.ref D), some (.int z), q4, q5, some (.ref C), some (.int k), some (.ref pS), o9] ∧ H' pS = some (.lst (bag.map V.int)) ∧ H' C = some (.lst us2) ∧ Paired (IT K H') us2 Bs ∧ Nears H H' D C as ns.length (31 + 144 * k + 12 * c) ∧ Ext H H') ⟨_, rfl, hpS, hC6, pB6, nr6, x6⟩ (fun c σ' H' _ ⟨_, _, h, _⟩ => SqL.of h) ?_ ?_⟩
          · rintro c u σ' H7 hu ⟨o9, rfl, hpS7, hC7, pB7, nr7, x7⟩
            obtain ⟨y, hy, rfl⟩ := int_at hu
            have cl := (List.getElem?_eq_some_iff.mp hy).1
            have yin := binn y (List.mem_of_getElem? hy)
            obtain ⟨xy, xym, aty⟩ := nr7.get yin.1 yin.2
            obtain ⟨⟨ys, hys, ysl, ysin⟩, xyD, xyC, xyH⟩ := nr7.each xy xym
            refine ⟨_, rfl, _, rfl, .inl ⟨D, _, y, .ref xy, rfl, rfl, SqL.of nr7.at_, aty, .inl ⟨rfl, _, SqL.of hys⟩, _, rfl, xy, pS, _, _, rfl, rfl, hys, .inl (SqL.of hpS7), by rw [List.length_map, List.length_map, sizeLine_eq]; omega, _, rfl, by rw [upd_ne (pSne xy xym)]; exact hpS7, by rw [upd_ne (Ne.symm xyC)]; exact hC7, Paired.mapP pB7 fun _ _ h => IT.updB h hys, ⟨by rw [upd_ne (Ne.symm xyD)]; exact nr7.at_, nr7.len, fun x hx => ?_⟩, ext_new x7 xyH⟩⟩
            by_cases e : x = xy
            · rw [e]
              refine ⟨⟨ys ++ bag, by rw [upd_same, List.map_append], by rw [List.length_append]; omega, fun v hv => ?_⟩, xyD, xyC, xyH⟩
              rcases List.mem_append.mp hv with h | h
              · exact ysin v h
              · exact binn v h
            · obtain ⟨⟨ws', h1, h2, h3⟩, h4⟩ := nr7.each x hx
              exact ⟨⟨ws', by rw [upd_ne e]; exact h1, by omega, h3⟩, h4⟩
          · rintro σ' H7 ⟨o9, rfl, hpS7, hC7, pB7, nr7, x7⟩
            rw [List.length_map] at nr7
            have pBl := pB7.length
            refine ⟨_, rfl, .inl ⟨rfl, _, SqL.of hC7⟩, _, rfl, pS, _, rfl, .inl ⟨SqL.of hpS7, fun tb ntb => ?_⟩⟩
            have y8 := ext_upd (o := .tup (bag.map V.int)) ntb
            have htb : IT K (upd H7 tb (.tup (bag.map V.int))) (.ref tb) bag := ⟨tb, rfl, SqT.of upd_same⟩
            have hC8 := y8 _ _ hC7
            have nr8 := nr7.ext y8 (Nat.le_refl _)
            have pB8 : Paired (IT K (upd H7 tb (.tup (bag.map V.int)))) us2 Bs := Paired.mapP pB7 fun _ _ h => h.ext y8
            have x8 := x7.trans y8
            generalize upd H7 tb (.tup (bag.map V.int)) = H8 at *
            refine ⟨C, _, _, rfl, rfl, hC8, by rw [sizeLine_eq]; omega, _, _, _, _, _, _, us2 ++ [.ref tb], Bs ++ [bag], rfl, upd_same, Paired.app (Paired.mapP pB8 fun _ _ h => IT.updB h hC8) (.cons (IT.updB htb hC8) .nil), by rw [List.length_append, Bl]; rfl, fun B hB => ?_, ⟨by rw [upd_ne (Ne.symm CD)]; exact nr8.at_, nr8.len, fun x hx => ?_⟩, ext_new x8 nCH⟩
            · rcases List.mem_append.mp hB with h | h
              · exact Bin B h
              · rw [List.mem_singleton.mp h]; exact ⟨by omega, binn⟩
            · obtain ⟨⟨ws', h1, h2, h3⟩, h4, h5, h6⟩ := nr8.each x hx
              exact ⟨⟨ws', by rw [upd_ne h5]; exact h1, by omega, h3⟩, h4, h5, h6⟩
      · rintro σ' H3 ⟨q3, q4, q5, q7, q8, q9, us2, Bs, rfl, hC3, pB, Bl, Bin, nr, x3⟩
        refine ⟨_, rfl, q C us2 Bs H3 x3 nCH hC3 pB ?_ Bin⟩
        show Bs.length = ns.length
        rw [Bl, List.length_map, ol]

end
end My

end
section
set_option linter.all false
set_option maxRecDepth 100000
set_option maxHeartbeats 4000000
set_option Elab.async false
namespace My
open PySem L2
section
variable {P : Program} {w : World} {K : PySem.W.Frag} {mg : Str → Option Value} {base : Heap} {t : Adr} {TB : List Addr} {LB : List (Addr × Str)}
/-! ### _law_gtree -/
theorem mt_indexK {X : Cx} {K : PySem.W.Frag} (h : X.K = K) : MtR X "list.index" (rIndex K) := by subst h; exact mt_index
theorem first_at : ∀ {os : List Int} {k : Int}, k ∈ os → ∃ jx : Nat, (os.map V.int)[jx]? = some (.int k) ∧ ∀ (m : Nat) (z : V), m < jx → (os.map V.int)[m]? = some z → eqV z (.int k) = false
  | [], _, h => absurd h List.not_mem_nil
  | o :: os, k, h => by
    by_cases e : o = k
    · exact ⟨0, by rw [e]; rfl, fun m z hm _ => by omega⟩
    · rcases List.mem_cons.mp h with h | h
      · exact absurd h.symm e
      · obtain ⟨jx, h1, h2⟩ := first_at h
        refine ⟨jx + 1, h1, fun m z hm hz => ?_⟩
        cases m with
        | zero =>
          have : z = .int o := (Option.some.inj hz).symm
          rw [this]
          exact beq_eq_false_iff_ne.mpr e
        | succ m => exact h2 m z (by omega) hz
def Up : Nat → List (Int × Int) → Prop
  | _, [] => True
  | k, p :: T => p.1 = (k : Int) ∧ (k : Int) < p.2 ∧ Up (k + 1) T
theorem Up.low : ∀ {T : List (Int × Int)} {k : Nat}, Up k T → ∀ p ∈ T, (k : Int) ≤ p.1 ∧ (k : Int) < p.2 ∧ p.1 < p.2
  | [], _, _, p, hp => absurd hp List.not_mem_nil
  | q :: T, k, ⟨h1, h2, h3⟩, p, hp => by
    rcases List.mem_cons.mp hp with rfl | hp
    · omega
    · have := Up.low h3 p hp; omega
theorem Up.grow : ∀ {T : List (Int × Int)} {k : Nat}, Up k T → Grow T
  | [], _, _ => .nil
  | (x, y) :: T, k, ⟨h1, h2, h3⟩ => by
    have h1 : x = (k : Int) := h1
    have h2 : (k : Int) < y := h2
    exact .head h3.grow (fun p hp => by have := h3.low p hp; omega) (by omega)
theorem Up.snoc : ∀ {T : List (Int × Int)} {k : Nat} {y : Int}, Up k T → ((k + T.length : Nat) : Int) < y → Up k (T ++ [(((k + T.length : Nat) : Int), y)])
  | [], _, _, _, h => ⟨rfl, h, trivial⟩
  | p :: T, k, y, ⟨h1, h2, h3⟩, h => by
    refine ⟨h1, h2, ?_⟩
    have e : k + (p :: T).length = k + 1 + T.length := by rw [List.length_cons]; omega
    rw [e] at h ⊢
    exact Up.snoc h3 h
def spGTree (K : PySem.W.Frag) : Sp := fun vs H Q _ => ∃ (j : Addr) (v : V) (m : Nat) (s : List Int × List (List Int × List Int)), vs = [.ref j, v] ∧ ∃ lj : Addr, Jr H j lj m ∧ m ≤ 800000 ∧ ShT K H v s ∧ 1 ≤ s.1.length ∧ s.1.length ≤ 6 ∧ s.2.length ≤ 10 ∧ (∀ p ∈ s.2, p.1.length ≤ 3 ∧ ∀ y ∈ p.1, 0 ≤ y ∧ y < (s.1.length : Int)) ∧
  ∀ (v : V) (n : Nat) (E : List (Int × Int)) (H' : Hp), DTree K H' v n E → Jr H' j lj (m + 100) → Keep j H H' → Q v H'
theorem sc__law_gtree : FnScope ["tape", "sheet", "order", "bags", "ties", "k", "later", "j", "turn", "at", "name", "i", "turned", "found"] ["tape", "sheet"] (defScope s__law_gtree) := ⟨rfl, rfl, rfl, by decide +kernel, rfl, by decide +kernel, by decide +kernel⟩
theorem ok__law_gtree {f : Addr} {fd fdd fdo fdb : FuncData} (F : Fun K "_law_gtree" "_law_gtree" s__law_gtree f fd) (T : Txt K mg t) (G__law_gdraw : FnOk P w K mg base CX0 3 t.f__law_gdraw fdd ["tape", "many"] spGDraw) (B__law_gdraw : Binds K fdd ["tape", "many"] []) (G__law_gorder : FnOk P w K mg base CX0 4 t.f__law_gorder fdo ["tape", "many"] spGOrder) (B__law_gorder : Binds K fdo ["tape", "many"] []) (G__law_gbags : FnOk P w K mg base CX0 1 t.f__law_gbags fdb ["sheet", "order"] (spGBags K)) (B__law_gbags : Binds K fdb ["sheet", "order"] []) : FnOk P w K mg base CX0 5 f fd ["tape", "sheet"] (spGTree K) := by
  have nd := sc__law_gtree.nd
  refine F.ok sc__law_gtree (fun vs H Q E h => ?_) (fun cdv A outer s H vs Q E hr h => ?_)
  · obtain ⟨j, v, m, s, rfl, _⟩ := h
    rfl
  · obtain ⟨j, v, m, ⟨ns, ps⟩, rfl, lj, hj, hm, hsh, n1, n6, p10, hps, q⟩ := h
    obtain ⟨sa, _, b, us, rfl, hsa, ⟨za, rfl, hza⟩, hb, pu⟩ := id hsh
    have hza : SqT K H za (ns.map V.int) := hza
    have n1 : 1 ≤ ns.length := n1
    have n6 : ns.length ≤ 6 := n6
    refine ⟨_, (pss_cons (ps_set (i := 2) nd rfl (Or.inr rfl) (pe_call G__law_gorder (hr.mono (by first | decide | omega)) (by rfl) T.m__law_gorder T.k__law_gorder B__law_gorder .nil pass0 (pa_cons (pv 0) (pa_cons (pe_callB call_len_seq (by rfl) T.b_len (by decide +kernel) (pa_cons (pe_ix ix_seq (pv 1) pe_int (fun _ _ => rfl)) pa_nil)) pa_nil)))) (pss_cons (ps_set (i := 3) nd rfl (Or.inr rfl) (pe_call G__law_gbags (hr.mono (by first | decide | omega)) (by rfl) T.m__law_gbags T.k__law_gbags B__law_gbags .nil pass0 (pa_cons (pv 1) (pa_cons (pv 2) pa_nil)))) (pss_cons (ps_set (i := 4) nd rfl (Or.inl rfl) (pe_lst pa_nil)) (pss_cons (ps_for PassesOwn.never rfl (pi_range1 (by rfl) T.b_range (pa_cons (pe_op op_sub (pe_callB call_len_seq (by rfl) T.b_len (by decide +kernel) (pa_cons (pv 2) pa_nil)) pe_int) pa_nil)) (pg_name (i := 5) nd rfl (Or.inr rfl)) (pss_cons (ps_setLc (i := 6) (own := [("j", 7)]) (by rfl) nd rfl rfl (sw_true rfl rfl rfl (by decide +kernel)) (pi_range2 (by rfl) T.b_range (pa_cons (pe_op op_add (pv 5) pe_int) (pa_cons (pe_callB call_len_seq (by rfl) T.b_len (by decide +kernel) (pa_cons (pv 2) pa_nil)) pa_nil))) (blkOk_by (own := [("j", 7)]) rfl) (fun _ _ _ _ _ => (pg_name (i := 7) nd rfl (Or.inl rfl))) (fun _ _ _ _ _ => (pts_one (pt_cmpR (op_in_seqK (K := K) rfl) (pe_ix (ix_seqK (K := K) rfl) (pv 2) (pv 7) (fun _ _ => rfl)) (pe_ix (ix_seqK (K := K) rfl) (pv 3) (pv 5) (fun _ _ => rfl)) (by rfl)))) (fun _ _ _ _ _ => (pv 7))) (pss_one (ps_expr (pe_bm PySem.F.plainAttrs_list PySem.F.slot_list_append PySem.F.type_list_append mt_append (pv 4) (pa_cons (pe_tup (pa_cons (pv 5) (pa_cons (pe_ix ix_seq (pe_op op_cat (pv 6) (pe_lst (pa_cons (pe_op op_add (pv 5) pe_int) pa_nil))) pe_int (fun _ _ => rfl)) pa_nil))) pa_nil)))))) (pss_cons (ps_for PassesOwn.never rfl (pi_range1 (by rfl) T.b_range (pa_cons (pe_call G__law_gdraw (hr.mono (by first | decide | omega)) (by rfl) T.m__law_gdraw T.k__law_gdraw B__law_gdraw .nil pass0 (pa_cons (pv 0) (pa_cons pe_int pa_nil))) pa_nil)) (pg_name (i := 8) nd rfl (Or.inl rfl)) (pss_cons (ps_set (i := 9) nd rfl (Or.inl rfl) (pe_call G__law_gdraw (hr.mono (by first | decide | omega)) (by rfl) T.m__law_gdraw T.k__law_gdraw B__law_gdraw .nil pass0 (pa_cons (pv 0) (pa_cons (pe_callB call_len_seq (by rfl) T.b_len (by decide +kernel) (pa_cons (pv 3) pa_nil)) pa_nil)))) (pss_cons (ps_expr (pe_bm PySem.F.plainAttrs_list PySem.F.slot_list_append PySem.F.type_list_append mt_append (pv 4) (pa_cons (pe_tup (pa_cons (pv 9) (pa_cons (pe_callB call_len_seq (by rfl) T.b_len (by decide +kernel) (pa_cons (pv 3) pa_nil)) pa_nil))) pa_nil))) (pss_one (ps_expr (pe_bm PySem.F.plainAttrs_list PySem.F.slot_list_append PySem.F.type_list_append mt_append (pv 3) (pa_cons (pe_callTy call_tuple_of (by rfl) T.b_tuple (by decide +kernel) (pa_cons (pe_lc (own := [("name", 10)]) (by rfl) nd (pi_alt (pi_list (pe_ix ix_seq (pv 3) (pv 9) (fun _ _ => rfl))) (pi_tup (pe_ix ix_seq (pv 3) (pv 9) (fun _ _ => rfl)))) (blkOk_by (own := [("name", 10)]) rfl) (fun _ _ _ _ _ => (pg_name (i := 10) nd rfl (Or.inl rfl))) (fun _ _ _ _ _ => (pts_one (pt_cmpR op_eq (pe_call G__law_gdraw (hr.mono (by first | decide | omega)) (by rfl) T.m__law_gdraw T.k__law_gdraw B__law_gdraw .nil pass0 (pa_cons (pv 0) (pa_cons pe_int pa_nil))) pe_int (nomark _)))) (fun _ _ _ _ _ => (pv 10))) pa_nil)) pa_nil))))))) (pss_cons (ps_if (PW.pt (pw_and (pt_cmpR (op_neD (room64 hr)) (pv 4) (pe_lst pa_nil) (nomark _)) (pw_and1 (pt_cmpR op_eq (pe_call G__law_gdraw (hr.mono (by first | decide | omega)) (by rfl) T.m__law_gdraw T.k__law_gdraw B__law_gdraw .nil pass0 (pa_cons (pv 0) (pa_cons pe_int pa_nil))) pe_int (nomark _))))) (pss_cons (ps_asg (pe_ix ix_seq (pv 4) (pe_call G__law_gdraw (hr.mono (by first | decide | omega)) (by rfl) T.m__law_gdraw T.k__law_gdraw B__law_gdraw .nil pass0 (pa_cons (pv 0) (pa_cons (pe_callB call_len_seq (by rfl) T.b_len (by decide +kernel) (pa_cons (pv 4) pa_nil)) pa_nil))) (fun _ _ => rfl)) (pg_tup (by rfl) (pgs_cons (pg_name (i := 11) nd rfl (Or.inl rfl)) (pgs_cons (pg_name (i := 7) nd rfl (Or.inl rfl)) pgs_nil)))) (pss_one (ps_asg (pe_callTy call_tuple_of (by rfl) T.b_tuple (by decide +kernel) (pa_cons (pe_callB (cr_sortedX rfl) (by rfl) T.b_sorted (by decide +kernel) (pa_cons (pe_callTy (cr_setOf rfl) (by rfl) T.b_set (by decide +kernel) (pa_cons (pe_op op_catG (pe_ix ix_seq (pv 3) (pv 11) (fun _ _ => rfl)) (pe_slice sl_tupG (pe_ix ix_seq (pv 3) (pv 7) (fun _ _ => rfl)) po_none (po_some pe_int))) pa_nil)) pa_nil)) pa_nil)) (pg_sub (pv 3) (pv 11) set_list)))) pss_nil) (pss_cons (ps_set (i := 12) nd rfl (Or.inr rfl) (pe_call G__law_gorder (hr.mono (by first | decide | omega)) (by rfl) T.m__law_gorder T.k__law_gorder B__law_gorder .nil pass0 (pa_cons (pv 0) (pa_cons (pe_callB call_len_seq (by rfl) T.b_len (by decide +kernel) (pa_cons (pv 3) pa_nil)) pa_nil)))) (pss_cons (ps_set (i := 13) nd rfl (Or.inl rfl) (pe_callTy call_tuple_of (by rfl) T.b_tuple (by decide +kernel) (pa_cons (pe_lc (own := [("k", 5)]) (by rfl) nd (pi_range1 (by rfl) T.b_range (pa_cons (pe_callB call_len_seq (by rfl) T.b_len (by decide +kernel) (pa_cons (pv 3) pa_nil)) pa_nil)) (blkOk_by (own := [("k", 5)]) rfl) (fun _ _ _ _ _ => (pg_name (i := 5) nd rfl (Or.inl rfl))) (fun _ _ _ _ _ => pts_nil) (fun _ _ _ _ _ => (pe_ix (ix_seqK (K := K) rfl) (pv 3) (pe_bmK (K := K) rfl PySem.F.plainAttrs_list PySem.F.slot_list_index PySem.F.type_list_index (mt_indexK (K := K) rfl) (pv 12) (pa_cons (pv 5) pa_nil)) (fun _ _ => rfl)))) pa_nil))) (pss_one (ps_ret (pe_tup (pa_cons (pv 13) (pa_cons (pe_callTy call_tuple_of (by rfl) T.b_tuple (by decide +kernel) (pa_cons (pe_callB cr_sortedP (by rfl) T.b_sorted (by decide +kernel) (pa_cons (pe_lc (own := [("i", 11), ("j", 7)]) (by rfl) nd (pi_alt (pi_list (pv 4)) (pi_tup (pv 4))) (blkOk_by (own := [("i", 11), ("j", 7)]) rfl) (fun _ _ _ _ _ => (pg_tupK (K := K) (n := 2) rfl rfl (pgs_cons (pg_name (i := 11) nd rfl (Or.inl rfl)) (pgs_cons (pg_name (i := 7) nd rfl (Or.inl rfl)) pgs_nil)))) (fun _ _ _ _ _ => pts_nil) (fun _ _ _ _ _ => (pe_callTy (call_tuple_ofK (K := K) rfl) (by rfl) T.b_tuple (by decide +kernel) (pa_cons (pe_callB (cr_sorted2K (K := K) rfl rfl) (by rfl) T.b_sorted (by decide +kernel) (pa_cons (pe_tup (pa_cons (pe_ix (ix_seqK (K := K) rfl) (pv 12) (pv 11) (fun _ _ => rfl)) (pa_cons (pe_ix (ix_seqK (K := K) rfl) (pv 12) (pv 7) (fun _ _ => rfl)) pa_nil))) pa_nil)) pa_nil)))) pa_nil)) pa_nil)) pa_nil))))))))))))), ?_⟩
    refine ⟨_, rfl, _, rfl, .inr (.inl ⟨sa, _, 0, _, rfl, rfl, hsa, rfl, za, _, rfl, .inr hza, j, m, ns.length, by rw [List.length_map]; rfl, by omega, lj, hj, by omega, fun oa os H1 noa hoa pos hj1 k1 => ?_⟩)⟩
    dsimp only [gName]
    have hsh1 : ShT K H1 (.ref sa) (ns, ps) := by
      obtain ⟨yj, hyj⟩ := hj.lst
      exact hsh.keep k1 hyj
    refine ⟨_, rfl, _, rfl, _, oa, (ns, ps), os, rfl, hsh1, hoa, pos, by show ns.length ≤ 12; omega, p10, hps, fun ba bu Bs H2 x2 nba hba pB Bl Bin => ?_⟩
    have Bl : Bs.length = ns.length := Bl
    have Bin : ∀ B ∈ Bs, B.length ≤ 12 ∧ ∀ y ∈ B, 0 ≤ y ∧ y < (ns.length : Int) := Bin
    dsimp only [gName]
    refine ⟨by show 0 ≤ sizeLine; decide, fun td ntd => ?_⟩
    have y3 := ext_upd (o := .lst []) ntd
    have htd3 : (upd H2 td (.lst [])) td = some (.lst []) := upd_same
    have ol : os.length = ns.length := by rw [pos.length_eq, List.length_map, List.length_range]
    have oml : (os.map V.int).length = ns.length := by rw [List.length_map, ol]
    have hoa2 := x2 _ _ hoa
    have bul := pB.length
    dsimp only [gName]
    refine ⟨_, rfl, oa, _, rfl, .inl (SqL.of (y3 _ _ hoa2)), _, _, rfl, rfl, _, rfl, by omega, by omega, for_range (lo := 0) (n := ((((os.map V.int).length : Nat) : Int) - 1).toNat) (fun i σ' H' => ∃ (as : List Addr) (Tt : List (Int × Int)) (p5 p6 : Option V), σ' = [some (.ref j), some (.ref sa), some (.ref oa), some (.ref ba), some (.ref td), p5, p6, none, none, none, none, none, none, none] ∧ H' td = some (.lst (as.map V.ref)) ∧ Paired (PrO H') as Tt ∧ Up 0 Tt ∧ Tt.length = i ∧ (∀ p ∈ Tt, p.2 < (ns.length : Int)) ∧ Ext H2 H') ⟨[], [], _, _, rfl, htd3, .nil, trivial, rfl, (fun p hp => absurd hp List.not_mem_nil), y3⟩ ?_ ?_⟩
    · rintro i σ' H3 hi ⟨as, Tt, p5, p6, rfl, htd, pa, up, tl, tin, x3⟩
      have in1 : i + 1 < ns.length := by omega
      dsimp only [gName]
      have hoa3 := x3 _ _ hoa2
      have hba3 := x3 _ _ hba
      obtain ⟨bk, hbk⟩ : ∃ bk, bu[i]? = some bk := ⟨_, List.getElem?_eq_getElem (by omega)⟩
      obtain ⟨B, hB, ⟨bka, rfl, hbka⟩⟩ := Paired.at pB hbk
      have atb : atI bu (0 + (i : Int)) = some (.ref bka) := by rw [Int.zero_add]; exact atI_nat hbk
      refine ⟨_, rfl, _, _, rfl, rfl, _, rfl, oa, _, rfl, .inl (SqL.of hoa3), _, _, rfl, ⟨by omega, by omega, by omega, by omega⟩, fun L nL => ?_⟩
      refine W_range (fun c H' => ∃ ws : List Int, H' L = some (.lst (ws.map V.int)) ∧ ws.length ≤ c ∧ (∀ y ∈ ws, (i : Int) < y ∧ y < (ns.length : Int)) ∧ Ext H3 H') ⟨[], upd_same, Nat.le_refl _, (fun y h => absurd h List.not_mem_nil), ext_upd nL⟩ ?_ ?_
      · rintro c H4 hc ⟨ws, hL, wl, win, x4⟩
        have y0 : (0 : Int) ≤ 0 + (i : Int) + 1 + (c : Int) := by omega
        have y1 : 0 + (i : Int) + 1 + (c : Int) < (ns.length : Int) := by omega
        have oi := ord_in pos y0 y1
        refine ⟨rfl, _, rfl, _, rfl, .inl ⟨oa, _, _, _, rfl, rfl, SqL.of (x4 _ _ hoa3), oi.1, _, rfl, _, rfl, .inl ⟨ba, _, _, _, rfl, rfl, SqL.of (x4 _ _ hba3), atb, bka, _, rfl, .inr ((x3.trans x4).sqT hbka), rfl, flat_intsW _, _, rfl, ?_⟩⟩⟩
        show if (inV (V.int _) (B.map V.int)) = true then _ else _
        generalize inV (V.int _) (B.map V.int) = bb
        cases bb with
        | true =>
          refine iteT ⟨_, rfl, _, hL, by rw [List.length_map, sizeLine_eq]; omega, ws ++ [0 + (i : Int) + 1 + (c : Int)], by rw [upd_same, List.map_append]; rfl, by rw [List.length_append, List.length_singleton]; omega, fun v hv => ?_, ext_new x4 nL⟩
          rcases List.mem_append.mp hv with h | h
          · exact win v h
          · rw [List.mem_singleton.mp h]; omega
        | false => exact iteF ⟨ws, hL, by omega, win, x4⟩
      · rintro H4 ⟨ws, hL, wl, win, x4⟩
        dsimp only [gName]
        have htd4 := x4 _ _ htd
        refine ⟨_, rfl, .inl ⟨rfl, _, SqL.of htd4⟩, _, rfl, _, rfl, _, rfl, _, _, rfl, rfl, by show 1 ≤ sizeLine; decide, fun l5 nl5 => ?_⟩
        have y5 := ext_upd (o := .lst [V.int (0 + (i : Int) + 1)]) nl5
        refine ⟨L, l5, _, _, rfl, rfl, y5 _ _ hL, upd_same, by rw [List.length_map, sizeLine_eq]; show _ + 1 ≤ _; omega, fun l6 nl6 => ?_⟩
        have y6 := y5.trans (ext_upd (o := .lst (ws.map V.int ++ [V.int (0 + (i : Int) + 1)])) nl6)
        have hl6 : (upd (upd H4 l5 (.lst [V.int (0 + (i : Int) + 1)])) l6 (.lst (ws.map V.int ++ [V.int (0 + (i : Int) + 1)]))) l6 = some (.lst (ws.map V.int ++ [V.int (0 + (i : Int) + 1)])) := upd_same
        obtain ⟨y, hy, yin⟩ : ∃ y : Int, atI (ws.map V.int ++ [V.int (0 + (i : Int) + 1)]) 0 = some (.int y) ∧ (i : Int) < y ∧ y < (ns.length : Int) := by
          cases ws with
          | nil => exact ⟨_, rfl, by omega, by omega⟩
          | cons w ws =>
            refine ⟨w, ?_, win w (List.mem_cons_self ..)⟩
            exact (show atI ((w :: ws).map V.int ++ [V.int (0 + (i : Int) + 1)]) ((0 : Nat) : Int) = some (.int w) from atI_nat rfl)
        generalize upd (upd H4 l5 (.lst [V.int (0 + (i : Int) + 1)])) l6 (.lst (ws.map V.int ++ [V.int (0 + (i : Int) + 1)])) = H6 at *
        refine .inl ⟨l6, _, 0, _, rfl, rfl, SqL.of hl6, hy, by show 2 ≤ sizeLine; decide, fun t7 nt7 => ?_⟩
        have y7 := ext_upd (o := .tup [V.int (0 + (i : Int)), .int y]) nt7
        have ht7 : PrO (upd H6 t7 (.tup [V.int (0 + (i : Int)), .int y])) t7 ((i : Int), y) := by
          show (upd H6 t7 _) t7 = _
          rw [upd_same, Int.zero_add]
        have x47 := y6.trans y7
        have pa7 : Paired (PrO (upd H6 t7 (.tup [V.int (0 + (i : Int)), .int y]))) as Tt := Paired.mapP pa fun _ _ h => x47 _ _ (x4 _ _ h)
        have htd7 := x47 _ _ htd4
        have x7 := (x3.trans x4).trans x47
        generalize upd H6 t7 (.tup [V.int (0 + (i : Int)), .int y]) = H7 at *
        have al := pa7.length
        have keep : ∀ {b : Addr} {q : Int × Int}, PrO H7 b q → PrO (upd H7 td (.lst (as.map V.ref ++ [V.ref t7]))) b q := fun {b q} h => by
          have nb : b ≠ td := fun e => by
            have h2 : H7 b = some (.tup [.int q.1, .int q.2]) := h
            rw [e, htd7] at h2; cases h2
          show (upd _ td _) b = _
          rw [upd_ne nb]; exact h
        refine ⟨td, _, _, rfl, rfl, htd7, by rw [List.length_map, sizeLine_eq]; omega, as ++ [t7], Tt ++ [((i : Int), y)], _, _, rfl, by rw [upd_same, List.map_append]; rfl, Paired.app (Paired.mapP pa7 fun _ _ h => keep h) (.cons (keep ht7) .nil), ?_, by rw [List.length_append, tl]; rfl, fun p hp => ?_, ext_new x7 ntd⟩
        · have := Up.snoc (k := 0) (y := y) up (by rw [tl]; omega)
          rw [tl, Nat.zero_add] at this
          exact this
        · rcases List.mem_append.mp hp with h | h
          · exact tin p h
          · rw [List.mem_singleton.mp h]; exact yin.2
    · rintro σ' H3 ⟨as, Tt, p5, p6, rfl, htd, pa, up, tl, tin, x3⟩
      have tl5 : Tt.length ≤ 5 := by rw [tl, oml]; omega
      have ntj : td ≠ j ∧ td ≠ lj := (x2.jr hj1).ne ntd
      have nbj : ba ≠ j ∧ ba ≠ lj := hj1.ne nba
      have k2 : Keep j H H2 := k1.trans x2.keep
      have ntH : H td = none := by
        cases e : H td with
        | none => rfl
        | some o => have := k2 _ _ e ntj.1; rw [ntd] at this; cases this
      have nbH : H ba = none := by
        cases e : H ba with
        | none => rfl
        | some o => have := k1 _ _ e nbj.1; rw [nba] at this; cases this
      have btd : ba ≠ td := fun e => by rw [← e, hba] at ntd; cases ntd
      have hj3 := x3.jr (x2.jr hj1)
      have hba3 := x3 _ _ hba
      have pB3 : Paired (IT K H3) bu Bs := Paired.mapP pB fun _ _ h => h.ext x3
      have bul : bu.length = ns.length := by rw [bul, Bl]
      refine ⟨_, rfl, j, 3, _, rfl, lj, hj3, by omega, by decide, by decide, fun r H4 r0 r1 hj4 k4 => ?_⟩
      have k34 := (k2.trans x3.keep).trans k4
      obtain ⟨yj3, hyj3⟩ := hj3.lst
      refine ⟨r, rfl, by omega, by omega, for_range (lo := 0) (n := r.toNat) (fun i σ' H' => ∃ (as : List Addr) (Tt : List (Int × Int)) (bu : List V) (Bs : List (List Int)) (p5 p6 p7 p8 p9 p10 : Option V), σ' = [some (.ref j), some (.ref sa), some (.ref oa), some (.ref ba), some (.ref td), p5, p6, p7, p8, p9, p10, none, none, none] ∧ H' ba = some (.lst bu) ∧ Paired (IT K H') bu Bs ∧ bu.length = ns.length + i ∧ (∀ B ∈ Bs, B.length ≤ 12 ∧ ∀ y ∈ B, 0 ≤ y ∧ y < (ns.length : Int)) ∧ H' td = some (.lst (as.map V.ref)) ∧ Paired (PrO H') as Tt ∧ Grow Tt ∧ Tt.length ≤ 5 + i ∧ (∀ p ∈ Tt, (0 ≤ p.1 ∧ p.1 < (ns.length : Int) + i) ∧ (0 ≤ p.2 ∧ p.2 < (ns.length : Int) + i) ∧ p.1 ≠ p.2) ∧ Jr H' j lj (m + 10 + i * 15) ∧ Keep j H H') ⟨as, Tt, bu, Bs, _, _, _, _, _, _, rfl, k4 _ _ hba3 nbj.1, Paired.mapP pB3 fun _ _ h => h.keep k4 hyj3, bul, Bin, k4 _ _ htd ntj.1, Paired.mapP pa fun b p h => k4 _ _ h (fun e => by
        have h : H3 b = some (.tup [.int p.1, .int p.2]) := h
        rw [e, hyj3] at h; cases h), up.grow, by omega, fun p hp => ?_, hj4.mono (by omega), k34⟩ ?_ ?_⟩
      · have h1 := up.low p hp
        have h2 := tin p hp
        refine ⟨⟨?_, ?_⟩, ⟨?_, ?_⟩, ?_⟩ <;> omega
      · clear pa up tl tin tl5 htd hba3 pB3 bul k4 hj4 k34 hj3 pB Bin Bl hyj3
        rintro i σ' H5 hi ⟨as, Tt, bu, Bs, p5, p6, p7, p8, p9, p10, rfl, hba, pB, bul, Bin, htd, pa, gr, tl, tin, hj5, k5⟩
        dsimp only [gName]
        have i2 : i < 2 := by omega
        refine ⟨_, rfl, _, rfl, ba, _, rfl, .inl (SqL.of hba), j, _, _, rfl, lj, hj5, by omega, by omega, Int.lt_of_lt_of_le (show ((bu.length : Nat) : Int) < 50 by omega) (by decide), fun at_ H6 a0 a1 hj6 k6 => ?_⟩
        obtain ⟨yj5, hyj5⟩ := hj5.lst
        have hba6 := k6 _ _ hba nbj.1
        have htd6 := k6 _ _ htd ntj.1
        have pB6 : Paired (IT K H6) bu Bs := Paired.mapP pB fun _ _ h => h.keep k6 hyj5
        have pa6 : Paired (PrO H6) as Tt := Paired.mapP pa fun b p h => k6 _ _ h fun e => by
          have h : H5 b = some (.tup [.int p.1, .int p.2]) := h
          rw [e, hyj5] at h; cases h
        have k6' := k5.trans k6
        dsimp only [gName]
        refine ⟨_, rfl, .inl ⟨rfl, _, SqL.of htd6⟩, _, rfl, _, rfl, ba, _, rfl, .inl (SqL.of hba6), by show 2 ≤ sizeLine; decide, fun t7 nt7 => ?_⟩
        obtain ⟨bka, B, atb, hBm, hbka⟩ : ∃ (bka : Addr) (B : List Int), atI bu at_ = some (.ref bka) ∧ B ∈ Bs ∧ SqT K H6 bka (B.map V.int) := by
          have hl : at_.toNat < bu.length := by omega
          obtain ⟨B, hB, ⟨bka, e, hbka⟩⟩ := Paired.at pB6 (List.getElem?_eq_getElem hl)
          refine ⟨bka, B, ?_, List.mem_of_getElem? hB, hbka⟩
          have : atI bu ((at_.toNat : Nat) : Int) = some (bu[at_.toNat]) := atI_nat (List.getElem?_eq_getElem hl)
          rw [show ((at_.toNat : Nat) : Int) = at_ by omega, e] at this
          exact this
        have y7 := ext_upd (o := .tup [V.int at_, .int ((bu.length : Nat) : Int)]) nt7
        have ht7 : PrO (upd H6 t7 (.tup [V.int at_, .int ((bu.length : Nat) : Int)])) t7 (at_, ((bu.length : Nat) : Int)) := upd_same
        have htd7 := y7 _ _ htd6
        have hba7 := y7 _ _ hba6
        have al := pa6.length
        have hj7 := y7.jr hj6
        have k7 := k6'.trans y7.keep
        have hbka7 := y7.sqT hbka
        have pB7 : Paired (IT K (upd H6 t7 (.tup [V.int at_, .int ((bu.length : Nat) : Int)]))) bu Bs := Paired.mapP pB6 fun _ _ h => h.ext y7
        have pa7 : Paired (PrO (upd H6 t7 (.tup [V.int at_, .int ((bu.length : Nat) : Int)]))) (as ++ [t7]) (Tt ++ [(at_, ((bu.length : Nat) : Int))]) := Paired.app (Paired.mapP pa6 fun _ _ h => y7 _ _ h) (.cons ht7 .nil)
        generalize upd H6 t7 (.tup [V.int at_, .int ((bu.length : Nat) : Int)]) = H7 at *
        refine ⟨td, _, _, rfl, rfl, htd7, by rw [List.length_map, sizeLine_eq]; omega, ?_⟩
        have kt : Keep td H7 (upd H7 td (.lst (as.map V.ref ++ [V.ref t7]))) := Keep.upd
        have htd8 : (upd H7 td (.lst (as.map V.ref ++ [V.ref t7]))) td = some (.lst ((as ++ [t7]).map V.ref)) := by rw [upd_same, List.map_append]; rfl
        have hba8 := kt _ _ hba7 btd
        have pB8 : Paired (IT K (upd H7 td (.lst (as.map V.ref ++ [V.ref t7])))) bu Bs := Paired.mapP pB7 fun _ _ h => h.keep kt htd7
        have hbka8 := kt.sqT htd7 hbka7
        have pa8 : Paired (PrO (upd H7 td (.lst (as.map V.ref ++ [V.ref t7])))) (as ++ [t7]) (Tt ++ [(at_, ((bu.length : Nat) : Int))]) := Paired.mapP pa7 fun b p h => kt _ _ h fun e => by
          have h : H7 b = some (.tup [.int p.1, .int p.2]) := h
          rw [e, htd7] at h; cases h
        have hj8 := hj7.upd (o := .lst (as.map V.ref ++ [V.ref t7])) ntj.1 ntj.2
        have k8 : Keep j H (upd H7 td (.lst (as.map V.ref ++ [V.ref t7]))) := fun b o e nb => by
          have nt : b ≠ td := fun z => by rw [z, ntH] at e; cases e
          rw [upd_ne nt]
          exact k7 b o e nb
        generalize upd H7 td (.lst (as.map V.ref ++ [V.ref t7])) = H8 at *
        obtain ⟨yj8, hyj8⟩ := hj8.lst
        refine ⟨_, rfl, .inl ⟨rfl, _, SqL.of hba8⟩, .inr ⟨_, rfl, _, rfl, .inl ⟨ba, _, at_, .ref bka, rfl, rfl, SqL.of hba8, atb, bka, rfl, ⟨_, hbka8⟩, fun D nD => ?_⟩⟩⟩
        have nDj := hj8.ne nD
        have B12 := (Bin B hBm).1
        refine W_tup (K := K) (a := bka) (xs := B.map V.int) (fun c H' => ∃ ws : List Int, H' D = some (.lst (ws.map V.int)) ∧ ws.length ≤ c ∧ (∀ y ∈ ws, 0 ≤ y ∧ y < (ns.length : Int)) ∧ Jr H' j lj (m + 10 + i * 15 + 1 + c) ∧ Keep j H8 H') ⟨[], upd_same, Nat.le_refl _, (fun y h => absurd h List.not_mem_nil), hj8.upd nDj.1 nDj.2, (ext_upd nD).keep⟩ (fun c H' _ ⟨_, _, _, _, _, k⟩ => k.sqT hyj8 hbka8) ?_ ?_
        · rintro c u H9 hu ⟨ws, hD, wl, win, hj9, k9⟩
          obtain ⟨y, hy, rfl⟩ := int_at hu
          have cl := (List.getElem?_eq_some_iff.mp hy).1
          refine ⟨rfl, _, rfl, j, 2, _, rfl, lj, hj9, by omega, by decide, by decide, fun r2 H10 r20 r21 hj10 k10 => ⟨rfl, _, rfl, ?_⟩⟩
          have hD10 := k10 _ _ hD nDj.1
          have k910 := k9.trans k10
          show if decide (V.int r2 = V.int 0) = true then _ else _
          generalize decide (V.int r2 = V.int 0) = bb
          cases bb with
          | true =>
            refine iteT ⟨_, rfl, _, hD10, by rw [List.length_map, sizeLine_eq]; omega, ws ++ [y], by rw [upd_same, List.map_append]; rfl, by rw [List.length_append, List.length_singleton]; omega, fun v hv => ?_, (hj10.upd nDj.1 nDj.2).mono (by omega), fun b o e nb => ?_⟩
            · rcases List.mem_append.mp hv with h | h
              · exact win v h
              · rw [List.mem_singleton.mp h]; exact (Bin B hBm).2 y (List.mem_of_getElem? hy)
            · have nb2 : b ≠ D := fun z => by rw [z, nD] at e; cases e
              rw [upd_ne nb2]
              exact k910 b o e nb
          | false => exact iteF ⟨ws, hD10, by omega, win, hj10.mono (by omega), k910⟩
        · rintro H9 ⟨ws, hD, wl, win, hj9, k9⟩
          rw [List.length_map] at wl hj9
          have hba9 := k9 _ _ hba8 nbj.1
          have htd9 := k9 _ _ htd8 ntj.1
          have pB9 : Paired (IT K H9) bu Bs := Paired.mapP pB8 fun _ _ h => h.keep k9 hyj8
          have pa9 : Paired (PrO H9) (as ++ [t7]) (Tt ++ [(at_, ((bu.length : Nat) : Int))]) := Paired.mapP pa8 fun b p h => k9 _ _ h fun e => by
            have h : H8 b = some (.tup [.int p.1, .int p.2]) := h
            rw [e, hyj8] at h; cases h
          refine ⟨D, _, rfl, .inl ⟨SqL.of hD, fun tb ntb => ?_⟩⟩
          have y10 := ext_upd (o := .tup (ws.map V.int)) ntb
          have htb : IT K (upd H9 tb (.tup (ws.map V.int))) (.ref tb) ws := ⟨tb, rfl, SqT.of upd_same⟩
          have hba10 := y10 _ _ hba9
          have htd10 := y10 _ _ htd9
          have pB10 : Paired (IT K (upd H9 tb (.tup (ws.map V.int)))) (bu ++ [.ref tb]) (Bs ++ [ws]) := Paired.app (Paired.mapP pB9 fun _ _ h => h.ext y10) (.cons htb .nil)
          have pa10 : Paired (PrO (upd H9 tb (.tup (ws.map V.int)))) (as ++ [t7]) (Tt ++ [(at_, ((bu.length : Nat) : Int))]) := Paired.mapP pa9 fun _ _ h => y10 _ _ h
          have hj10 := y10.jr hj9
          have k10 := (k8.trans k9).trans y10.keep
          generalize upd H9 tb (.tup (ws.map V.int)) = H10 at *
          have kb : Keep ba H10 (upd H10 ba (.lst (bu ++ [V.ref tb]))) := Keep.upd
          have pa11 : Paired (PrO (upd H10 ba (.lst (bu ++ [V.ref tb])))) (as ++ [t7]) (Tt ++ [(at_, ((bu.length : Nat) : Int))]) := Paired.mapP pa10 fun b p h => kb _ _ h fun e => by
            have h : H10 b = some (.tup [.int p.1, .int p.2]) := h
            rw [e, hba10] at h; cases h
          refine ⟨ba, _, _, rfl, rfl, hba10, by rw [sizeLine_eq]; omega, as ++ [t7], Tt ++ [(at_, ((bu.length : Nat) : Int))], bu ++ [.ref tb], Bs ++ [ws], _, _, _, _, _, _, rfl, upd_same, Paired.mapP pB10 fun _ _ h => h.keep kb hba10, by rw [List.length_append, bul, List.length_singleton]; omega, fun B' hB' => ?_, kb _ _ htd10 (Ne.symm btd), pa11, .last gr (fun p hp => by have := tin p hp; constructor <;> omega) (by omega), by rw [List.length_append, List.length_singleton]; omega, fun p hp => ?_, (hj10.upd nbj.1 nbj.2).mono (by omega), fun b o e nb => ?_⟩
          · rcases List.mem_append.mp hB' with h | h
            · exact Bin B' h
            · rw [List.mem_singleton.mp h]; exact ⟨by omega, win⟩
          · rcases List.mem_append.mp hp with h | h
            · have := tin p h
              refine ⟨⟨?_, ?_⟩, ⟨?_, ?_⟩, ?_⟩ <;> omega
            · rw [List.mem_singleton.mp h]
              refine ⟨⟨?_, ?_⟩, ⟨?_, ?_⟩, ?_⟩ <;> dsimp only <;> omega
          · have nt : b ≠ ba := fun z => by rw [z, nbH] at e; cases e
            rw [upd_ne nt]
            exact k10 b o e nb
      · clear pa up tl tin tl5 htd hba3 pB3 bul k4 hj4 k34 hj3 pB Bin Bl hyj3
        rintro σ' H5 ⟨as, Tt, bu, Bs, p5, p6, p7, p8, p9, p10, rfl, hba, pB, bul, Bin, htd, pa, gr, tl, tin, hj5, k5⟩
        obtain ⟨yj5, hyj5⟩ := hj5.lst
        have M8 : bu.length ≤ 8 := by omega
        have M1 : 1 ≤ bu.length := by omega
        dsimp only
        refine seq_cut (t := tIfS _ _ _) (fun σ H' => ∃ (bu2 : List V) (q5 q6 q7 q8 q9 q10 q11 : Option V), σ = [some (.ref j), some (.ref sa), some (.ref oa), some (.ref ba), some (.ref td), q5, q6, q7, q8, q9, q10, q11, none, none] ∧ H' ba = some (.lst bu2) ∧ bu2.length = bu.length ∧ H' td = some (.lst (as.map V.ref)) ∧ Paired (PrO H') as Tt ∧ Jr H' j lj (m + 45) ∧ Keep j H H') ?_ ?_
        · rintro σ H6 ⟨bu2, q5, q6, q7, q8, q9, q10, q11, rfl, hba6, bl2, htd6, pa6, hj6, k6⟩
          refine ⟨_, rfl, _, rfl, ba, _, rfl, .inl (SqL.of hba6), j, _, bu.length, by rw [bl2]; rfl, by omega, lj, hj6, by omega, fun ta ot H7 nta hta pot hj7 k7 => ?_⟩
          obtain ⟨yj6, hyj6⟩ := hj6.lst
          have hba7 := k7 _ _ hba6 nbj.1
          have htd7 := k7 _ _ htd6 ntj.1
          have pa7 : Paired (PrO H7) as Tt := Paired.mapP pa6 fun b p h => k7 _ _ h fun e => by
            have h : H6 b = some (.tup [.int p.1, .int p.2]) := h
            rw [e, hyj6] at h; cases h
          have k67 := k6.trans k7
          have otl : ot.length = bu.length := by rw [pot.length_eq, List.length_map, List.length_range]
          dsimp only [gName]
          refine ⟨_, rfl, ba, _, rfl, .inl (SqL.of hba7), _, rfl, by omega, by omega, fun D nD => ?_⟩
          refine W_range (lo := 0) (n := (((bu2.length : Nat) : Int)).toNat) (fun c H' => ∃ fs : List V, H' D = some (.lst fs) ∧ fs.length = c ∧ Ext H7 H') ⟨[], upd_same, rfl, ext_upd nD⟩ ?_ ?_
          · rintro c H8 hc ⟨fs, hD, fl, x8⟩
            have cm : (0 : Int) + (c : Int) ∈ ot := pot.mem_iff.mpr (List.mem_map.mpr ⟨c, List.mem_range.mpr (by omega), by rw [Int.zero_add]; rfl⟩)
            obtain ⟨jx, hjx, hno⟩ := first_at cm
            have jl := (List.getElem?_eq_some_iff.mp hjx).1
            rw [List.length_map] at jl
            have hbx : bu2[jx]? = some bu2[jx] := List.getElem?_eq_getElem (by omega)
            refine ⟨rfl, ?_⟩
            dsimp only [tYes]
            rw [if_pos rfl]
            refine ⟨_, rfl, _, rfl, .inl ⟨rfl, _, SqL.of (x8 _ _ hta)⟩, _, rfl, ta, _, _, jx, _, rfl, rfl, SqL.of (x8 _ _ hta), rfl, flat_intsW _, hjx, beq_self_eq_true _, hno, .inl ⟨ba, _, _, _, rfl, rfl, SqL.of (x8 _ _ hba7), atI_nat hbx, ?_⟩⟩
            exact ⟨fs, hD, by rw [sizeLine_eq]; omega, fs ++ [bu2[jx]], upd_same, by rw [List.length_append, fl]; rfl, ext_new x8 nD⟩
          · rintro H8 ⟨fs, hD, fl, x8⟩
            have fl : fs.length = bu.length := by omega
            refine ⟨D, _, rfl, .inl ⟨SqL.of hD, fun tb ntb => ?_⟩⟩
            have y9 := x8.trans (ext_upd (o := .tup fs) ntb)
            have htb : (upd H8 tb (.tup fs)) tb = some (.tup fs) := upd_same
            generalize upd H8 tb (.tup fs) = H9 at *
            dsimp only [gName]
            have hta9 := y9 _ _ hta
            have htd9 := y9 _ _ htd7
            have hj9 := y9.jr hj7
            have k9 := k67.trans y9.keep
            have pa9 : Paired (PrO H9) as Tt := Paired.mapP pa7 fun _ _ h => y9 _ _ h
            have pal := pa9.length
            refine ⟨_, rfl, .inl ⟨_, rfl, td, rfl, ⟨_, SqL.of htd9⟩, fun D2 nD2 => ?_⟩⟩
            have tin2 : ∀ p ∈ Tt, (0 ≤ p.1 ∧ p.1 < (bu.length : Int)) ∧ (0 ≤ p.2 ∧ p.2 < (bu.length : Int)) ∧ p.1 ≠ p.2 := fun p hp => by
              have := tin p hp
              refine ⟨⟨this.1.1, by omega⟩, ⟨this.2.1.1, by omega⟩, this.2.2⟩
            refine W_list (K := K) (a := td) (xs := as.map V.ref) (fun c H' => ∃ es : List Addr, H' D2 = some (.lst (es.map V.ref)) ∧ Paired (PrO H') es ((Tt.take c).map (fP ot)) ∧ Ext H9 H') ⟨[], upd_same, .nil, ext_upd nD2⟩ (fun c H' _ ⟨_, _, _, e⟩ => SqL.of (e _ _ htd9)) ?_ ?_
            · rintro c u H10 hu ⟨es, hD2, pe, x10⟩
              rw [List.getElem?_map] at hu
              cases hc : as[c]? with
              | none => rw [hc] at hu; cases hu
              | some cc =>
              rw [hc] at hu; cases hu
              obtain ⟨p, hp, hpo⟩ := Paired.at pa9 hc
              have hpo10 : PrO H10 cc p := x10 _ _ hpo
              have cl := (List.getElem?_eq_some_iff.mp hp).1
              have tk : Tt.take (c + 1) = Tt.take c ++ [p] := by rw [List.take_succ, hp]; rfl
              obtain ⟨⟨i0, i1⟩, ⟨j0, j1⟩, _⟩ := tin2 p (List.mem_of_getElem? hp)
              have o1 := ord_in pot i0 i1
              have o2 := ord_in pot j0 j1
              have hta10 := x10 _ _ hta9
              have el := pe.length
              rw [List.length_map, List.length_take] at el
              refine ⟨cc, _, rfl, SqT.of hpo10, rfl, _, _, rfl, _, _, rfl, rfl, rfl, ?_⟩
              dsimp only [tYes]
              rw [if_pos rfl]
              refine ⟨_, rfl, _, rfl, .inl ⟨ta, _, p.1, _, rfl, rfl, SqL.of hta10, o1.1, _, rfl, _, rfl, .inl ⟨ta, _, p.2, _, rfl, rfl, SqL.of hta10, o2.1, by show 2 ≤ sizeLine; decide, fun t8 nt8 => ?_⟩⟩⟩
              have y8 := ext_upd (o := .tup [V.int (fO ot p.1), .int (fO ot p.2)]) nt8
              refine ⟨t8, [fO ot p.1, fO ot p.2], rfl, .inr (SqT.of upd_same), by show 2 < 64; decide, fun ms q9 pm pw nq9 => ?_⟩
              have z9 := y8.trans (ext_upd (o := .lst (ms.map V.int)) nq9)
              refine ⟨q9, _, rfl, .inl ⟨SqL.of upd_same, fun tp ntp => ?_⟩⟩
              have y10 := z9.trans (ext_upd (o := .tup (ms.map V.int)) ntp)
              have hpr : PrO (upd (upd (upd H10 t8 (.tup [V.int (fO ot p.1), .int (fO ot p.2)])) q9 (.lst (ms.map V.int))) tp (.tup (ms.map V.int))) tp (fP ot p) := by
                show (upd _ tp _) tp = _
                rw [upd_same, two_sorted pm pw]
                rfl
              generalize upd (upd (upd H10 t8 (.tup [V.int (fO ot p.1), .int (fO ot p.2)])) q9 (.lst (ms.map V.int))) tp (.tup (ms.map V.int)) = H11 at *
              have hD3 := y10 _ _ hD2
              have up : ∀ {b : Addr} {q : Int × Int}, PrO H11 b q → PrO (upd H11 D2 (.lst (es.map V.ref ++ [V.ref tp]))) b q := fun {b q} h => by
                have nb : b ≠ D2 := fun e => by
                  have h2 : H11 b = some (.tup [.int q.1, .int q.2]) := h
                  rw [e, hD3] at h2; cases h2
                show (upd _ D2 _) b = _
                rw [upd_ne nb]; exact h
              refine ⟨_, hD3, by rw [List.length_map, sizeLine_eq]; omega, es ++ [tp], by rw [upd_same, List.map_append]; rfl, ?_, ext_new (x10.trans y10) nD2⟩
              rw [tk, List.map_append]
              exact Paired.app (Paired.mapP pe fun _ _ h => up (y10 _ _ h)) (.cons (up hpr) .nil)
            · rintro H10 ⟨es, hD2, pe, x10⟩
              rw [List.length_map, pal, List.take_length] at pe
              have hj10 := x10.jr hj9
              have k10 := k9.trans x10.keep
              have htb10 := x10 _ _ htb
              obtain ⟨mapT, hκ⟩ := pairs_at pe
              refine ⟨D2, es, (fun c => [(pairAt H10 c).1, (pairAt H10 c).2]), rfl, SqL.of hD2, fun c hc => SqT.of (hκ c hc), .inr (fun c hc e => by cases e), fun bs' sl pm pw nsl => ?_⟩
              obtain ⟨S, hS⟩ : ∃ S, S = bs'.map (pairAt H10) := ⟨_, rfl⟩
              have pS : Paired (PrO H10) bs' S := by
                rw [hS]
                exact paired_at fun c hc => hκ c (pm.mem_iff.mp hc)
              have permS : S.Perm (Tt.map (fP ot)) := by
                rw [hS, ← mapT]
                exact pm.map _
              have y13 := ext_upd (o := .lst (bs'.map V.ref)) nsl
              refine ⟨sl, _, rfl, .inl ⟨SqL.of upd_same, fun tt ntt => ?_⟩⟩
              have y14 := y13.trans (ext_upd (o := .tup (bs'.map V.ref)) ntt)
              have htt : (upd (upd H10 sl (.lst (bs'.map V.ref))) tt (.tup (bs'.map V.ref))) tt = some (.tup (bs'.map V.ref)) := upd_same
              generalize upd (upd H10 sl (.lst (bs'.map V.ref))) tt (.tup (bs'.map V.ref)) = H14 at *
              refine ⟨by show 2 ≤ sizeLine; decide, fun rt nrt => ?_⟩
              have y15 := ext_upd (o := .tup [V.ref tb, .ref tt]) nrt
              have y25 := y14.trans y15
              obtain ⟨g1, g2, g3⟩ := grown_tree pot gr tin2 permS
              refine q _ bu.length S _ ⟨⟨⟨rt, tb, tt, fs, bs'.map V.ref, rfl, SqT.of upd_same, SqT.of (y25 _ _ htb10), fl, SqT.of (y15 _ _ htt), ?_⟩, by omega, by omega, g3⟩, g1, by omega⟩ ((y25.jr hj10).mono (by omega)) (k10.trans y25.keep)
              exact tup_pairs (Paired.mapP pS fun _ _ h => y25 _ _ h)
        · intro N hN
          have keepP : ∀ {H' : Hp}, Keep j H5 H' → Paired (PrO H') as Tt := fun k => Paired.mapP pa fun b p h => k _ _ h fun e => by
            have h : H5 b = some (.tup [.int p.1, .int p.2]) := h
            rw [e, hyj5] at h; cases h
          have fin0 : ∀ {H' : Hp} {c : Nat}, Keep j H5 H' → Jr H' j lj c → c ≤ m + 45 → N _ H' := fun {H' c} k hj' hc => hN [some (.ref j), some (.ref sa), some (.ref oa), some (.ref ba), some (.ref td), p5, p6, p7, p8, p9, p10, none, none, none] H' ⟨bu, _, _, _, _, _, _, _, rfl, k _ _ hba nbj.1, rfl, k _ _ htd ntj.1, keepP k, hj'.mono hc, k5.trans k⟩
          refine ⟨_, rfl, by show 0 ≤ sizeLine; decide, fun e0 ne0 => ?_⟩
          have z1 := ext_upd (o := .lst []) ne0
          refine ⟨.list (Tt.map pairD2), .list [], .lst (SqL.of (z1 _ _ htd)) (pairs_dp (Paired.mapP pa fun _ _ h => z1 _ _ h)), .lst (SqL.of upd_same) .nil, shaped_pairs Tt, rfl, _, rfl, ?_⟩
          have hj6 := z1.jr hj5
          generalize upd H5 e0 (.lst []) = H6 at *
          cases hT : Tt with
          | nil =>
            exact iteF (iteF (fin0 z1.keep hj6 (by omega)))
          | cons p0 T0 =>
            have t1 : 1 ≤ Tt.length := by rw [hT]; exact Nat.succ_le_succ (Nat.zero_le _)
            refine iteT ⟨_, rfl, j, 2, _, rfl, lj, hj6, by omega, by decide, by decide, fun r2 H7 r20 r21 hj7 k7 => ⟨rfl, _, rfl, ?_⟩⟩
            have k57 := z1.keep.trans k7
            generalize decide (V.int r2 = V.int 0) = bb
            cases bb with
            | false => exact iteF (fin0 k57 hj7 (by omega))
            | true =>
              have pal := pa.length
              refine iteT ⟨_, rfl, _, rfl, _, rfl, td, _, rfl, .inl (SqL.of (k57 _ _ htd ntj.1)), j, _, _, rfl, lj, hj7, by omega, by rw [List.length_map]; omega, by rw [List.length_map]; exact Int.lt_of_lt_of_le (show ((as.length : Nat) : Int) < 50 by omega) (by decide), fun d H8 d0 d1 hj8 k8 => ?_⟩
              rw [List.length_map] at d1
              have k58 := k57.trans k8
              have hdl : d.toNat < as.length := by omega
              have hadd : as[d.toNat]? = some as[d.toNat] := List.getElem?_eq_getElem hdl
              obtain ⟨p, hp, hpo⟩ := Paired.at (keepP k58) hadd
              have atd : atI (as.map V.ref) d = some (.ref as[d.toNat]) := by
                have : atI (as.map V.ref) ((d.toNat : Nat) : Int) = some (.ref as[d.toNat]) := atI_nat (by rw [List.getElem?_map, hadd]; rfl)
                rw [show ((d.toNat : Nat) : Int) = d by omega] at this
                exact this
              have hba8 := k58 _ _ hba nbj.1
              have pB8 : Paired (IT K H8) bu Bs := Paired.mapP pB fun _ _ h => h.keep k58 hyj5
              obtain ⟨⟨i0, i1⟩, ⟨j0, j1⟩, _⟩ := tin p (List.mem_of_getElem? hp)
              have getB : ∀ x : Int, 0 ≤ x → x < (ns.length : Int) + (r.toNat : Int) → ∃ (bx : Addr) (B : List Int), atI bu x = some (.ref bx) ∧ B.length ≤ 12 ∧ SqT K H8 bx (B.map V.int) := fun x x0 x1 => by
                have hl : x.toNat < bu.length := by omega
                obtain ⟨B, hB, ⟨bx, e, hbx⟩⟩ := Paired.at pB8 (List.getElem?_eq_getElem hl)
                refine ⟨bx, B, ?_, (Bin B (List.mem_of_getElem? hB)).1, hbx⟩
                have : atI bu ((x.toNat : Nat) : Int) = some (bu[x.toNat]) := atI_nat (List.getElem?_eq_getElem hl)
                rw [show ((x.toNat : Nat) : Int) = x by omega, e] at this
                exact this
              obtain ⟨b1, B1, at1, l1, hb1⟩ := getB p.1 i0 i1
              obtain ⟨b2, B2, at2, l2, hb2⟩ := getB p.2 j0 j1
              obtain ⟨C, hC, lC⟩ : ∃ C : List Int, cutV (B2.map V.int) none (some 1) = C.map V.int ∧ C.length ≤ 12 := by
                refine ⟨(B2.drop _).take _, by unfold cutV; rw [List.map_take, List.map_drop, List.length_map], ?_⟩
                rw [List.length_take, List.length_drop]
                omega
              refine .inl ⟨td, _, d, _, rfl, rfl, SqL.of (k58 _ _ htd ntj.1), atd, as[d.toNat], _, rfl, SqT.of hpo, rfl, _, _, rfl, _, _, rfl, rfl, ?_⟩
              dsimp only [gName]
              refine ⟨_, rfl, _, rfl, .inl ⟨ba, _, p.1, _, rfl, rfl, SqL.of hba8, at1, _, rfl, _, rfl, .inl ⟨ba, _, p.2, _, rfl, rfl, SqL.of hba8, at2, _, rfl, b2, _, rfl, hb2, fun pc H9 x9 hpc => ?_⟩⟩⟩
              rw [hC] at hpc
              refine ⟨b1, pc, _, _, rfl, rfl, x9.sqT hb1, hpc, by rw [List.length_map, List.length_map, sizeLine_eq]; omega, fun pd H10 x10 hpd => ?_⟩
              rw [← List.map_append] at hpd
              refine ⟨pd, B1 ++ C, rfl, .inr hpd, (by rw [List.length_append]; show _ < 4096; omega), fun pk ks npk ndk memk lenk => ?_⟩
              refine ⟨pk, ks, rfl, upd_same, fun bag pS perm srt nS => ?_⟩
              refine ⟨pS, _, rfl, .inl ⟨SqL.of upd_same, fun tb ntb => ?_⟩⟩
              generalize hH11 : upd (upd (upd H10 pk _) pS (.lst (bag.map V.int))) tb (.tup (bag.map V.int)) = H11
              have x11 : Ext H10 H11 := by rw [← hH11]; exact ((ext_upd npk).upd nS).upd ntb
              have x8 := (x9.trans x10).trans x11
              have hba11 := x8 _ _ hba8
              refine ⟨_, rfl, _, rfl, ba, _, p.1, p.1.toNat, rfl, rfl, hba11, by unfold ixN; rw [if_pos i0, if_pos (by omega)], ?_⟩
              have k511 := k58.trans x8.keep
              have kb : Keep ba H11 (upd H11 ba (.lst (bu.set p.1.toNat (V.ref tb)))) := Keep.upd
              have hj11 := (x8.jr hj8).upd (o := .lst (bu.set p.1.toNat (V.ref tb))) nbj.1 nbj.2
              have k11 := k5.trans k511
              refine hN _ _ ⟨bu.set p.1.toNat (V.ref tb), _, _, _, _, _, _, _, rfl, upd_same, by rw [List.length_set], kb _ _ (k511 _ _ htd ntj.1) (Ne.symm btd), Paired.mapP (keepP k511) fun b q h => kb _ _ h fun e => ?_, hj11.mono (by omega), fun b o e nb => ?_⟩
              · have h : H11 b = some (.tup [.int q.1, .int q.2]) := h
                rw [e, hba11] at h; cases h
              · have nt : b ≠ ba := fun z => by rw [z, nbH] at e; cases e
                rw [upd_ne nt]
                exact k11 b o e nb

end
end My

end
section
set_option linter.all false
set_option maxRecDepth 100000
set_option maxHeartbeats 4000000
set_option Elab.async false
namespace My
open PySem L2
section
variable {P : Program} {w : World} {K : PySem.W.Frag} {mg : Str → Option Value} {base : Heap} {t : Adr} {TB : List Addr} {LB : List (Addr × Str)}
/-! ### _law_gsame -/
section
variable {X : Cx} {a b : Addr} {xs ys : List V} {H0 : Hp} {Qd : Hp → Prop} {B : (Hp → Prop) → V → Hp → Prop}
theorem pi_zip2 {e e2 : Expr} {ta : TA} {p pos tpos : Pos} {elts : List Expr} {kk : Nat} (hg : Gl X "zip") (hm : X.mg "zip" = none) (ha : PA X [e, e2] ta)
    (hs : starEach [e, e2] X.env = (false, eval e X.env) :: starEach [e2] X.env := by rfl) (hpl : (backTo pos (starEach [e2] X.env)).any (·.1) = false := by rfl) :
    PI X (.Tuple elts kk tpos) (.Call (.Name "zip" p) [e, e2] [] pos) (fun σ H R => iZip X.K ta σ H R ∨ iZipT X.K ta σ H R) := pi_alt (pi_zip hg hm ha hs hpl) (pi_zipT hg hm ha hs hpl)
theorem W_zipL (Pv : Nat → Hp → Prop) (h0 : Pv 0 H0) (hl : ∀ i H, i ≤ xs.length → Pv i H → SqL K H a xs ∧ SqL K H b ys) (hxy : xs.length = ys.length)
    (hs : ∀ i x y T H, xs[i]? = some x → ys[i]? = some y → Pv i H → H T = none → B (Pv (i + 1)) (.ref T) (upd H T (.tup [x, y]))) (hd : ∀ H, Pv xs.length H → Qd H) :
    ∃ W : Nat → Nat → Hp → Prop, (∃ m, W 0 m H0) ∧ ∀ i m H, W i m H → ((Itz K a b).stop i H ∧ Qd H) ∨ ((Itz K a b).go i H ∧ ∃ Nx : Hp → Prop, (∀ H', Nx H' → ∃ m', m' < m ∧ W (i + 1) m' H') ∧ ∀ x H', (Itz K a b).yld i H x H' → B Nx x H') := by
  refine ⟨fun i m H => m = xs.length - i ∧ i ≤ xs.length ∧ Pv i H, ⟨xs.length, by simp, Nat.zero_le _, h0⟩, ?_⟩
  rintro i m H ⟨rfl, hi, p⟩
  obtain ⟨q1, q2⟩ := hl i H hi p
  by_cases hlt : i < xs.length
  · have e1 : xs[i]? = some xs[i] := List.getElem?_eq_getElem hlt
    have e2 : ys[i]? = some (ys[i]'(by omega)) := List.getElem?_eq_getElem (by omega)
    refine .inr ⟨⟨xs, ys, _, _, q1, q2, e1, e2⟩, Pv (i + 1), fun H' p' => ⟨xs.length - (i + 1), by omega, rfl, hlt, p'⟩, ?_⟩
    rintro v H' ⟨T, x, y, rfl, hT, rfl, c1, c2⟩
    exact hs i x y T H (c1 _ q1) (c2 _ q2) p hT
  · have e : i = xs.length := by omega
    subst e
    exact .inl ⟨⟨xs, ys, q1, q2, .inl (Nat.le_refl _)⟩, hd H p⟩
end
/-- ints and texts, tuples and lists of such -/
def TiD : Nat → PyData → Prop
  | 0, _ => False
  | n + 1, d => (∃ i, d = .int i) ∨ (∃ ds, d = .tuple ds ∧ ds.length ≤ 100000 ∧ ∀ e ∈ ds, TiD n e) ∨ (∃ x, d = .str x) ∨ ∃ ds, d = .list ds ∧ ds.length ≤ 100000 ∧ ∀ e ∈ ds, TiD n e
/-- of what is the same -/
def spSame (K : PySem.W.Frag) (n : Nat) : Sp := fun vs H Q _ => ∃ (x y : V) (d : PyData), vs = [x, y] ∧ Dp K H x d ∧ Dp K H y d ∧ TiD n d ∧ ∀ H', Ext H H' → Q (.bl true) H'
theorem sc__law_gsame : FnScope ["found", "due", "one", "other"] ["found", "due"] (defScope s__law_gsame) := ⟨rfl, rfl, rfl, by decide +kernel, rfl, by decide +kernel, by decide +kernel⟩
theorem ok__law_gsame {n : Nat} {fd : FuncData} (F : Fun K "_law_gsame" "_law_gsame" s__law_gsame t.f__law_gsame fd) (T : Txt K mg t) (B__law_gsame : Binds K fd ["found", "due"] []) : FnOk P w K mg base CX0 n t.f__law_gsame fd ["found", "due"] (spSame K n) := by
  have nd := sc__law_gsame.nd
  induction n with
  | zero => exact ⟨fun vs H Q E h => by obtain ⟨_, _, _, rfl, _⟩ := h; rfl, fun A outer s H args us vs Q E _ _ _ _ h => by obtain ⟨_, _, _, _, _, _, h, _⟩ := h; exact h.elim⟩
  | succ n G__law_gsame =>
    refine F.ok sc__law_gsame (fun vs H Q E h => ?_) (fun cdv A outer s H vs Q E hr h => ?_)
    · obtain ⟨_, _, _, rfl, _⟩ := h
      rfl
    · obtain ⟨x, y, d, rfl, hx, hy, hd, q⟩ := h
      refine ⟨_, (pss_cons (ps_if (pt_cmpR op_isN (pv 1) pe_non (nomark _)) (pss_one (ps_ret (pe_cmpR op_isN (pv 0) pe_non (nomark _)))) pss_nil) (pss_cons (ps_if (PW.pt (pw_or (pt_val (pe_callB call_isi (by rfl) T.b_isinstance (by decide +kernel) (pa_cons (pv 1) (pa_cons (pe_ty (n := "bool") (by rfl) T.b_bool (by decide +kernel)) pa_nil)))) (pw_or1 (pt_val (pe_callB call_isi (by rfl) T.b_isinstance (by decide +kernel) (pa_cons (pv 0) (pa_cons (pe_ty (n := "bool") (by rfl) T.b_bool (by decide +kernel)) pa_nil))))))) (pss_one (ps_ret (pe_and (pe_callB call_isi (by rfl) T.b_isinstance (by decide +kernel) (pa_cons (pv 1) (pa_cons (pe_ty (n := "bool") (by rfl) T.b_bool (by decide +kernel)) pa_nil))) (pe_and (pe_callB call_isi (by rfl) T.b_isinstance (by decide +kernel) (pa_cons (pv 0) (pa_cons (pe_ty (n := "bool") (by rfl) T.b_bool (by decide +kernel)) pa_nil))) (pe_one (pe_cmpR op_eq (pv 0) (pv 1) (nomark _))))))) pss_nil) (pss_cons (ps_if (pt_val (pe_callB call_isi (by rfl) T.b_isinstance (by decide +kernel) (pa_cons (pv 1) (pa_cons (pe_ty (n := "int") (by rfl) T.b_int (by decide +kernel)) pa_nil)))) (pss_one (ps_ret (pe_and (pe_callB call_isi (by rfl) T.b_isinstance (by decide +kernel) (pa_cons (pv 0) (pa_cons (pe_ty (n := "int") (by rfl) T.b_int (by decide +kernel)) pa_nil))) (pe_one (pe_cmpR op_eq (pv 0) (pv 1) (nomark _)))))) pss_nil) (pss_cons (ps_if (pt_val (pe_callB call_isi (by rfl) T.b_isinstance (by decide +kernel) (pa_cons (pv 1) (pa_cons (pe_ty (n := "str") (by rfl) T.b_str (by decide +kernel)) pa_nil)))) (pss_one (ps_ret (pe_and (pe_callB call_isi (by rfl) T.b_isinstance (by decide +kernel) (pa_cons (pv 0) (pa_cons (pe_ty (n := "str") (by rfl) T.b_str (by decide +kernel)) pa_nil))) (pe_one (pe_cmpR op_eq (pv 0) (pv 1) (nomark _)))))) pss_nil) (pss_cons (ps_if (PW.pt (pw_or (pt_cmpR op_ne (pe_callB call_isi (by rfl) T.b_isinstance (by decide +kernel) (pa_cons (pv 1) (pa_cons (pe_ty (n := "tuple") (by rfl) T.b_tuple (by decide +kernel)) pa_nil))) (pe_callB call_isi (by rfl) T.b_isinstance (by decide +kernel) (pa_cons (pv 0) (pa_cons (pe_ty (n := "tuple") (by rfl) T.b_tuple (by decide +kernel)) pa_nil))) (nomark _)) (pw_or1 (pt_cmpR op_ne (pe_callB call_isi (by rfl) T.b_isinstance (by decide +kernel) (pa_cons (pv 1) (pa_cons (pe_ty (n := "list") (by rfl) T.b_list (by decide +kernel)) pa_nil))) (pe_callB call_isi (by rfl) T.b_isinstance (by decide +kernel) (pa_cons (pv 0) (pa_cons (pe_ty (n := "list") (by rfl) T.b_list (by decide +kernel)) pa_nil))) (nomark _))))) (pss_one (ps_ret pe_bl)) pss_nil) (pss_one (ps_ret (pe_and (pe_cmpR op_eq (pe_callB call_len_seq (by rfl) T.b_len (by decide +kernel) (pa_cons (pv 0) pa_nil)) (pe_callB call_len_seq (by rfl) T.b_len (by decide +kernel) (pa_cons (pv 1) pa_nil)) (nomark _)) (pe_one (pe_callB (cr_all rfl) (by rfl) T.b_all (by decide +kernel) (pa_cons (pe_lc (own := [("one", 2), ("other", 3)]) (by rfl) nd (pi_zip2 (by rfl) T.b_zip (pa_cons (pv 0) (pa_cons (pv 1) pa_nil))) (blkOk_by (own := [("one", 2), ("other", 3)]) rfl) (fun _ _ _ _ _ => (pg_tupK (K := K) (n := 2) rfl rfl (pgs_cons (pg_name (i := 2) nd rfl (Or.inl rfl)) (pgs_cons (pg_name (i := 3) nd rfl (Or.inl rfl)) pgs_nil)))) (fun _ _ _ _ _ => pts_nil) (fun _ _ _ _ _ => (pe_call G__law_gsame (hr.mono (by first | decide | omega)) (by rfl) T.m__law_gsame T.k__law_gsame B__law_gsame .nil pass0 (pa_cons (pv 2) (pa_cons (pv 3) pa_nil))))) pa_nil))))))))))), ?_⟩
      rcases hd with ⟨i, rfl⟩ | ⟨ds, rfl, hl, hd⟩ | ⟨st, rfl⟩ | ⟨ds, rfl, hl, hd⟩
      · obtain rfl : x = .int i := by cases hx; rfl
        obtain rfl : y = .int i := by cases hy; rfl
        refine ⟨_, rfl, rfl, _, rfl, iteF ?_⟩
        refine ⟨_, rfl, _, _, "bool", rfl, .int i, (by decide), _, rfl, iteF ?_⟩
        refine ⟨_, rfl, _, _, "bool", rfl, .int i, (by decide), _, rfl, iteF ?_⟩
        dsimp only [tNext]
        refine ⟨_, rfl, _, _, "int", rfl, .int i, (by decide), _, rfl, iteT ?_⟩
        refine ⟨_, rfl, _, _, "int", rfl, .int i, (by decide), _, rfl, iteT ?_⟩
        refine ⟨_, rfl, _, rfl, rfl, ?_⟩
        rw [decide_eq_true rfl]
        exact q _ (Ext.refl _)
      · obtain ⟨ax, xs, rfl, hxs, hdx⟩ : ∃ a xs, x = .ref a ∧ SqT K H a xs ∧ DpAll K H xs ds := by cases hx with | tup s a => exact ⟨_, _, rfl, s, a⟩
        obtain ⟨ay, ys, rfl, hys, hdy⟩ : ∃ a xs, y = .ref a ∧ SqT K H a xs ∧ DpAll K H xs ds := by cases hy with | tup s a => exact ⟨_, _, rfl, s, a⟩
        have lx := hdx.len
        have ly := hdy.len
        refine ⟨_, rfl, rfl, _, rfl, iteF ?_⟩
        refine ⟨_, rfl, _, _, "bool", rfl, .tup hys, (by decide), _, rfl, iteF ?_⟩
        refine ⟨_, rfl, _, _, "bool", rfl, .tup hxs, (by decide), _, rfl, iteF ?_⟩
        dsimp only [tNext]
        refine ⟨_, rfl, _, _, "int", rfl, .tup hys, (by decide), _, rfl, iteF ?_⟩
        dsimp only [tNext]
        refine ⟨_, rfl, _, _, "str", rfl, .tup hys, (by decide), _, rfl, iteF ?_⟩
        dsimp only [tNext]
        refine ⟨_, rfl, _, _, "tuple", rfl, .tup hys, (by decide), _, rfl, _, _, "tuple", rfl, .tup hxs, (by decide), rfl, _, rfl, iteF ?_⟩
        refine ⟨_, rfl, _, _, "list", rfl, .tup hys, (by decide), _, rfl, _, _, "list", rfl, .tup hxs, (by decide), rfl, _, rfl, iteF ?_⟩
        dsimp only [tNext]
        refine ⟨_, rfl, ax, xs, rfl, .inr hxs, _, rfl, ay, ys, rfl, .inr hys, rfl, _, rfl, ?_⟩
        rw [show decide (V.int (xs.length : Int) = V.int (ys.length : Int)) = true from by rw [lx, ly]; exact decide_eq_true rfl]
        refine iteT ?_
        refine .inr ⟨_, rfl, _, rfl, ax, ay, xs, ys, rfl, hxs, hys, fun D nD => ?_⟩
        refine W_zipT (K := K) (a := ax) (b := ay) (xs := xs) (ys := ys) (fun i H' => H' D = some (.lst ((List.replicate i true).map V.bl)) ∧ Ext H H') ⟨upd_same, ext_upd nD⟩ (fun i H' _ ⟨_, e⟩ => ⟨e.sqT hxs, e.sqT hys⟩) (by omega) ?_ ?_
        · rintro i u v Tt H2 hu hv ⟨hD, x2⟩ nT
          obtain ⟨du, e1, hdu⟩ := hdx.at_ hu
          obtain ⟨dv, e2, hdv⟩ := hdy.at_ hv
          rw [e1] at e2
          cases e2
          have xT := ext_upd (o := .tup [u, v]) nT
          have xa := x2.trans xT
          refine ⟨Tt, _, rfl, SqT.of upd_same, rfl, _, _, rfl, _, _, rfl, rfl, rfl, ?_⟩
          dsimp only [tYes]
          rw [if_pos rfl]
          refine ⟨_, rfl, _, rfl, u, v, du, rfl, hdu.ext xa, hdv.ext xa, hd du (List.mem_of_getElem? e1), fun H3 x3 => ?_⟩
          have hi : i < xs.length := (List.getElem?_eq_some_iff.mp hu).1
          refine ⟨_, x3 _ _ (xT _ _ hD), by rw [List.length_map, List.length_replicate, sizeLine_eq]; omega, ?_, fun b o e => ?_⟩
          · rw [upd_same, List.replicate_succ', List.map_append]; rfl
          · have nb : b ≠ D := fun z => by rw [z, nD] at e; cases e
            rw [upd_ne nb]; exact x3 _ _ (xT _ _ (x2 b o e))
        · rintro H2 ⟨hD, x2⟩
          refine ⟨D, _, rfl, SqL.of hD, ?_⟩
          rw [show ((List.replicate xs.length true).all id) = true from List.all_eq_true.mpr fun b hb => by rw [(List.mem_replicate.mp hb).2]; rfl]
          exact q _ x2
      · obtain rfl : x = .str st := by cases hx; rfl
        obtain rfl : y = .str st := by cases hy; rfl
        refine ⟨_, rfl, rfl, _, rfl, iteF ?_⟩
        refine ⟨_, rfl, _, _, "bool", rfl, .str st, (by decide), _, rfl, iteF ?_⟩
        refine ⟨_, rfl, _, _, "bool", rfl, .str st, (by decide), _, rfl, iteF ?_⟩
        dsimp only [tNext]
        refine ⟨_, rfl, _, _, "int", rfl, .str st, (by decide), _, rfl, iteF ?_⟩
        dsimp only [tNext]
        refine ⟨_, rfl, _, _, "str", rfl, .str st, (by decide), _, rfl, iteT ?_⟩
        refine ⟨_, rfl, _, _, "str", rfl, .str st, (by decide), _, rfl, iteT ?_⟩
        refine ⟨_, rfl, _, rfl, rfl, ?_⟩
        rw [decide_eq_true rfl]
        exact q _ (Ext.refl _)
      · obtain ⟨ax, xs, rfl, hxs, hdx⟩ : ∃ a xs, x = .ref a ∧ SqL K H a xs ∧ DpAll K H xs ds := by cases hx with | lst s a => exact ⟨_, _, rfl, s, a⟩
        obtain ⟨ay, ys, rfl, hys, hdy⟩ : ∃ a xs, y = .ref a ∧ SqL K H a xs ∧ DpAll K H xs ds := by cases hy with | lst s a => exact ⟨_, _, rfl, s, a⟩
        have lx := hdx.len
        have ly := hdy.len
        refine ⟨_, rfl, rfl, _, rfl, iteF ?_⟩
        refine ⟨_, rfl, _, _, "bool", rfl, .lst hys, (by decide), _, rfl, iteF ?_⟩
        refine ⟨_, rfl, _, _, "bool", rfl, .lst hxs, (by decide), _, rfl, iteF ?_⟩
        dsimp only [tNext]
        refine ⟨_, rfl, _, _, "int", rfl, .lst hys, (by decide), _, rfl, iteF ?_⟩
        dsimp only [tNext]
        refine ⟨_, rfl, _, _, "str", rfl, .lst hys, (by decide), _, rfl, iteF ?_⟩
        dsimp only [tNext]
        refine ⟨_, rfl, _, _, "tuple", rfl, .lst hys, (by decide), _, rfl, _, _, "tuple", rfl, .lst hxs, (by decide), rfl, _, rfl, iteF ?_⟩
        refine ⟨_, rfl, _, _, "list", rfl, .lst hys, (by decide), _, rfl, _, _, "list", rfl, .lst hxs, (by decide), rfl, _, rfl, iteF ?_⟩
        dsimp only [tNext]
        refine ⟨_, rfl, ax, xs, rfl, .inl hxs, _, rfl, ay, ys, rfl, .inl hys, rfl, _, rfl, ?_⟩
        rw [show decide (V.int (xs.length : Int) = V.int (ys.length : Int)) = true from by rw [lx, ly]; exact decide_eq_true rfl]
        refine iteT ?_
        refine .inl ⟨_, rfl, _, rfl, ax, ay, xs, ys, rfl, hxs, hys, fun D nD => ?_⟩
        refine W_zipL (K := K) (a := ax) (b := ay) (xs := xs) (ys := ys) (fun i H' => H' D = some (.lst ((List.replicate i true).map V.bl)) ∧ Ext H H') ⟨upd_same, ext_upd nD⟩ (fun i H' _ ⟨_, e⟩ => ⟨e.sqL hxs, e.sqL hys⟩) (by omega) ?_ ?_
        · rintro i u v Tt H2 hu hv ⟨hD, x2⟩ nT
          obtain ⟨du, e1, hdu⟩ := hdx.at_ hu
          obtain ⟨dv, e2, hdv⟩ := hdy.at_ hv
          rw [e1] at e2
          cases e2
          have xT := ext_upd (o := .tup [u, v]) nT
          have xa := x2.trans xT
          refine ⟨Tt, _, rfl, SqT.of upd_same, rfl, _, _, rfl, _, _, rfl, rfl, rfl, ?_⟩
          dsimp only [tYes]
          rw [if_pos rfl]
          refine ⟨_, rfl, _, rfl, u, v, du, rfl, hdu.ext xa, hdv.ext xa, hd du (List.mem_of_getElem? e1), fun H3 x3 => ?_⟩
          have hi : i < xs.length := (List.getElem?_eq_some_iff.mp hu).1
          refine ⟨_, x3 _ _ (xT _ _ hD), by rw [List.length_map, List.length_replicate, sizeLine_eq]; omega, ?_, fun b o e => ?_⟩
          · rw [upd_same, List.replicate_succ', List.map_append]; rfl
          · have nb : b ≠ D := fun z => by rw [z, nD] at e; cases e
            rw [upd_ne nb]; exact x3 _ _ (xT _ _ (x2 b o e))
        · rintro H2 ⟨hD, x2⟩
          refine ⟨D, _, rfl, SqL.of hD, ?_⟩
          rw [show ((List.replicate xs.length true).all id) = true from List.all_eq_true.mpr fun b hb => by rw [(List.mem_replicate.mp hb).2]; rfl]
          exact q _ x2

end
end My

end
section
set_option linter.all false
set_option maxRecDepth 100000
set_option maxHeartbeats 4000000
set_option Elab.async false
namespace My
open PySem L2
section
variable {P : Program} {w : World} {K : PySem.W.Frag} {mg : Str → Option Value} {base : Heap} {t : Adr} {TB : List Addr} {LB : List (Addr × Str)}
/-! ### same_maths -/
/-- the sorted lists of what is tied: there are such, and only one -/
theorem tied_some (n : Nat) (E : List (Int × Int)) : ∃ TD, TiedOk n E TD := by
  refine ⟨(List.range n).map fun (i : Nat) => (nearL E (i : Int)).mergeSort, by rw [List.length_map, List.length_range], fun i hi => ?_⟩
  have e : nearOf ((List.range n).map fun (i : Nat) => (nearL E (i : Int)).mergeSort) i = (nearL E (i : Int)).mergeSort := by
    unfold nearOf
    rw [Int.toNat_natCast, List.getD_eq_getElem?_getD, List.getElem?_map, List.getElem?_range hi]
    rfl
  rw [e]
  refine ⟨List.mergeSort_perm _ _, ?_⟩
  exact (List.pairwise_mergeSort (le := fun a b => decide (a ≤ b)) (fun a b c h1 h2 => by have := of_decide_eq_true h1; have := of_decide_eq_true h2; exact decide_eq_true (by omega)) (fun a b => by
    rw [Bool.or_eq_true, decide_eq_true_iff, decide_eq_true_iff]; omega) _).imp fun h => of_decide_eq_true h
theorem tied_one {n : Nat} {E : List (Int × Int)} {TD TD' : List (List Int)} (h : TiedOk n E TD) (h' : TiedOk n E TD') : TD = TD' := by
  refine List.ext_getElem (h.1.trans h'.1.symm) fun i h1 h2 => ?_
  have i1 : i < n := h.1 ▸ h1
  obtain ⟨p, w⟩ := h.2 i i1
  obtain ⟨p', w'⟩ := h'.2 i i1
  have e1 : nearOf TD i = TD[i] := by unfold nearOf; rw [Int.toNat_natCast, List.getD_eq_getElem?_getD, List.getElem?_eq_getElem h1]; rfl
  have e2 : nearOf TD' i = TD'[i] := by unfold nearOf; rw [Int.toNat_natCast, List.getD_eq_getElem?_getD, List.getElem?_eq_getElem h2]; rfl
  rw [e1] at p w
  rw [e2] at p' w'
  exact List.Perm.eq_of_pairwise (le := fun x y => decide (x ≤ y)) (fun x y _ _ h1 h2 => by have := of_decide_eq_true h1; have := of_decide_eq_true h2; omega) (w.imp fun h => decide_eq_true h) (w'.imp fun h => decide_eq_true h) (p.trans p'.symm)
/-- few rounds, each of few letters -/
theorem rounds_few {TD : List (List Int)} {W left kn : List (Int × Int)} {R : List (List (Int × Int))} (lv : Live TD W) (r : Rounds TD left kn R) : (∀ p ∈ left, p ∈ W) → (∀ p ∈ W, p ∈ left ∨ p ∈ kn) → R.length ≤ left.length ∧ ∀ ps ∈ R, ps.length ≤ left.length := by
  induction r with
  | nil => exact fun _ _ => ⟨Nat.le_refl _, fun ps h => absurd h List.not_mem_nil⟩
  | cons hne r ih =>
    intro l1 l2
    have ll := later_less lv l1 l2 hne
    have lin := later_in (TD := TD) l1 l2
    obtain ⟨i1, i2⟩ := ih lin.1 lin.2
    refine ⟨by rw [List.length_cons]; omega, fun ps hp => ?_⟩
    rcases List.mem_cons.mp hp with rfl | hp
    · exact List.length_filter_le _ _
    · exact Nat.le_trans (i2 ps hp) (by omega)
def roundsD (R : List (List (Int × Int))) : PyData := .list (R.map fun ps => .list (ps.map pairD2))
theorem rounds_dp {K : PySem.W.Frag} {H : Hp} {r : Addr} {rs : List V} {R : List (List (Int × Int))} (hr : H r = some (.lst rs)) (h : Paired (fun v ps => ∃ c, v = V.ref c ∧ PLst H c ps) rs R) : Dp K H (.ref r) (roundsD R) := by
  refine .lst (SqL.of hr) ?_
  clear hr
  induction h with
  | nil => exact .nil
  | cons h t ih =>
    obtain ⟨c, rfl, bs, h1, h2⟩ := h
    exact .cons (.lst (SqL.of h1) (pairs_dp h2)) ih
theorem rounds_ti {R : List (List (Int × Int))} (h1 : R.length ≤ 4000) (h2 : ∀ ps ∈ R, ps.length ≤ 4000) : TiD 4 (roundsD R) := by
  refine .inr (.inr (.inr ⟨_, rfl, by rw [List.length_map]; omega, fun e he => ?_⟩))
  obtain ⟨ps, hps, rfl⟩ := List.mem_map.mp he
  refine .inr (.inr (.inr ⟨_, rfl, by rw [List.length_map]; have := h2 ps hps; omega, fun e he => ?_⟩))
  obtain ⟨p, _, rfl⟩ := List.mem_map.mp he
  refine .inr (.inl ⟨_, rfl, by show 2 ≤ 100000; decide, fun e he => ?_⟩)
  rcases List.mem_cons.mp he with rfl | he
  · exact .inl ⟨_, rfl⟩
  · rw [List.mem_singleton.mp he]; exact .inl ⟨_, rfl⟩

/-! ### _law_gunit -/

theorem prodI_snoc (ns : List Int) (x : Int) : prodI (ns ++ [x]) = prodI ns * x := by unfold prodI; rw [List.foldl_append]; rfl
/-- the sizes of some names -/
def pick (ns : List Int) (names : List Int) : List Int := names.map fun x => ns.getD x.toNat 0
theorem fold_le : ∀ (l : List Int) (a : Int), 1 ≤ a → (∀ x ∈ l, 1 ≤ x ∧ x ≤ 4) → 1 ≤ l.foldl (· * ·) a ∧ l.foldl (· * ·) a ≤ a * 4 ^ l.length
  | [], a, h, _ => by simp; exact h
  | x :: l, a, h, hb => by
    have hx := hb x (List.mem_cons_self ..)
    have h1 : 1 ≤ a * x := Int.le_trans h (by have := Int.mul_le_mul_of_nonneg_left hx.1 (show 0 ≤ a by omega); omega)
    obtain ⟨p, r⟩ := fold_le l (a * x) h1 fun y hy => hb y (List.mem_cons_of_mem _ hy)
    refine ⟨p, Int.le_trans r ?_⟩
    have h2 : a * x ≤ a * 4 := Int.mul_le_mul_of_nonneg_left hx.2 (by omega)
    have h3 : (0 : Int) ≤ 4 ^ l.length := Int.pow_nonneg (by decide)
    have := Int.mul_le_mul_of_nonneg_right h2 h3
    rw [List.length_cons, Int.pow_succ, Int.mul_comm (4 ^ l.length) 4, ← Int.mul_assoc]
    exact this
theorem prodI_le {l : List Int} {k : Nat} (hb : ∀ x ∈ l, 1 ≤ x ∧ x ≤ 4) (hk : l.length ≤ k) : 1 ≤ prodI l ∧ prodI l ≤ 4 ^ k := by
  obtain ⟨p, r⟩ := fold_le l 1 (by decide) hb
  refine ⟨p, Int.le_trans r ?_⟩
  rw [Int.one_mul]
  exact_mod_cast Nat.pow_le_pow_right (by decide : 0 < 4) hk
theorem pick_ok {ns names : List Int} (hb : ∀ x ∈ ns, 1 ≤ x ∧ x ≤ 4) (h : ∀ x ∈ names, 0 ≤ x ∧ x < ns.length) : ∀ x ∈ pick ns names, 1 ≤ x ∧ x ≤ 4 := fun x hx => by
  obtain ⟨y, hy, rfl⟩ := List.mem_map.mp hx
  have := h y hy
  rw [List.getD_eq_getElem?_getD, List.getElem?_eq_getElem (show y.toNat < ns.length by omega)]
  exact hb _ (List.getElem_mem _)
theorem pick_at {ns : List Int} {y : Int} (h : 0 ≤ y ∧ y < ns.length) : atI (ns.map V.int) y = some (.int (ns.getD y.toNat 0)) := by
  have e : y = ((y.toNat : Nat) : Int) := by omega
  have hl : y.toNat < ns.length := by omega
  rw [e]
  refine atI_nat ?_
  rw [List.getElem?_map, Int.toNat_natCast, List.getD_eq_getElem?_getD, List.getElem?_eq_getElem hl]
  rfl
/-- what a drawn part keeps to -/
structure PartOk (ns : List Int) (x : Str) (most : Int) (p : List Int × List Int) : Prop where
  len : (p.1.length : Int) ≤ most
  pw : p.1.Pairwise (· < ·)
  inn : ∀ y ∈ p.1, 0 ≤ y ∧ y < ns.length
  wlen : (p.2.length : Int) = prodI (pick ns p.1)
  wb : ∀ y ∈ p.2, -(10 ^ 12) ≤ y ∧ y ≤ 10 ^ 12 ∧ (x = "any" → 0 ≤ y ∧ y ≤ 1)
theorem SqT.updL {H : Hp} {a D : Addr} {xs zs ys : List V} (h : SqT K H a xs) (hD : H D = some (.lst zs)) : SqT K (upd H D (.lst ys)) a xs := by
  rcases h with (h | ⟨o, h⟩) | h
  · exact .inl (.inl (by rw [upd_ne (ne_of h hD (by intro z; cases z))]; exact h))
  · exact .inl (.inr ⟨o, by rw [upd_ne (ne_of h hD (by intro z; cases z))]; exact h⟩)
  · exact .inr h
theorem IT.updL {H : Hp} {D : Addr} {v : V} {ns : List Int} {zs ys : List V} (h : IT K H v ns) (hD : H D = some (.lst zs)) : IT K (upd H D (.lst ys)) v ns := let ⟨a, e, q⟩ := h; ⟨a, e, SqT.updL q hD⟩
theorem PtT.updL {H : Hp} {D : Addr} {v : V} {p : List Int × List Int} {zs ys : List V} (h : PtT K H v p) (hD : H D = some (.lst zs)) : PtT K (upd H D (.lst ys)) v p := let ⟨a, y, z, e, q, h1, h2⟩ := h; ⟨a, y, z, e, SqT.updL q hD, IT.updL h1 hD, IT.updL h2 hD⟩
theorem Paired.snoc {α β : Type} {R : α → β → Prop} : ∀ {l : List α} {r : List β} {a : α} {b : β}, Paired R l r → R a b → Paired R (l ++ [a]) (r ++ [b])
  | _, _, _, _, .nil, h => .cons h .nil
  | _, _, _, _, .cons x t, h => .cons x (Paired.snoc t h)
/-! ### _law_gjoin -/

/-! ### _law_gfillings -/

theorem rIx_seq2 {K : PySem.W.Frag} {a : Addr} {i : Int} {xs : List V} {v : V} {H : Hp} {Q : VK} (h : Sq2 K H a xs) (e : atI xs i = some v) (q : Q v H) : rIx K (.ref a) (.int i) H Q := by
  rcases h with h | h
  · exact .inl ⟨a, xs, i, v, rfl, rfl, h, e, q⟩
  · exact .inr (.inl ⟨a, xs, i, v, rfl, rfl, h, e, q⟩)
/-- one more name: each filling so far with each worth behind it -/
def fillStep (n : Int) (fs : List (List Int)) : List (List Int) := fs.flatMap fun s => (List.range n.toNat).map fun (i : Nat) => s ++ [(i : Int)]
def fillsL (ns names : List Int) : List (List Int) := names.foldl (fun acc x => fillStep (ns.getD x.toNat 0) acc) [[]]
theorem fillsL_snoc (ns names : List Int) (x : Int) : fillsL ns (names ++ [x]) = fillStep (ns.getD x.toNat 0) (fillsL ns names) := by unfold fillsL; rw [List.foldl_append]; rfl
theorem fillStep_len (n : Int) (fs : List (List Int)) : (fillStep n fs).length = fs.length * n.toNat := by
  unfold fillStep
  induction fs with
  | nil => simp
  | cons f fs ih => rw [List.flatMap_cons, List.length_append, ih, List.length_map, List.length_range, List.length_cons, Nat.succ_mul, Nat.add_comm]
theorem fillsL_len {ns : List Int} (hb : ∀ x ∈ ns, 1 ≤ x ∧ x ≤ 4) {names : List Int} (hn : ∀ x ∈ names, 0 ≤ x ∧ x < ns.length) : ∀ i, i ≤ names.length → ((fillsL ns (names.take i)).length : Int) = prodI (pick ns (names.take i))
  | 0, _ => by rw [List.take_zero]; rfl
  | i + 1, h => by
    have ih := fillsL_len hb hn i (by omega)
    have hx := hn _ (List.getElem_mem (show i < names.length by omega))
    have bn : 1 ≤ ns.getD (names[i]'(by omega)).toNat 0 := by
      rw [List.getD_eq_getElem?_getD, List.getElem?_eq_getElem (show (names[i]'(by omega)).toNat < ns.length by omega)]
      exact (hb _ (List.getElem_mem _)).1
    rw [List.take_succ, List.getElem?_eq_getElem (show i < names.length by omega)]
    show ((fillsL ns (names.take i ++ [names[i]'(by omega)])).length : Int) = prodI (pick ns (names.take i ++ [names[i]'(by omega)]))
    have ps : pick ns (names.take i ++ [names[i]'(by omega)]) = pick ns (names.take i) ++ [ns.getD (names[i]'(by omega)).toNat 0] := by unfold pick; rw [List.map_append]; rfl
    rw [fillsL_snoc, fillStep_len, ps, prodI_snoc, ← ih, Int.natCast_mul, Int.toNat_of_nonneg (by omega)]
theorem fold_lo : ∀ (l : List Int) (a : Int), 1 ≤ a → (∀ x ∈ l, 1 ≤ x ∧ x ≤ 4) → a ≤ l.foldl (· * ·) a
  | [], a, _, _ => Int.le_refl _
  | x :: l, a, h, hb => by
    have hx := hb x (List.mem_cons_self ..)
    have h1 : a ≤ a * x := by have := Int.mul_le_mul_of_nonneg_left hx.1 (show 0 ≤ a by omega); omega
    exact Int.le_trans h1 (fold_lo l (a * x) (by omega) fun y hy => hb y (List.mem_cons_of_mem _ hy))
theorem pick_mono {ns names : List Int} (hb : ∀ x ∈ ns, 1 ≤ x ∧ x ≤ 4) (hn : ∀ x ∈ names, 0 ≤ x ∧ x < ns.length) (i : Nat) : prodI (pick ns (names.take i)) ≤ prodI (pick ns names) := by
  have pb := pick_ok hb hn
  have e : pick ns names = pick ns (names.take i) ++ pick ns (names.drop i) := by
    unfold pick
    rw [← List.map_append, List.take_append_drop]
  have h1 : 1 ≤ prodI (pick ns (names.take i)) := (prodI_le (k := names.length) (fun x hx => pb x (by rw [e]; exact List.mem_append_left _ hx)) (by unfold pick; rw [List.length_map, List.length_take]; omega)).1
  rw [e]
  unfold prodI at h1 ⊢
  rw [List.foldl_append]
  have := fold_lo (pick ns (names.drop i)) ((pick ns (names.take i)).foldl (· * ·) 1) h1 (fun x hx => pb x (by rw [e]; exact List.mem_append_right _ hx))
  exact this
theorem fillStep_mem {n : Int} {fs : List (List Int)} {s : List Int} (h : s ∈ fillStep n fs) : ∃ r ∈ fs, ∃ i : Nat, i < n.toNat ∧ s = r ++ [(i : Int)] := by
  unfold fillStep at h
  obtain ⟨r, hr, hs⟩ := List.mem_flatMap.mp h
  obtain ⟨i, hi, rfl⟩ := List.mem_map.mp hs
  exact ⟨r, hr, i, List.mem_range.mp hi, rfl⟩
theorem fillsL_mem {ns names : List Int} : ∀ i, i ≤ names.length → ∀ s ∈ fillsL ns (names.take i), s.length = i
  | 0, _, s, h => by rw [List.take_zero] at h; rw [List.mem_singleton.mp h]; rfl
  | i + 1, hi, s, h => by
    rw [List.take_succ, List.getElem?_eq_getElem (show i < names.length by omega)] at h
    have h' : s ∈ fillsL ns (names.take i ++ [names[i]'(by omega)]) := h
    rw [fillsL_snoc] at h'
    obtain ⟨r, hr, w, _, rfl⟩ := fillStep_mem h'
    rw [List.length_append, fillsL_mem i (by omega) r hr]
    rfl
theorem Paired.at {α β : Type} {R : α → β → Prop} : ∀ {l : List α} {r : List β} {i : Nat} {a : α}, Paired R l r → l[i]? = some a → ∃ b, r[i]? = some b ∧ R a b
  | _, _, _, _, .nil, e => by simp at e
  | _, _, 0, _, .cons h _, e => by simp at e; subst e; exact ⟨_, rfl, h⟩
  | _, _, i + 1, _, .cons _ t, e => by simp at e; simpa using Paired.at t e
theorem Paired.app {α β : Type} {R : α → β → Prop} : ∀ {l l' : List α} {r r' : List β}, Paired R l r → Paired R l' r' → Paired R (l ++ l') (r ++ r')
  | _, _, _, _, .nil, h => h
  | _, _, _, _, .cons x t, h => .cons x (Paired.app t h)
def spFills (K : PySem.W.Frag) : Sp := fun vs H Q _ => ∃ (va a : Addr) (ns names : List Int), vs = [.ref va, .ref a] ∧ Sq2 K H va (ns.map V.int) ∧ (SqL K H a (names.map V.int) ∨ SqT K H a (names.map V.int)) ∧ (∀ x ∈ ns, 1 ≤ x ∧ x ≤ 4) ∧ (∀ x ∈ names, 0 ≤ x ∧ x < ns.length) ∧ prodI (pick ns names) ≤ 100000 ∧ names.length ≤ 1000 ∧
  ∀ (l : Addr) (us : List V) (H' : Hp), Ext H H' → H' l = some (.lst us) → Paired (IT K H') us (fillsL ns names) → Q (.ref l) H'
theorem sc__law_gfillings : FnScope ["sizes", "names", "found", "name", "longer", "some", "worth"] ["sizes", "names"] (defScope s__law_gfillings) := ⟨rfl, rfl, rfl, by decide +kernel, rfl, by decide +kernel, by decide +kernel⟩
theorem ok__law_gfillings {f : Addr} {fd : FuncData} (F : Fun K "_law_gfillings" "_law_gfillings" s__law_gfillings f fd) (T : Txt K mg t) : FnOk P w K mg base CX0 2 f fd ["sizes", "names"] (spFills K) := by
  have nd := sc__law_gfillings.nd
  refine F.ok sc__law_gfillings (fun vs H Q E h => ?_) (fun cdv A outer s H vs Q E hr h => ?_)
  · obtain ⟨va, a, ns, names, rfl, _⟩ := h
    rfl
  · obtain ⟨va, a, ns, names, rfl, hv, ha, hb, hin, hP, hL, q⟩ := h
    refine ⟨_, (pss_cons (ps_set (i := 2) nd rfl (Or.inl rfl) (pe_lst (pa_cons (pe_tup pa_nil) pa_nil))) (pss_cons (ps_for PassesOwn.never rfl (pi_alt (pi_list (pv 1)) (pi_tup (pv 1))) (pg_name (i := 3) nd rfl (Or.inl rfl)) (pss_cons (ps_set (i := 4) nd rfl (Or.inl rfl) (pe_lst pa_nil)) (pss_cons (ps_for PassesOwn.never rfl (pi_alt (pi_list (pv 2)) (pi_tup (pv 2))) (pg_name (i := 5) nd rfl (Or.inr rfl)) (pss_one (ps_expr (pe_bm PySem.F.plainAttrs_list PySem.F.slot_list_extend PySem.F.type_list_extend mt_extend (pv 4) (pa_cons (pe_lc (own := [("worth", 6)]) (by rfl) nd (pi_range1 (by rfl) T.b_range (pa_cons (pe_ix ix_seq (pv 0) (pv 3) (fun _ _ => rfl)) pa_nil)) (blkOk_by (own := [("worth", 6)]) rfl) (fun _ _ _ _ _ => (pg_name (i := 6) nd rfl (Or.inl rfl))) (fun _ _ _ _ _ => pts_nil) (fun _ _ _ _ _ => (pe_op (op_catGK (K := K) rfl) (pv 5) (pe_tup (pa_cons (pv 6) pa_nil))))) pa_nil))))) (pss_one (ps_set (i := 2) nd rfl (Or.inl rfl) (pv 4)))))) (pss_one (ps_ret (pv 2))))), ?_⟩
    refine ⟨(by show 0 ≤ sizeLine; decide), fun e0 n0 => ?_⟩
    refine ⟨(by show 1 ≤ sizeLine; decide), fun l0 n1 => ?_⟩
    have x1 := (ext_upd (o := .tup []) n0).upd (o := .lst [.ref e0]) n1
    have ne0 : e0 ≠ l0 := fun z => by rw [← z, upd_same] at n1; cases n1
    dsimp only [gName]
    have i0 : ∃ (l : Addr) (us : List V) (b c d e : Option V), [some (V.ref va), some (.ref a), some (.ref l0), none, none, none, none] = [some (.ref va), some (.ref a), some (.ref l), b, c, d, e] ∧ (upd (upd H e0 (.tup [])) l0 (.lst [.ref e0])) l = some (.lst us) ∧ Paired (IT K (upd (upd H e0 (.tup [])) l0 (.lst [.ref e0]))) us (fillsL ns (names.take 0)) ∧ Ext H (upd (upd H e0 (.tup [])) l0 (.lst [.ref e0])) :=
      ⟨l0, [.ref e0], none, none, none, none, rfl, upd_same, .cons ⟨e0, rfl, SqT.of (by rw [upd_ne ne0, upd_same]; rfl)⟩ .nil, x1⟩
    rcases ha with ha | ha
    · refine .inl ⟨_, rfl, a, rfl, ⟨_, x1.sqL ha⟩, for_list (K := K) (a := a) (xs := names.map V.int) (fun i σ H2 => ∃ (l : Addr) (us : List V) (b c d e : Option V), σ = [some (.ref va), some (.ref a), some (.ref l), b, c, d, e] ∧ H2 l = some (.lst us) ∧ Paired (IT K H2) us (fillsL ns (names.take i)) ∧ Ext H H2) i0 (fun i σ H2 _ ⟨_, _, _, _, _, _, _, _, _, x2⟩ => x2.sqL ha) ?_ ?_⟩
      · rintro i y σ H2 hy ⟨l, us, b, c, d, e, rfl, hl, pr, x2⟩
        obtain ⟨x, hx, rfl⟩ := int_at hy
        have bx := hin x (List.mem_of_getElem? hx)
        have hi : i < names.length := (List.getElem?_eq_some_iff.mp hx).1
        have bn : 1 ≤ ns.getD x.toNat 0 ∧ ns.getD x.toNat 0 ≤ 4 := by
          rw [List.getD_eq_getElem?_getD, List.getElem?_eq_getElem (show x.toNat < ns.length by omega)]
          exact hb _ (List.getElem_mem _)
        have fl : ((fillsL ns (names.take i)).length : Int) ≤ 100000 := by
          rw [fillsL_len hb hin i (by omega)]
          exact Int.le_trans (pick_mono hb hin i) hP
        dsimp only [gName]
        refine ⟨(by show 0 ≤ sizeLine; decide), fun g ng => ?_⟩
        dsimp only [gName]
        have nlg : l ≠ g := fun z => by rw [← z, hl] at ng; cases ng
        have g0 : H g = none := by
          cases e : H g with
          | none => rfl
          | some o => rw [x2 g o e] at ng; cases ng
        refine .inl ⟨_, rfl, l, rfl, ⟨_, SqL.of (by rw [upd_ne nlg]; exact hl)⟩, for_list (K := K) (a := l) (xs := us) (fun k σ H' => ∃ (ws : List V) (d e : Option V), σ = [some (.ref va), some (.ref a), some (.ref l), some (.int x), some (.ref g), d, e] ∧ H' g = some (.lst ws) ∧
            Paired (IT K H') ws (fillStep (ns.getD x.toNat 0) ((fillsL ns (names.take i)).take k)) ∧ H' l = some (.lst us) ∧ Paired (IT K H') us (fillsL ns (names.take i)) ∧ Ext H H')
          ⟨[], d, e, rfl, upd_same, .nil, by rw [upd_ne nlg]; exact hl, Paired.mapP pr fun _ _ h => h.ext (ext_upd ng), x2.upd ng⟩ (fun k σ H' _ ⟨_, _, _, _, _, _, h, _⟩ => SqL.of h) ?_ ?_⟩
        · rintro k y σ H3 hk ⟨ws, d, e, rfl, hg3, pw, hl3, pu, x3⟩
          obtain ⟨s, hs, ⟨ya, rfl, hys⟩⟩ := Paired.at pu hk
          have sl : s.length = i := fillsL_mem i (by omega) s (List.mem_of_getElem? hs)
          dsimp only [gName]
          refine ⟨_, rfl, .inl ⟨rfl, _, SqL.of hg3⟩, ?_⟩
          refine ⟨_, rfl, _, rfl, rIx_seq2 (x3.sq2 hv) (pick_at bx) ?_⟩
          refine ⟨_, rfl, (by omega), (by omega), fun D nD => ?_⟩
          refine lc_range (fun m H' => ∃ vs, H' D = some (.lst vs) ∧ Paired (IT K H') vs ((List.range m).map fun (w : Nat) => s ++ [(w : Int)]) ∧ Ext H3 H') ⟨[], upd_same, .nil, ext_upd nD⟩ ?_ ?_
          · rintro m H4 hm ⟨vs, hD, pv, x4⟩
            refine ⟨rfl, ?_⟩
            dsimp only [tYes]
            rw [if_pos rfl]
            refine ⟨_, rfl, _, rfl, (by show 1 ≤ sizeLine; decide), fun p np => ?_⟩
            have x5 := ext_upd (o := .tup [.int (0 + (m : Int))]) np
            refine ⟨ya, p, _, _, rfl, rfl, x5.sqT (x4.sqT hys), SqT.of upd_same, (by rw [List.length_map, sl, sizeLine_eq]; show i + 1 ≤ _; omega), fun p2 H5 x6 h5 => ?_⟩
            have hD5 := x6 _ _ (x5 _ _ hD)
            have h5' : IT K H5 (.ref p2) (s ++ [(m : Int)]) := ⟨p2, rfl, by
              rw [List.map_append]
              have e0 : (0 + (m : Int)) = m := by omega
              rw [e0] at h5
              exact h5⟩
            refine ⟨vs, hD5, ?_, vs ++ [.ref p2], upd_same, ?_, fun b o e => ?_⟩
            · have := pv.length
              rw [List.length_map, List.length_range] at this
              rw [this, sizeLine_eq]; omega
            · rw [List.range_succ, List.map_append]
              exact Paired.snoc (Paired.mapP pv fun _ _ h => IT.updL ((h.ext x5).ext x6) hD5) (IT.updL h5' hD5)
            · have nb : b ≠ D := fun z => by rw [z, nD] at e; cases e
              rw [upd_ne nb]
              exact x6 _ _ (x5 _ _ (x4 b o e))
          · rintro H4 ⟨vs, hD, pv, x4⟩
            have hg4 := x4 _ _ hg3
            refine ⟨g, D, _, _, rfl, rfl, hg4, hD, ?_, ?_⟩
            · have l1 := pw.length
              have l2 := pv.length
              rw [fillStep_len, List.length_take] at l1
              rw [List.length_map, List.length_range] at l2
              rw [l1, l2, sizeLine_eq]
              have : min k (fillsL ns (names.take i)).length * (ns.getD x.toNat 0).toNat ≤ 100000 * 4 := Nat.mul_le_mul (by omega) (by omega)
              omega
            · refine ⟨ws ++ vs, _, _, rfl, upd_same, ?_, by rw [upd_ne nlg]; exact x4 _ _ hl3, Paired.mapP pu fun _ _ h => IT.updL (h.ext x4) hg4, fun b o e => ?_⟩
              · rw [List.take_succ, hs]
                show Paired _ _ (fillStep (ns.getD x.toNat 0) ((fillsL ns (names.take i)).take k ++ [s]))
                have ef : fillStep (ns.getD x.toNat 0) ((fillsL ns (names.take i)).take k ++ [s]) = fillStep (ns.getD x.toNat 0) ((fillsL ns (names.take i)).take k) ++ (List.range (ns.getD x.toNat 0).toNat).map fun (w : Nat) => s ++ [(w : Int)] := by
                  unfold fillStep
                  rw [List.flatMap_append, List.flatMap_singleton]
                rw [ef]
                exact Paired.app (Paired.mapP pw fun _ _ h => IT.updL (h.ext x4) hg4) (Paired.mapP pv fun _ _ h => IT.updL h hg4)
              · have nb : b ≠ g := fun z => by rw [z, g0] at e; cases e
                rw [upd_ne nb]
                exact x4 _ _ (x3 b o e)
        · rintro σ H3 ⟨ws, d, e, rfl, hg3, pw, hl3, pu, x3⟩
          refine ⟨_, rfl, g, ws, _, _, _, _, rfl, hg3, ?_, x3⟩
          rw [List.take_succ, hx]
          show Paired _ _ (fillsL ns (names.take i ++ [x]))
          rw [fillsL_snoc]
          rw [pu.length, List.take_length] at pw
          exact pw
      · rintro σ H2 ⟨l, us, b, c, d, e, rfl, hl, pr, x2⟩
        rw [List.length_map, List.take_length] at pr
        exact ⟨_, rfl, q l us H2 x2 hl pr⟩
    · refine .inr ⟨_, rfl, a, rfl, ⟨_, x1.sqT ha⟩, for_tup (K := K) (a := a) (xs := names.map V.int) (fun i σ H2 => ∃ (l : Addr) (us : List V) (b c d e : Option V), σ = [some (.ref va), some (.ref a), some (.ref l), b, c, d, e] ∧ H2 l = some (.lst us) ∧ Paired (IT K H2) us (fillsL ns (names.take i)) ∧ Ext H H2) i0 (fun i σ H2 _ ⟨_, _, _, _, _, _, _, _, _, x2⟩ => x2.sqT ha) ?_ ?_⟩
      · rintro i y σ H2 hy ⟨l, us, b, c, d, e, rfl, hl, pr, x2⟩
        obtain ⟨x, hx, rfl⟩ := int_at hy
        have bx := hin x (List.mem_of_getElem? hx)
        have hi : i < names.length := (List.getElem?_eq_some_iff.mp hx).1
        have bn : 1 ≤ ns.getD x.toNat 0 ∧ ns.getD x.toNat 0 ≤ 4 := by
          rw [List.getD_eq_getElem?_getD, List.getElem?_eq_getElem (show x.toNat < ns.length by omega)]
          exact hb _ (List.getElem_mem _)
        have fl : ((fillsL ns (names.take i)).length : Int) ≤ 100000 := by
          rw [fillsL_len hb hin i (by omega)]
          exact Int.le_trans (pick_mono hb hin i) hP
        dsimp only [gName]
        refine ⟨(by show 0 ≤ sizeLine; decide), fun g ng => ?_⟩
        dsimp only [gName]
        have nlg : l ≠ g := fun z => by rw [← z, hl] at ng; cases ng
        have g0 : H g = none := by
          cases e : H g with
          | none => rfl
          | some o => rw [x2 g o e] at ng; cases ng
        refine .inl ⟨_, rfl, l, rfl, ⟨_, SqL.of (by rw [upd_ne nlg]; exact hl)⟩, for_list (K := K) (a := l) (xs := us) (fun k σ H' => ∃ (ws : List V) (d e : Option V), σ = [some (.ref va), some (.ref a), some (.ref l), some (.int x), some (.ref g), d, e] ∧ H' g = some (.lst ws) ∧
            Paired (IT K H') ws (fillStep (ns.getD x.toNat 0) ((fillsL ns (names.take i)).take k)) ∧ H' l = some (.lst us) ∧ Paired (IT K H') us (fillsL ns (names.take i)) ∧ Ext H H')
          ⟨[], d, e, rfl, upd_same, .nil, by rw [upd_ne nlg]; exact hl, Paired.mapP pr fun _ _ h => h.ext (ext_upd ng), x2.upd ng⟩ (fun k σ H' _ ⟨_, _, _, _, _, _, h, _⟩ => SqL.of h) ?_ ?_⟩
        · rintro k y σ H3 hk ⟨ws, d, e, rfl, hg3, pw, hl3, pu, x3⟩
          obtain ⟨s, hs, ⟨ya, rfl, hys⟩⟩ := Paired.at pu hk
          have sl : s.length = i := fillsL_mem i (by omega) s (List.mem_of_getElem? hs)
          dsimp only [gName]
          refine ⟨_, rfl, .inl ⟨rfl, _, SqL.of hg3⟩, ?_⟩
          refine ⟨_, rfl, _, rfl, rIx_seq2 (x3.sq2 hv) (pick_at bx) ?_⟩
          refine ⟨_, rfl, (by omega), (by omega), fun D nD => ?_⟩
          refine lc_range (fun m H' => ∃ vs, H' D = some (.lst vs) ∧ Paired (IT K H') vs ((List.range m).map fun (w : Nat) => s ++ [(w : Int)]) ∧ Ext H3 H') ⟨[], upd_same, .nil, ext_upd nD⟩ ?_ ?_
          · rintro m H4 hm ⟨vs, hD, pv, x4⟩
            refine ⟨rfl, ?_⟩
            dsimp only [tYes]
            rw [if_pos rfl]
            refine ⟨_, rfl, _, rfl, (by show 1 ≤ sizeLine; decide), fun p np => ?_⟩
            have x5 := ext_upd (o := .tup [.int (0 + (m : Int))]) np
            refine ⟨ya, p, _, _, rfl, rfl, x5.sqT (x4.sqT hys), SqT.of upd_same, (by rw [List.length_map, sl, sizeLine_eq]; show i + 1 ≤ _; omega), fun p2 H5 x6 h5 => ?_⟩
            have hD5 := x6 _ _ (x5 _ _ hD)
            have h5' : IT K H5 (.ref p2) (s ++ [(m : Int)]) := ⟨p2, rfl, by
              rw [List.map_append]
              have e0 : (0 + (m : Int)) = m := by omega
              rw [e0] at h5
              exact h5⟩
            refine ⟨vs, hD5, ?_, vs ++ [.ref p2], upd_same, ?_, fun b o e => ?_⟩
            · have := pv.length
              rw [List.length_map, List.length_range] at this
              rw [this, sizeLine_eq]; omega
            · rw [List.range_succ, List.map_append]
              exact Paired.snoc (Paired.mapP pv fun _ _ h => IT.updL ((h.ext x5).ext x6) hD5) (IT.updL h5' hD5)
            · have nb : b ≠ D := fun z => by rw [z, nD] at e; cases e
              rw [upd_ne nb]
              exact x6 _ _ (x5 _ _ (x4 b o e))
          · rintro H4 ⟨vs, hD, pv, x4⟩
            have hg4 := x4 _ _ hg3
            refine ⟨g, D, _, _, rfl, rfl, hg4, hD, ?_, ?_⟩
            · have l1 := pw.length
              have l2 := pv.length
              rw [fillStep_len, List.length_take] at l1
              rw [List.length_map, List.length_range] at l2
              rw [l1, l2, sizeLine_eq]
              have : min k (fillsL ns (names.take i)).length * (ns.getD x.toNat 0).toNat ≤ 100000 * 4 := Nat.mul_le_mul (by omega) (by omega)
              omega
            · refine ⟨ws ++ vs, _, _, rfl, upd_same, ?_, by rw [upd_ne nlg]; exact x4 _ _ hl3, Paired.mapP pu fun _ _ h => IT.updL (h.ext x4) hg4, fun b o e => ?_⟩
              · rw [List.take_succ, hs]
                show Paired _ _ (fillStep (ns.getD x.toNat 0) ((fillsL ns (names.take i)).take k ++ [s]))
                have ef : fillStep (ns.getD x.toNat 0) ((fillsL ns (names.take i)).take k ++ [s]) = fillStep (ns.getD x.toNat 0) ((fillsL ns (names.take i)).take k) ++ (List.range (ns.getD x.toNat 0).toNat).map fun (w : Nat) => s ++ [(w : Int)] := by
                  unfold fillStep
                  rw [List.flatMap_append, List.flatMap_singleton]
                rw [ef]
                exact Paired.app (Paired.mapP pw fun _ _ h => IT.updL (h.ext x4) hg4) (Paired.mapP pv fun _ _ h => IT.updL h hg4)
              · have nb : b ≠ g := fun z => by rw [z, g0] at e; cases e
                rw [upd_ne nb]
                exact x4 _ _ (x3 b o e)
        · rintro σ H3 ⟨ws, d, e, rfl, hg3, pw, hl3, pu, x3⟩
          refine ⟨_, rfl, g, ws, _, _, _, _, rfl, hg3, ?_, x3⟩
          rw [List.take_succ, hx]
          show Paired _ _ (fillsL ns (names.take i ++ [x]))
          rw [fillsL_snoc]
          rw [pu.length, List.take_length] at pw
          exact pw
      · rintro σ H2 ⟨l, us, b, c, d, e, rfl, hl, pr, x2⟩
        rw [List.length_map, List.take_length] at pr
        exact ⟨_, rfl, q l us H2 x2 hl pr⟩

end
end My

end
section
set_option linter.all false
set_option maxRecDepth 100000
set_option maxHeartbeats 4000000
set_option Elab.async false
namespace My
open PySem L2
section
variable {P : Program} {w : World} {K : PySem.W.Frag} {mg : Str → Option Value} {base : Heap} {t : Adr} {TB : List Addr} {LB : List (Addr × Str)}
/-! ### _law_gworths -/

def spGWorths (K : PySem.W.Frag) : Sp := fun vs H Q _ => ∃ (j : Addr) (x : Str) (many m : Nat), vs = [.ref j, .str x, .int many] ∧ ∃ lj : Addr, Jr H j lj m ∧ m ≤ 900000 ∧ many ≤ 100 ∧
  ∀ (v : V) (ws : List Int) (H' : Hp), IT K H' v ws → ws.length = many → (∀ y ∈ ws, -(10 ^ 12) ≤ y ∧ y ≤ 10 ^ 12 ∧ (x = "any" → 0 ≤ y ∧ y ≤ 1)) → Jr H' j lj (m + 101) → Keep j H H' → Q v H'
theorem keep_updD {H0 H : Hp} {j D : Addr} {o : HO} (k : Keep j H0 H) (nD : H0 D = none) : Keep j H0 (upd H D o) := fun b u e nb => by
  have : b ≠ D := fun z => by rw [z, nD] at e; cases e
  rw [upd_ne this]; exact k b u e nb
/-- numbers drawn so far -/
def GInv (x : Str) (j lj D : Addr) (m : Nat) (H1 : Hp) (k : Nat) (H' : Hp) : Prop := ∃ ws : List Int, H' D = some (.lst (ws.map V.int)) ∧ ws.length = k ∧ (∀ y ∈ ws, -(10 ^ 12) ≤ y ∧ y ≤ 10 ^ 12 ∧ (x = "any" → 0 ≤ y ∧ y ≤ 1)) ∧ Jr H' j lj (m + k) ∧ Keep j H1 H'
theorem GInv.zero {x : Str} {j lj D : Addr} {m : Nat} {H1 : Hp} (nD : H1 D = none) (jr : Jr H1 j lj m) : GInv x j lj D m H1 0 (upd H1 D (.lst [])) :=
  ⟨[], upd_same, rfl, fun y hy => absurd hy List.not_mem_nil, jr.upd (jr.ne nD).1 (jr.ne nD).2, keep_updD (Keep.refl _ _) nD⟩
theorem GInv.add {x : Str} {j lj D : Addr} {m k : Nat} {H1 H' H'' : Hp} {v : Int} (nD : H1 D = none) (jr1 : Jr H1 j lj m) (h : GInv x j lj D m H1 k H') (kk : Keep j H' H'') (jr : Jr H'' j lj (m + k + 1)) (hk : k < 100000) (hv : -(10 ^ 12) ≤ v ∧ v ≤ 10 ^ 12 ∧ (x = "any" → 0 ≤ v ∧ v ≤ 1)) :
    ∃ acc, H'' D = some (.lst acc) ∧ acc.length < sizeLine ∧ GInv x j lj D m H1 (k + 1) (upd H'' D (.lst (acc ++ [V.int v]))) := by
  obtain ⟨ws, hD, hl, hb, hj', k'⟩ := h
  have nj := jr1.ne nD
  refine ⟨_, kk D _ hD nj.1, by rw [List.length_map, hl, sizeLine_eq]; omega, ws ++ [v], by rw [upd_same, List.map_append]; rfl, by rw [List.length_append, hl]; rfl, fun y hy => ?_, jr.upd nj.1 nj.2, keep_updD (k'.trans kk) nD⟩
  rcases List.mem_append.mp hy with h | h
  · exact hb y h
  · rw [List.mem_singleton.mp h]; exact hv
theorem sc__law_gworths : FnScope ["tape", "word", "many", "way", "k"] ["tape", "word", "many"] (defScope s__law_gworths) := ⟨rfl, rfl, rfl, by decide +kernel, rfl, by decide +kernel, by decide +kernel⟩
theorem ok__law_gworths {f : Addr} {fd fdd : FuncData} (F : Fun K "_law_gworths" "_law_gworths" s__law_gworths f fd) (T : Txt K mg t) (G__law_gdraw : FnOk P w K mg base CX0 3 t.f__law_gdraw fdd ["tape", "many"] spGDraw) (B__law_gdraw : Binds K fdd ["tape", "many"] []) : FnOk P w K mg base CX0 4 f fd ["tape", "word", "many"] (spGWorths K) := by
  have nd := sc__law_gworths.nd
  refine F.ok sc__law_gworths (fun vs H Q E h => ?_) (fun cdv A outer s H vs Q E hr h => ?_)
  · obtain ⟨j, x, many, m, rfl, _⟩ := h
    rfl
  · obtain ⟨j, x, many, m, rfl, lj, jr, hm, hmany, q⟩ := h
    refine ⟨_, (pss_cons (ps_set (i := 3) nd rfl (Or.inr rfl) (pe_call G__law_gdraw (hr.mono (by first | decide | omega)) (by rfl) T.m__law_gdraw T.k__law_gdraw B__law_gdraw .nil pass0 (pa_cons (pv 0) (pa_cons pe_int pa_nil)))) (pss_cons (ps_if (pt_cmpR op_eq (pv 1) pe_str (nomark _)) (pss_one (ps_ret (pe_callTy call_tuple_of (by rfl) T.b_tuple (by decide +kernel) (pa_cons (pe_lc (own := [("k", 4)]) (by rfl) nd (pi_range1 (by rfl) T.b_range (pa_cons (pv 2) pa_nil)) (blkOk_by (own := [("k", 4)]) rfl) (fun _ _ _ _ _ => (pg_name (i := 4) nd rfl (Or.inl rfl))) (fun _ _ _ _ _ => pts_nil) (fun _ _ _ _ _ => (pe_ix (ix_seqK (K := K) rfl) (pe_lst (pa_cons pe_int (pa_cons pe_int (pa_cons pe_int (pa_cons (pe_op op_mod (pv 3) pe_int) pa_nil))))) (pe_call G__law_gdraw (hr.mono (by first | decide | omega)) (by rfl) T.m__law_gdraw T.k__law_gdraw B__law_gdraw .nil pass0 (pa_cons (pv 0) (pa_cons pe_int pa_nil))) (fun _ _ => rfl)))) pa_nil)))) pss_nil) (pss_cons (ps_if (pt_cmpR op_eq (pv 3) pe_int (nomark _)) (pss_one (ps_ret (pe_callTy call_tuple_of (by rfl) T.b_tuple (by decide +kernel) (pa_cons (pe_lc (own := [("k", 4)]) (by rfl) nd (pi_range1 (by rfl) T.b_range (pa_cons (pv 2) pa_nil)) (blkOk_by (own := [("k", 4)]) rfl) (fun _ _ _ _ _ => (pg_name (i := 4) nd rfl (Or.inl rfl))) (fun _ _ _ _ _ => pts_nil) (fun _ _ _ _ _ => (pe_op op_sub (pe_call G__law_gdraw (hr.mono (by first | decide | omega)) (by rfl) T.m__law_gdraw T.k__law_gdraw B__law_gdraw .nil pass0 (pa_cons (pv 0) (pa_cons (pe_op op_add (pe_op op_mul pe_int (pe_op op_pow pe_int pe_int)) pe_int) pa_nil))) (pe_op op_pow pe_int pe_int)))) pa_nil)))) pss_nil) (pss_one (ps_ret (pe_callTy call_tuple_of (by rfl) T.b_tuple (by decide +kernel) (pa_cons (pe_lc (own := [("k", 4)]) (by rfl) nd (pi_range1 (by rfl) T.b_range (pa_cons (pv 2) pa_nil)) (blkOk_by (own := [("k", 4)]) rfl) (fun _ _ _ _ _ => (pg_name (i := 4) nd rfl (Or.inl rfl))) (fun _ _ _ _ _ => pts_nil) (fun _ _ _ _ _ => (pe_op op_sub (pe_call G__law_gdraw (hr.mono (by first | decide | omega)) (by rfl) T.m__law_gdraw T.k__law_gdraw B__law_gdraw .nil pass0 (pa_cons (pv 0) (pa_cons (pe_ix (ix_seqK (K := K) rfl) (pe_lst (pa_const rfl)) (pv 3) (fun _ _ => rfl)) pa_nil))) (pe_ix (ix_seqK (K := K) rfl) (pe_lst (pa_const rfl)) (pv 3) (fun _ _ => rfl))))) pa_nil))))))), ?_⟩
    refine ⟨_, rfl, j, 4, m, rfl, lj, jr, (by omega), (by decide), (by decide), fun way H1 w0 w1 jr1 k1 => ?_⟩
    dsimp only [gName]
    have jrB : Jr H1 j lj 1000000000 := jr1.mono (by omega)
    have fin : ∀ (D : Addr) (H' : Hp), H1 D = none → GInv x j lj D (m + 1) H1 many H' → ∃ p ys, [V.ref D] = [V.ref p] ∧ ((SqL K H' p ys ∧ ∀ l, H' l = none → Q (.ref l) (upd H' l (.tup ys))) ∨ (SqT K H' p ys ∧ Q (.ref p) H')) := fun D H' nD ⟨ws, hD, hl, hb, hj', k'⟩ => by
      refine ⟨D, _, rfl, .inl ⟨SqL.of hD, fun tl ntl => ?_⟩⟩
      have xt := ext_upd (o := .tup (ws.map V.int)) ntl
      exact q _ ws _ ⟨tl, rfl, SqT.of upd_same⟩ hl hb ((xt.jr hj').mono (by omega)) ((k1.trans k').trans xt.keep)
    refine ⟨_, rfl, rfl, _, rfl, ?_⟩
    refine ite2 (fun hb => ?_) (fun hb => ?_)
    · have hx : x = "any" := V.str.inj (of_decide_eq_true hb)
      refine ⟨_, rfl, _, rfl, (by omega), (by omega), fun D nD => ?_⟩
      rw [Int.toNat_natCast]
      refine W_range (GInv x j lj D (m + 1) H1) (GInv.zero nD jr1) ?_ fun H' h => fin D H' nD h
      rintro k H' hk hi
      obtain ⟨ws, hD, hl, hb, hj', k'⟩ := id hi
      refine ⟨rfl, ?_⟩
      dsimp only [tYes]
      rw [if_pos rfl]
      refine ⟨_, rfl, _, _, rfl, rfl, (by show (0 : Int) < 2; decide), (by show 4 ≤ sizeLine; decide), fun t0 n0 => ?_⟩
      have x0 := ext_upd (o := .lst [V.int 0, .int 1, .int 1, .int (way % 2)]) n0
      refine ⟨_, rfl, j, 4, _, rfl, lj, x0.jr hj', (by omega), (by decide), (by decide), fun r H2 r0 r1 jr2 k2 => ?_⟩
      have ht0 := k2 t0 _ upd_same (hj'.ne n0).1
      have w2 : 0 ≤ way % 2 ∧ way % 2 < 2 := ⟨Int.emod_nonneg _ (by decide), Int.emod_lt_of_pos _ (by decide)⟩
      obtain ⟨v, ev, v0, v1⟩ : ∃ v : Int, atI [V.int 0, .int 1, .int 1, .int (way % 2)] r = some (.int v) ∧ 0 ≤ v ∧ v ≤ 1 := by
        have : r = 0 ∨ r = 1 ∨ r = 2 ∨ r = 3 := by omega
        rcases this with e | e | e | e <;> subst e
        · exact ⟨0, rfl, by decide, by decide⟩
        · exact ⟨1, rfl, by decide, by decide⟩
        · exact ⟨1, rfl, by decide, by decide⟩
        · exact ⟨way % 2, rfl, w2.1, by omega⟩
      refine rIx_seq2 (.inl (SqL.of ht0)) ev ?_
      exact GInv.add nD jr1 hi (x0.keep.trans k2) (jr2.mono (by omega)) (by omega) ⟨by omega, by omega, fun _ => ⟨v0, v1⟩⟩
    · have hx : x ≠ "any" := fun z => hb (by rw [z]; exact decide_eq_true rfl)
      refine ⟨_, rfl, rfl, _, rfl, ?_⟩
      refine ite2 (fun hb2 => ?_) (fun hb2 => ?_)
      · refine ⟨_, rfl, _, rfl, (by omega), (by omega), fun D nD => ?_⟩
        rw [Int.toNat_natCast]
        refine W_range (GInv x j lj D (m + 1) H1) (GInv.zero nD jr1) ?_ fun H' h => fin D H' nD h
        rintro k H' hk hi
        obtain ⟨ws, hD, hl, hb, hj', k'⟩ := id hi
        refine ⟨rfl, ?_⟩
        dsimp only [tYes]
        rw [if_pos rfl]
        refine ⟨_, rfl, _, _, rfl, rfl, ⟨by decide, by decide, by decide⟩, _, _, rfl, rfl, .inl ⟨by decide, by decide⟩, _, _, rfl, rfl, ?_⟩
        have e : (2 : Int) * 10 ^ (12 : Int).toNat + 1 = 2000000000001 := by decide
        have e2 : (10 : Int) ^ (12 : Int).toNat = 1000000000000 := by decide
        refine ⟨j, _, _, rfl, lj, hj', (by omega), (by rw [e]; decide), (by rw [e]; decide), fun r H2 r0 r1 jr2 k2 => ?_⟩
        rw [e] at r1
        refine ⟨_, _, rfl, rfl, ⟨by decide, by decide, by decide⟩, _, _, rfl, rfl, ?_⟩
        rw [e2]
        exact GInv.add nD jr1 hi k2 (jr2.mono (by omega)) (by omega) ⟨by omega, by omega, fun z => absurd z hx⟩
      · have w3 : way ≠ 3 := fun z => hb2 (by rw [z]; exact decide_eq_true rfl)
        refine ⟨_, rfl, _, rfl, (by omega), (by omega), fun D nD => ?_⟩
        rw [Int.toNat_natCast]
        refine W_range (GInv x j lj D (m + 1) H1) (GInv.zero nD jr1) ?_ fun H' h => fin D H' nD h
        rintro k H' hk hi
        obtain ⟨ws, hD, hl, hb, hj', k'⟩ := id hi
        refine ⟨rfl, ?_⟩
        dsimp only [tYes]
        rw [if_pos rfl]
        refine ⟨_, rfl, (by show 3 ≤ sizeLine; decide), fun t0 n0 => ?_⟩
        have x0 := ext_upd (o := .lst [V.int 3, .int 13, .int 2]) n0
        obtain ⟨v, u, ev, eu, v0, v1, u0, u1⟩ : ∃ v u : Int, atI [V.int 3, .int 13, .int 2] way = some (.int v) ∧ atI [V.int 0, .int 4, .int 0] way = some (.int u) ∧ 0 < v ∧ v ≤ 13 ∧ 0 ≤ u ∧ u ≤ 4 := by
          have : way = 0 ∨ way = 1 ∨ way = 2 := by omega
          rcases this with e | e | e <;> subst e
          · exact ⟨3, 0, rfl, rfl, by decide, by decide, by decide, by decide⟩
          · exact ⟨13, 4, rfl, rfl, by decide, by decide, by decide, by decide⟩
          · exact ⟨2, 0, rfl, rfl, by decide, by decide, by decide, by decide⟩
        refine ⟨_, rfl, rIx_seq2 (.inl (SqL.of upd_same)) ev ?_⟩
        refine ⟨j, v, _, rfl, lj, x0.jr hj', (by omega), v0, (by omega), fun r H2 r0 r1 jr2 k2 => ?_⟩
        refine ⟨(by show 3 ≤ sizeLine; decide), fun t2 n2 => ?_⟩
        have x2 := ext_upd (o := .lst [V.int 0, .int 4, .int 0]) n2
        refine ⟨_, rfl, rIx_seq2 (.inl (SqL.of upd_same)) eu ?_⟩
        refine ⟨_, _, rfl, rfl, ?_⟩
        exact GInv.add nD jr1 hi ((x0.keep.trans k2).trans x2.keep) ((x2.jr jr2).mono (by omega)) (by omega) ⟨by omega, by omega, fun z => absurd z hx⟩

end
end My

end
section
set_option linter.all false
set_option maxRecDepth 100000
set_option maxHeartbeats 4000000
set_option Elab.async false
namespace My
open PySem L2
section
variable {P : Program} {w : World} {K : PySem.W.Frag} {mg : Str → Option Value} {base : Heap} {t : Adr} {TB : List Addr} {LB : List (Addr × Str)}
/-! ### _law_gparts -/

/-- a tuple, or a list that is not the tape -/
def Sz (K : PySem.W.Frag) (H : Hp) (j a : Addr) (xs : List V) : Prop := (a ≠ j ∧ SqL K H a xs) ∨ SqT K H a xs
theorem Sz.sq2 {H : Hp} {j a : Addr} {xs : List V} (h : Sz K H j a xs) : Sq2 K H a xs := h.imp And.right id
theorem Sz.ext {H H' : Hp} {j a : Addr} {xs : List V} (x : Ext H H') (h : Sz K H j a xs) : Sz K H' j a xs := h.imp (fun h => ⟨h.1, x.sqL h.2⟩) x.sqT
theorem Sz.keep {j a : Addr} {H H' : Hp} {xs : List V} {ys : List V} (k : Keep j H H') (hj : H j = some (.lst ys)) (h : Sz K H j a xs) : Sz K H' j a xs := by
  rcases h with ⟨na, h⟩ | h
  · refine .inl ⟨na, ?_⟩
    rcases h with (h | ⟨o, h⟩) | h
    · exact .inl (.inl (k _ _ h na))
    · exact .inl (.inr ⟨o, k _ _ h na⟩)
    · exact .inr h
  · exact .inr (k.sqT hj h)
def spGParts (K : PySem.W.Frag) : Sp := fun vs H Q _ => ∃ (j a : Addr) (x : Str) (most : Int) (m : Nat) (ns : List Int), vs = [.ref j, .str x, .ref a, .int most] ∧ ∃ lj : Addr, Jr H j lj m ∧ m ≤ 800000 ∧ Sz K H j a (ns.map V.int) ∧ 1 ≤ ns.length ∧ ns.length ≤ 12 ∧ (∀ y ∈ ns, 1 ≤ y ∧ y ≤ 4) ∧ 0 ≤ most ∧ most ≤ 10 ∧
  ∀ (b : Addr) (us : List V) (ps : List (List Int × List Int)) (H' : Hp), SqT K H' b us → Paired (PtT K H') us ps → (ps.length : Int) ≤ most → (∀ p ∈ ps, PartOk ns x 3 p) → Jr H' j lj (m + 1100) → Keep j H H' → Q (.ref b) H'
theorem sc__law_gparts : FnScope ["tape", "word", "sizes", "most", "found", "k", "names", "j"] ["tape", "word", "sizes", "most"] (defScope s__law_gparts) := ⟨rfl, rfl, rfl, by decide +kernel, rfl, by decide +kernel, by decide +kernel⟩
theorem ok__law_gparts {f : Addr} {fd fdd fdw fdf : FuncData} (F : Fun K "_law_gparts" "_law_gparts" s__law_gparts f fd) (T : Txt K mg t) (G__law_gdraw : FnOk P w K mg base CX0 3 t.f__law_gdraw fdd ["tape", "many"] spGDraw) (B__law_gdraw : Binds K fdd ["tape", "many"] [])
    (G__law_gworths : FnOk P w K mg base CX0 4 t.f__law_gworths fdw ["tape", "word", "many"] (spGWorths K)) (B__law_gworths : Binds K fdw ["tape", "word", "many"] []) (G__law_gfillings : FnOk P w K mg base CX0 2 t.f__law_gfillings fdf ["sizes", "names"] (spFills K)) (B__law_gfillings : Binds K fdf ["sizes", "names"] []) :
    FnOk P w K mg base CX0 5 f fd ["tape", "word", "sizes", "most"] (spGParts K) := by
  have nd := sc__law_gparts.nd
  refine F.ok sc__law_gparts (fun vs H Q E h => ?_) (fun cdv A outer s H vs Q E hr h => ?_)
  · obtain ⟨j, a, x, most, m, ns, rfl, _⟩ := h
    rfl
  · obtain ⟨j, a, x, most, m, ns, rfl, lj, jr, hm, ha, n1, n12, hn, m0, m10, q⟩ := h
    refine ⟨_, (pss_cons (ps_set (i := 4) nd rfl (Or.inl rfl) (pe_lst pa_nil)) (pss_cons (ps_for PassesOwn.never rfl (pi_range1 (by rfl) T.b_range (pa_cons (pe_call G__law_gdraw (hr.mono (by first | decide | omega)) (by rfl) T.m__law_gdraw T.k__law_gdraw B__law_gdraw .nil pass0 (pa_cons (pv 0) (pa_cons (pe_op op_add (pv 3) pe_int) pa_nil))) pa_nil)) (pg_name (i := 5) nd rfl (Or.inl rfl)) (pss_cons (ps_set (i := 6) nd rfl (Or.inl rfl) (pe_callTy call_tuple_of (by rfl) T.b_tuple (by decide +kernel) (pa_cons (pe_callB (cr_sortedX rfl) (by rfl) T.b_sorted (by decide +kernel) (pa_cons (pe_callTy (cr_setOf rfl) (by rfl) T.b_set (by decide +kernel) (pa_cons (pe_lc (own := [("j", 7)]) (by rfl) nd (pi_range1 (by rfl) T.b_range (pa_cons (pe_call G__law_gdraw (hr.mono (by first | decide | omega)) (by rfl) T.m__law_gdraw T.k__law_gdraw B__law_gdraw .nil pass0 (pa_cons (pv 0) (pa_cons pe_int pa_nil))) pa_nil)) (blkOk_by (own := [("j", 7)]) rfl) (fun _ _ _ _ _ => (pg_name (i := 7) nd rfl (Or.inl rfl))) (fun _ _ _ _ _ => pts_nil) (fun _ _ _ _ _ => (pe_call G__law_gdraw (hr.mono (by first | decide | omega)) (by rfl) T.m__law_gdraw T.k__law_gdraw B__law_gdraw .nil pass0 (pa_cons (pv 0) (pa_cons (pe_callB (call_len_seqK (K := K) rfl) (by rfl) T.b_len (by decide +kernel) (pa_cons (pv 2) pa_nil)) pa_nil))))) pa_nil)) pa_nil)) pa_nil))) (pss_one (ps_expr (pe_bm PySem.F.plainAttrs_list PySem.F.slot_list_append PySem.F.type_list_append mt_append (pv 4) (pa_cons (pe_tup (pa_cons (pv 6) (pa_cons (pe_call G__law_gworths (hr.mono (by first | decide | omega)) (by rfl) T.m__law_gworths T.k__law_gworths B__law_gworths .nil pass0 (pa_cons (pv 0) (pa_cons (pv 1) (pa_cons (pe_callB call_len_seq (by rfl) T.b_len (by decide +kernel) (pa_cons (pe_call G__law_gfillings (hr.mono (by first | decide | omega)) (by rfl) T.m__law_gfillings T.k__law_gfillings B__law_gfillings .nil pass0 (pa_cons (pv 2) (pa_cons (pv 6) pa_nil))) pa_nil)) pa_nil)))) pa_nil))) pa_nil)))))) (pss_one (ps_ret (pe_callTy call_tuple_of (by rfl) T.b_tuple (by decide +kernel) (pa_cons (pv 4) pa_nil)))))), ?_⟩
    refine ⟨(by show 0 ≤ sizeLine; decide), fun fo nfo => ?_⟩
    have x1 := ext_upd (o := .lst []) nfo
    have jr1 := x1.jr jr
    have nfj := jr.ne nfo
    dsimp only [gName]
    refine ⟨_, rfl, _, rfl, _, _, rfl, rfl, j, _, _, rfl, lj, jr1, (by omega), (by omega), (by omega), fun r H2 r0 r1 jr2 k2 => ?_⟩
    have ha1 := Sz.ext x1 ha
    obtain ⟨yj1, hyj1⟩ := jr1.lst
    have ha2 := Sz.keep k2 hyj1 ha1
    have hfo2 : H2 fo = some (.lst []) := k2 _ _ upd_same nfj.1
    have kH2 : Keep j H H2 := x1.keep.trans k2
    refine ⟨_, rfl, (by omega), (by omega), for_range (n := r.toNat) (fun i σ H' => ∃ (o5 o6 o7 : Option V) (us : List V) (ps : List (List Int × List Int)), σ = [some (.ref j), some (.str x), some (.ref a), some (.int most), some (.ref fo), o5, o6, o7] ∧ H' fo = some (.lst us) ∧ Paired (PtT K H') us ps ∧ ps.length = i ∧ (∀ p ∈ ps, PartOk ns x 3 p) ∧ Jr H' j lj (m + 1 + i * 106) ∧ Keep j H H' ∧ Sz K H' j a (ns.map V.int)) ?_ ?_ ?_⟩
    · exact ⟨none, none, none, [], [], rfl, hfo2, .nil, rfl, (fun p hp => absurd hp List.not_mem_nil), jr2.mono (by omega), kH2, ha2⟩
    · rintro i σ H3 hi ⟨o5, o6, o7, us, ps, rfl, hfo3, pu, pl, hps, jr3, k3, ha3⟩
      dsimp only [gName]
      obtain ⟨yj3, hyj3⟩ := jr3.lst
      refine ⟨_, rfl, j, 4, _, rfl, lj, jr3, (by omega), (by decide), (by decide), fun cnt H4 c0 c1 jr4 k4 => ?_⟩
      obtain ⟨yj4, hyj4⟩ := jr4.lst
      have ha4 := Sz.keep k4 hyj3 ha3
      refine ⟨_, rfl, (by omega), (by omega), fun D nD => ?_⟩
      have nDj := jr4.ne nD
      refine W_range (fun k H' => ∃ zs : List Int, H' D = some (.lst (zs.map V.int)) ∧ zs.length = k ∧ (∀ z ∈ zs, 0 ≤ z ∧ z < ns.length) ∧ Jr H' j lj (m + 1 + i * 106 + 1 + k) ∧ Keep j H4 H') ⟨[], upd_same, rfl, (fun z hz => absurd hz List.not_mem_nil), jr4.upd nDj.1 nDj.2, keep_updD (Keep.refl _ _) nD⟩ ?_ ?_
      · rintro k H5 hk ⟨zs, hD, zl, zb, jr5, k5⟩
        refine ⟨rfl, ?_⟩
        dsimp only [tYes]
        rw [if_pos rfl]
        refine ⟨_, rfl, _, rfl, a, _, rfl, (Sz.keep k5 hyj4 ha4).sq2, j, _, _, rfl, lj, jr5, (by omega), (by rw [List.length_map]; omega), (by rw [List.length_map]; omega), fun z H6 z0 z1 jr6 k6 => ?_⟩
        rw [List.length_map] at z1
        refine ⟨_, k6 _ _ hD nDj.1, by rw [List.length_map, zl, sizeLine_eq]; omega, zs ++ [z], by rw [upd_same, List.map_append]; rfl, by rw [List.length_append, zl]; rfl, fun y hy => ?_, (jr6.upd nDj.1 nDj.2).mono (by omega), keep_updD (k5.trans k6) nD⟩
        rcases List.mem_append.mp hy with h | h
        · exact zb y h
        · rw [List.mem_singleton.mp h]; exact ⟨z0, z1⟩
      rintro H5 ⟨zs, hD, zl, zb, jr5, k5⟩
      refine ⟨D, zs, rfl, .inl (SqL.of hD), (by show _ < 4096; omega), fun pk ks npk ndk memk lenk => ?_⟩
      refine ⟨pk, ks, rfl, upd_same, fun names pS perm srt nS => ?_⟩
      refine ⟨pS, _, rfl, .inl ⟨SqL.of upd_same, fun tl ntl => ?_⟩⟩
      generalize hH6 : upd (upd (upd H5 pk _) pS (.lst (names.map V.int))) tl (.tup (names.map V.int)) = H6
      have x5 : Ext H5 H6 := by rw [← hH6]; exact ((ext_upd npk).upd nS).upd ntl
      have htl : SqT K H6 tl (names.map V.int) := SqT.of (by rw [← hH6, upd_same])
      have rise : names.Pairwise (· < ·) := (srt.and (perm.nodup_iff.mpr ndk)).imp fun h => by have h1 := h.1; have h2 := h.2; omega
      have inn : ∀ y ∈ names, 0 ≤ y ∧ y < ns.length := fun y hy => zb y ((memk y).mp (perm.mem_iff.mp hy))
      have nl : names.length ≤ 3 := by rw [perm.length_eq]; omega
      have pk3 := prodI_le (k := 3) (pick_ok hn inn) (by unfold pick; rw [List.length_map]; exact nl)
      have e64 : (4 : Int) ^ 3 = 64 := rfl
      have jr6 := x5.jr jr5
      obtain ⟨yj6, hyj6⟩ := jr6.lst
      have k46 : Keep j H4 H6 := k5.trans x5.keep
      have k36 : Keep j H3 H6 := k4.trans k46
      have nfo3 : fo ≠ j := nfj.1
      have hfo6 : H6 fo = some (.lst us) := k36 _ _ hfo3 nfo3
      have ha6 := Sz.keep k46 hyj4 ha4
      dsimp only [gName]
      refine ⟨_, rfl, .inl ⟨rfl, _, SqL.of hfo6⟩, ?_⟩
      refine ⟨_, rfl, _, rfl, _, rfl, _, rfl, _, rfl, a, tl, ns, names, rfl, ha6.sq2, .inr htl, hn, inn, (by omega), (by omega), fun fl fu H7 x7 hfl hfu => ?_⟩
      have fl1 := fillsL_len hn inn names.length (Nat.le_refl _)
      rw [List.take_length] at fl1
      have ful : fu.length = (fillsL ns names).length := hfu.length
      refine ⟨fl, _, rfl, .inl (SqL.of hfl), ?_⟩
      refine ⟨j, x, fu.length, _, rfl, lj, x7.jr jr6, (by omega), (by omega), fun v ws H8 hit wl wb jr8 k8 => ?_⟩
      obtain ⟨yj7, hyj7⟩ := (x7.jr jr6).lst
      refine ⟨(by show 2 ≤ sizeLine; decide), fun pt npt => ?_⟩
      have x9 := ext_upd (o := .tup [V.ref tl, v]) npt
      have k69 : Keep j H6 (upd H8 pt (.tup [V.ref tl, v])) := (x7.keep.trans k8).trans x9.keep
      have k39 := k36.trans k69
      have hfo9 := k69 _ _ hfo6 nfo3
      have jr9 := x9.jr jr8
      have hpt : PtT K (upd H8 pt (.tup [V.ref tl, v])) (.ref pt) (names, ws) := ⟨pt, _, _, rfl, SqT.of upd_same, ⟨tl, rfl, k69.sqT hyj6 htl⟩, hit.ext x9⟩
      have okp : PartOk ns x 3 (names, ws) := ⟨by show (names.length : Int) ≤ 3; omega, rise, inn, by show (ws.length : Int) = prodI (pick ns names); omega, wb⟩
      generalize upd H8 pt (.tup [V.ref tl, v]) = H9 at k69 k39 hfo9 jr9 hpt
      refine ⟨fo, _, _, rfl, rfl, hfo9, (by rw [pu.length, pl, sizeLine_eq]; omega), _, _, _, us ++ [.ref pt], ps ++ [(names, ws)], rfl, upd_same, ?_, (by rw [List.length_append, pl]; rfl), fun p hp => ?_, ?_, ?_, ?_⟩
      · exact Paired.app (Paired.mapP pu fun _ _ h => PtT.updL (h.keep k39 hyj3) hfo9) (.cons (PtT.updL hpt hfo9) .nil)
      · rcases List.mem_append.mp hp with h | h
        · exact hps p h
        · rw [List.mem_singleton.mp h]; exact okp
      · exact (jr9.upd nfj.1 nfj.2).mono (by omega)
      · exact keep_updD (k3.trans k39) nfo
      · obtain ⟨yj, hyj⟩ := jr.lst
        exact Sz.keep (keep_updD (k3.trans k39) nfo) hyj ha
    · rintro σ H3 ⟨o5, o6, o7, us, ps, rfl, hfo3, pu, pl, hps, jr3, k3, ha3⟩
      refine ⟨_, rfl, fo, _, rfl, .inl ⟨SqL.of hfo3, fun tl ntl => ?_⟩⟩
      have xt := ext_upd (o := .tup us) ntl
      exact q tl us ps _ (SqT.of upd_same) (Paired.mapP pu fun _ _ h => h.ext xt) (by omega) hps ((xt.jr jr3).mono (by omega)) (k3.trans xt.keep)

end
end My

end
section
set_option linter.all false
set_option maxRecDepth 100000
set_option maxHeartbeats 4000000
set_option Elab.async false
namespace My
open PySem L2
section
variable {P : Program} {w : World} {K : PySem.W.Frag} {mg : Str → Option Value} {base : Heap} {t : Adr} {TB : List Addr} {LB : List (Addr × Str)}
/-! ### _law_gsheet -/

theorem last_at (ns : List Int) (y : Int) : atI (ns.map V.int ++ [V.int y]) (-1) = some (.int y) := by
  have hl : (ns.map V.int ++ [V.int y]).length = ns.length + 1 := by simp
  have e : ixN (ns.map V.int ++ [V.int y]).length (-1) = some ns.length := by
    unfold ixN
    rw [if_neg (by decide), hl, if_pos (by omega)]
    congr 1
    omega
  unfold atI
  rw [e]
  show (ns.map V.int ++ [V.int y])[ns.length]? = _
  rw [List.getElem?_append_right (by simp)]
  simp
def spGSheet (K : PySem.W.Frag) : Sp := fun vs H Q _ => ∃ (j : Addr) (x : Str) (names most parts : Int) (m : Nat), vs = [.ref j, .str x, .int names, .int most, .int parts] ∧ ∃ lj : Addr, Jr H j lj m ∧ m ≤ 700000 ∧ 1 ≤ names ∧ names ≤ 12 ∧ 1 ≤ most ∧ most ≤ 100000 ∧ 0 ≤ parts ∧ parts ≤ 10 ∧
  ∀ (v : V) (s : List Int × List (List Int × List Int)) (H' : Hp), ShT K H' v s → 1 ≤ s.1.length → (s.1.length : Int) ≤ names → (∀ y ∈ s.1, 1 ≤ y ∧ y ≤ 4) → prodI s.1 ≤ most → (s.2.length : Int) ≤ parts → (∀ p ∈ s.2, PartOk s.1 x 3 p) → Jr H' j lj (m + 1200) → Keep j H H' → Q v H'
theorem sc__law_gsheet : FnScope ["tape", "word", "names", "most", "parts", "sizes", "room", "x", "size"] ["tape", "word", "names", "most", "parts"] (defScope s__law_gsheet) := ⟨rfl, rfl, rfl, by decide +kernel, rfl, by decide +kernel, by decide +kernel⟩
theorem ok__law_gsheet {f : Addr} {fd fdd fdp : FuncData} (F : Fun K "_law_gsheet" "_law_gsheet" s__law_gsheet f fd) (T : Txt K mg t) (G__law_gdraw : FnOk P w K mg base CX0 3 t.f__law_gdraw fdd ["tape", "many"] spGDraw) (B__law_gdraw : Binds K fdd ["tape", "many"] [])
    (G__law_gparts : FnOk P w K mg base CX0 5 t.f__law_gparts fdp ["tape", "word", "sizes", "most"] (spGParts K)) (B__law_gparts : Binds K fdp ["tape", "word", "sizes", "most"] []) : FnOk P w K mg base CX0 6 f fd ["tape", "word", "names", "most", "parts"] (spGSheet K) := by
  have nd := sc__law_gsheet.nd
  refine F.ok sc__law_gsheet (fun vs H Q E h => ?_) (fun cdv A outer s H vs Q E hr h => ?_)
  · obtain ⟨j, x, names, most, parts, m, rfl, _⟩ := h
    rfl
  · obtain ⟨j, x, names, most, parts, m, rfl, lj, jr, hm, n1, n12, m1, m2, p0, p10, q⟩ := h
    refine ⟨_, (pss_cons (ps_set (i := 5) nd rfl (Or.inl rfl) (pe_lst pa_nil)) (pss_cons (ps_set (i := 6) nd rfl (Or.inl rfl) pe_int) (pss_cons (ps_for PassesOwn.never rfl (pi_range1 (by rfl) T.b_range (pa_cons (pe_op op_add pe_int (pe_call G__law_gdraw (hr.mono (by first | decide | omega)) (by rfl) T.m__law_gdraw T.k__law_gdraw B__law_gdraw .nil pass0 (pa_cons (pv 0) (pa_cons (pv 2) pa_nil)))) pa_nil)) (pg_name (i := 7) nd rfl (Or.inl rfl)) (pss_cons (ps_set (i := 8) nd rfl (Or.inl rfl) (pe_ix ix_list (pe_lst (pa_const rfl)) (pe_call G__law_gdraw (hr.mono (by first | decide | omega)) (by rfl) T.m__law_gdraw T.k__law_gdraw B__law_gdraw .nil pass0 (pa_cons (pv 0) (pa_cons pe_int pa_nil))) (fun _ _ => rfl))) (pss_cons (ps_expr (pe_bm PySem.F.plainAttrs_list PySem.F.slot_list_append PySem.F.type_list_append mt_append (pv 5) (pa_cons (pe_ifExp (pt_cmpR op_le (pe_op op_mul (pv 6) (pv 8)) (pv 3) (nomark _)) (pv 8) pe_int) pa_nil))) (pss_one (ps_set (i := 6) nd rfl (Or.inl rfl) (pe_op op_mul (pv 6) (pe_ix ix_seq (pv 5) (pe_un un_neg pe_int) (fun _ _ => rfl)))))))) (pss_one (ps_ret (pe_tup (pa_cons (pe_callTy call_tuple_of (by rfl) T.b_tuple (by decide +kernel) (pa_cons (pv 5) pa_nil)) (pa_cons (pe_call G__law_gparts (hr.mono (by first | decide | omega)) (by rfl) T.m__law_gparts T.k__law_gparts B__law_gparts .nil pass0 (pa_cons (pv 0) (pa_cons (pv 1) (pa_cons (pv 5) (pa_cons (pv 4) pa_nil))))) pa_nil)))))))), ?_⟩
    refine ⟨(by show 0 ≤ sizeLine; decide), fun so nso => ?_⟩
    have x1 := ext_upd (o := .lst []) nso
    have jr1 := x1.jr jr
    have nsj := jr.ne nso
    dsimp only [gName]
    refine ⟨_, rfl, _, rfl, j, names, _, rfl, lj, jr1, (by omega), (by omega), (by omega), fun r H2 r0 r1 jr2 k2 => ?_⟩
    have hso2 : H2 so = some (.lst []) := k2 _ _ upd_same nsj.1
    refine ⟨_, _, rfl, rfl, _, rfl, (by omega), (by omega), for_range (n := (1 + r).toNat) (fun i σ H' => ∃ (o7 o8 : Option V) (ns : List Int), σ = [some (.ref j), some (.str x), some (.int names), some (.int most), some (.int parts), some (.ref so), some (.int (prodI ns)), o7, o8] ∧ H' so = some (.lst (ns.map V.int)) ∧ ns.length = i ∧ (∀ y ∈ ns, 1 ≤ y ∧ y ≤ 4) ∧ prodI ns ≤ most ∧ Jr H' j lj (m + 1 + i) ∧ Keep j H H') ?_ ?_ ?_⟩
    · exact ⟨none, none, [], rfl, hso2, rfl, (fun y hy => absurd hy List.not_mem_nil), m1, jr2.mono (by omega), x1.keep.trans k2⟩
    · rintro i σ H3 hi ⟨o7, o8, ns, rfl, hso3, nl, hn, hp, jr3, k3⟩
      dsimp only [gName]
      refine ⟨(by show 6 ≤ sizeLine; decide), fun t0 n0 => ?_⟩
      have x0 := ext_upd (o := .lst [V.int 1, .int 2, .int 2, .int 3, .int 4, .int 2]) n0
      refine ⟨_, rfl, j, 6, _, rfl, lj, x0.jr jr3, (by omega), (by decide), (by decide), fun z H4 z0 z1 jr4 k4 => ?_⟩
      have ht0 := k4 t0 _ upd_same (jr3.ne n0).1
      obtain ⟨sz, es, s1, s4⟩ : ∃ sz : Int, atI [V.int 1, .int 2, .int 2, .int 3, .int 4, .int 2] z = some (.int sz) ∧ 1 ≤ sz ∧ sz ≤ 4 := by
        have : z = 0 ∨ z = 1 ∨ z = 2 ∨ z = 3 ∨ z = 4 ∨ z = 5 := by omega
        rcases this with e | e | e | e | e | e <;> subst e
        · exact ⟨1, rfl, by decide, by decide⟩
        · exact ⟨2, rfl, by decide, by decide⟩
        · exact ⟨2, rfl, by decide, by decide⟩
        · exact ⟨3, rfl, by decide, by decide⟩
        · exact ⟨4, rfl, by decide, by decide⟩
        · exact ⟨2, rfl, by decide, by decide⟩
      refine ⟨t0, _, _, _, rfl, rfl, SqL.of ht0, es, ?_⟩
      dsimp only [gName]
      have k34 : Keep j H3 H4 := x0.keep.trans k4
      have hso4 := k34 _ _ hso3 nsj.1
      have pp : 1 ≤ prodI ns := fold_lo ns 1 (Int.le_refl _) hn
      refine ⟨_, rfl, .inl ⟨rfl, _, SqL.of hso4⟩, ?_⟩
      refine ⟨_, rfl, _, rfl, _, _, rfl, rfl, .inr ⟨by omega, by omega⟩, _, rfl, _, _, rfl, rfl, _, rfl, ?_⟩
      have go : ∀ y : Int, 1 ≤ y → y ≤ 4 → prodI ns * y ≤ most → ∀ H5, H5 = upd H4 so (.lst ((ns ++ [y]).map V.int)) → ∃ (o7 o8 : Option V) (ns' : List Int), [some (V.ref j), some (.str x), some (.int names), some (.int most), some (.int parts), some (.ref so), some (.int (prodI ns * y)), some (.int (0 + i)), some (.int sz)] = [some (.ref j), some (.str x), some (.int names), some (.int most), some (.int parts), some (.ref so), some (.int (prodI ns')), o7, o8] ∧ H5 so = some (.lst (ns'.map V.int)) ∧ ns'.length = i + 1 ∧ (∀ y ∈ ns', 1 ≤ y ∧ y ≤ 4) ∧ prodI ns' ≤ most ∧ Jr H5 j lj (m + 1 + (i + 1)) ∧ Keep j H H5 := by
        rintro y y1 y4 hy H5 rfl
        refine ⟨_, _, ns ++ [y], by rw [prodI_snoc], upd_same, by rw [List.length_append, nl]; rfl, fun u hu => ?_, by rw [prodI_snoc]; exact hy, (jr4.upd nsj.1 nsj.2).mono (by omega), keep_updD (k3.trans k34) nso⟩
        rcases List.mem_append.mp hu with h | h
        · exact hn u h
        · rw [List.mem_singleton.mp h]; exact ⟨y1, y4⟩
      refine ite2 (fun hc => ?_) (fun hc => ?_)
      · have hc : prodI ns * sz ≤ most := of_decide_eq_true hc
        refine ⟨_, rfl, so, _, _, rfl, rfl, hso4, (by rw [List.length_map, nl, sizeLine_eq]; omega), ?_⟩
        refine ⟨_, rfl, _, rfl, _, rfl, rIx_seq2 (.inl (SqL.of upd_same)) (last_at ns sz) ?_⟩
        refine ⟨_, _, rfl, rfl, .inr ⟨by omega, by omega⟩, ?_⟩
        exact go sz s1 s4 hc _ (by rw [List.map_append]; rfl)
      · refine ⟨so, _, _, rfl, rfl, hso4, (by rw [List.length_map, nl, sizeLine_eq]; omega), ?_⟩
        refine ⟨_, rfl, _, rfl, _, rfl, rIx_seq2 (.inl (SqL.of upd_same)) (last_at ns 1) ?_⟩
        refine ⟨_, _, rfl, rfl, .inr ⟨by omega, by omega⟩, ?_⟩
        exact go 1 (by decide) (by decide) (by omega) _ (by rw [List.map_append]; rfl)
    · rintro σ H3 ⟨o7, o8, ns, rfl, hso3, nl, hn, hp, jr3, k3⟩
      refine ⟨_, rfl, so, _, rfl, .inl ⟨SqL.of hso3, fun tl ntl => ?_⟩⟩
      have xt := ext_upd (o := .tup (ns.map V.int)) ntl
      refine ⟨_, rfl, _, rfl, _, rfl, _, rfl, j, so, x, parts, _, ns, rfl, lj, xt.jr jr3, (by omega), .inl ⟨nsj.1, SqL.of (xt _ _ hso3)⟩, (by omega), (by omega), hn, p0, p10, fun b us ps H5 hb pu pl hps jr5 k5 => ?_⟩
      obtain ⟨yj, hyj⟩ := (xt.jr jr3).lst
      refine ⟨(by show 2 ≤ sizeLine; decide), fun pt npt => ?_⟩
      have x6 := ext_upd (o := .tup [V.ref tl, V.ref b]) npt
      refine q _ (ns, ps) _ ⟨pt, _, b, us, rfl, SqT.of upd_same, ⟨tl, rfl, x6.sqT (k5.sqT hyj (SqT.of upd_same))⟩, x6.sqT hb, Paired.mapP pu fun _ _ h => h.ext x6⟩ (by show 1 ≤ ns.length; omega) (by show (ns.length : Int) ≤ names; omega) hn hp pl hps ((x6.jr jr5).mono (by omega)) (((k3.trans xt.keep).trans k5).trans x6.keep)

end
end My

end
section
set_option linter.all false
set_option maxRecDepth 100000
set_option maxHeartbeats 4000000
set_option Elab.async false
namespace My
open PySem L2
section
variable {P : Program} {w : World} {K : PySem.W.Frag} {mg : Str → Option Value} {base : Heap} {t : Adr} {TB : List Addr} {LB : List (Addr × Str)}
/-! ### law -/
theorem refs_of {H : Hp} : ∀ {ts : List V} {E : List (Int × Int)}, Paired (fun u p => ∃ z, u = V.ref z ∧ PrO H z p) ts E → ∃ bs : List Addr, ts = bs.map V.ref ∧ Paired (PrO H) bs E
  | _, _, .nil => ⟨[], rfl, .nil⟩
  | _, _, .cons ⟨z, e, h⟩ t => by
    obtain ⟨bs, h1, h2⟩ := refs_of t
    exact ⟨z :: bs, by rw [e, h1]; rfl, .cons h h2⟩
theorem DTree.ext {K : PySem.W.Frag} {H H' : Hp} {v : V} {n : Nat} {E : List (Int × Int)} (x : Ext H H') (h : DTree K H v n E) : DTree K H' v n E := by
  obtain ⟨⟨⟨a, b, c, us, ts, e, h1, h2, h3, h4, h5⟩, q1, q2, q3⟩, q4, q5⟩ := h
  exact ⟨⟨⟨a, b, c, us, ts, e, x.sqT h1, x.sqT h2, h3, x.sqT h4, Paired.mapP h5 fun _ p ⟨z, e, h⟩ => ⟨z, e, x _ _ h⟩⟩, q1, q2, q3⟩, q4, q5⟩
theorem DTree.keep {K : PySem.W.Frag} {H H' : Hp} {j : Addr} {ys : List V} {v : V} {n : Nat} {E : List (Int × Int)} (h : DTree K H v n E) (k : Keep j H H') (hj : H j = some (.lst ys)) : DTree K H' v n E := by
  obtain ⟨⟨⟨a, b, c, us, ts, e, h1, h2, h3, h4, h5⟩, q1, q2, q3⟩, q4, q5⟩ := h
  exact ⟨⟨⟨a, b, c, us, ts, e, k.sqT hj h1, k.sqT hj h2, h3, k.sqT hj h4, Paired.mapP h5 fun _ p ⟨z, e, h⟩ => ⟨z, e, k _ _ h fun w => by
    have h : H z = some (.tup [.int p.1, .int p.2]) := h
    rw [w, hj] at h; cases h⟩⟩, q1, q2, q3⟩, q4, q5⟩
def spLaw (K : PySem.W.Frag) (TB : List Addr) : Sp := fun vs H Q _ => ∃ (a : Addr) (ns : List Int), vs = [.ref a] ∧ SqL K H a (ns.map V.int) ∧ ns.length ≤ 63 ∧ (∀ Pt ∈ TB, H Pt = some (TblO Pt)) ∧ ∀ H', Ext H H' → Q (.bl true) H'
theorem sc_law : FnScope ["script", "tape", "turn", "tree", "due", "again", "told", "here", "i", "j"] ["script"] (defScope s_law) := ⟨rfl, rfl, rfl, by decide +kernel, rfl, by decide +kernel, by decide +kernel⟩
theorem ok_law {TB : List Addr} {f : Addr} {fd fdd fds fdt fdb fdg fdr fde : FuncData} (F : Fun K "law" "law" s_law f fd) (T : Txt K mg t) (G__law_gdraw : FnOk P w K mg base CX0 3 t.f__law_gdraw fdd ["tape", "many"] spGDraw) (B__law_gdraw : Binds K fdd ["tape", "many"] [])
    (G__law_gsheet : FnOk P w K mg base CX0 6 t.f__law_gsheet fds ["tape", "word", "names", "most", "parts"] (spGSheet K)) (B__law_gsheet : Binds K fds ["tape", "word", "names", "most", "parts"] [])
    (G__law_gtree : FnOk P w K mg base CX0 5 t.f__law_gtree fdt ["tape", "sheet"] (spGTree K)) (B__law_gtree : Binds K fdt ["tape", "sheet"] [])
    (G__law_gbare_tree : FnOk P w K mg base CX0 5 t.f__law_gbare_tree fdb ["tape", "most"] (spBare K)) (B__law_gbare_tree : Binds K fdb ["tape", "most"] [])
    (G__law_grounds : FnOk P w K mg base CX0 2 t.f__law_grounds fdg ["tree", "pairs"] (spLGrounds K)) (B__law_grounds : Binds K fdg ["tree", "pairs"] [])
    (G_rounds : FnOk P w K mg base CX0 5 t.f_rounds fdr ["tree"] (spRounds K TB)) (B_rounds : Binds K fdr ["tree"] [])
    (G__law_gsame : FnOk P w K mg base CX0 4 t.f__law_gsame fde ["found", "due"] (spSame K 4)) (B__law_gsame : Binds K fde ["found", "due"] []) :
    FnOk P w K mg base CX0 7 f fd ["script"] (spLaw K TB) := by
  have nd := sc_law.nd
  refine F.ok sc_law (fun vs H Q E h => ?_) (fun cdv A outer s H vs Q E hr h => ?_)
  · obtain ⟨a, ns, rfl, _⟩ := h
    rfl
  · obtain ⟨sc, ss, rfl, hs, hl, htb, q⟩ := h
    refine ⟨_, (pss_cons (ps_set (i := 1) nd rfl (Or.inl rfl) (pe_lst (pa_cons (pe_callTy call_list_of (by rfl) T.b_list (by decide +kernel) (pa_cons (pe_slice sl_listG (pv 0) po_none (po_some pe_int)) pa_nil)) (pa_cons pe_int (pa_cons pe_int pa_nil))))) (pss_cons (ps_for PassesOwn.never rfl (pi_range1 (by rfl) T.b_range (pa_cons pe_int pa_nil)) (pg_name (i := 2) nd rfl (Or.inl rfl)) (pss_cons (ps_set (i := 3) nd rfl (Or.inl rfl) (pe_call G__law_gbare_tree (hr.mono (by first | decide | omega)) (by rfl) T.m__law_gbare_tree T.k__law_gbare_tree B__law_gbare_tree .nil pass0 (pa_cons (pv 1) (pa_cons pe_int pa_nil)))) (pss_cons (ps_if (pt_cmpR op_eq (pe_call G__law_gdraw (hr.mono (by first | decide | omega)) (by rfl) T.m__law_gdraw T.k__law_gdraw B__law_gdraw .nil pass0 (pa_cons (pv 1) (pa_cons pe_int pa_nil))) pe_int (nomark _)) (pss_one (ps_set (i := 3) nd rfl (Or.inl rfl) (pe_call G__law_gtree (hr.mono (by first | decide | omega)) (by rfl) T.m__law_gtree T.k__law_gtree B__law_gtree .nil pass0 (pa_cons (pv 1) (pa_cons (pe_call G__law_gsheet (hr.mono (by first | decide | omega)) (by rfl) T.m__law_gsheet T.k__law_gsheet B__law_gsheet .nil pass0 (pa_cons (pv 1) (pa_cons pe_str (pa_cons pe_int (pa_cons pe_int (pa_cons pe_int pa_nil)))))) pa_nil))))) pss_nil) (pss_cons (ps_set (i := 4) nd rfl (Or.inl rfl) (pe_call G__law_grounds (hr.mono (by first | decide | omega)) (by rfl) T.m__law_grounds T.k__law_grounds B__law_grounds .nil pass0 (pa_cons (pv 3) (pa_cons (pe_op op_cat (pe_callTy call_list_of (by rfl) T.b_list (by decide +kernel) (pa_cons (pe_ix ix_seq (pv 3) pe_int (fun _ _ => rfl)) pa_nil)) (pe_lc (own := [("i", 8), ("j", 9)]) (by rfl) nd (pi_alt (pi_list (pe_ix ix_seq (pv 3) pe_int (fun _ _ => rfl))) (pi_tup (pe_ix ix_seq (pv 3) pe_int (fun _ _ => rfl)))) (blkOk_by (own := [("i", 8), ("j", 9)]) rfl) (fun _ _ _ _ _ => (pg_tupK (K := K) (n := 2) rfl rfl (pgs_cons (pg_name (i := 8) nd rfl (Or.inl rfl)) (pgs_cons (pg_name (i := 9) nd rfl (Or.inl rfl)) pgs_nil)))) (fun _ _ _ _ _ => pts_nil) (fun _ _ _ _ _ => (pe_tup (pa_cons (pv 9) (pa_cons (pv 8) pa_nil)))))) pa_nil)))) (pss_one (ps_for PassesOwn.never rfl (pi_range1 (by rfl) T.b_range (pa_cons pe_int pa_nil)) (pg_name (i := 5) nd rfl (Or.inl rfl)) (pss_cons (ps_set (i := 6) nd rfl (Or.inl rfl) (pe_call G_rounds (hr.mono (by first | decide | omega)) (by rfl) T.m_rounds T.k_rounds B_rounds .nil pass0 (pa_cons (pv 3) pa_nil))) (pss_cons (ps_if (pt_not (pt_val (pe_call G__law_gsame (hr.mono (by first | decide | omega)) (by rfl) T.m__law_gsame T.k__law_gsame B__law_gsame .nil pass0 (pa_cons (pv 6) (pa_cons (pv 4) pa_nil))))) (pss_one (ps_ret pe_bl)) pss_nil) (pss_cons (ps_for PassesOwn.never rfl (pi_alt (pi_list (pv 6)) (pi_tup (pv 6))) (pg_name (i := 7) nd rfl (Or.inl rfl)) (pss_one (ps_expr (pe_bm0 PySem.F.plainAttrs_list PySem.F.slot_list_clear PySem.F.type_list_clear mt_clear (pv 7))))) (pss_one (ps_expr (pe_bm PySem.F.plainAttrs_list PySem.F.slot_list_append PySem.F.type_list_append mt_append (pv 6) (pa_cons (pe_lst pa_nil) pa_nil))))))))))))) (pss_one (ps_ret pe_bl)))), ?_⟩
    refine ⟨_, rfl, _, rfl, sc, _, rfl, hs, fun p0 H1 x1 n1 h1 => ?_⟩
    refine ⟨p0, _, rfl, .inl (SqL.of h1), fun lj n2 => ?_⟩
    refine ⟨(by show 3 ≤ sizeLine; decide), fun j n3 => ?_⟩
    have hlj : lj ≠ j := fun z => by rw [← z, upd_same] at n3; cases n3
    have nj : H j = none := by
      rw [upd_ne (Ne.symm hlj)] at n3
      cases e : H j with
      | none => rfl
      | some o => rw [x1 j o e] at n3; cases n3
    have xj : Ext H (upd (upd H1 lj (.lst (cutV (ss.map V.int) none (some 63)))) j (.lst [V.ref lj, V.int 0, V.int 0])) := (x1.upd n2).upd n3
    have hj : Jr (upd (upd H1 lj (.lst (cutV (ss.map V.int) none (some 63)))) j (.lst [V.ref lj, V.int 0, V.int 0])) j lj 0 := by
      refine ⟨(ss.drop 0).take (HT.sIx ss.length ss.length (some 63)), 0, 0, upd_same, ?_, hlj, Nat.le_refl _, Int.le_refl _⟩
      rw [upd_ne hlj, upd_same]
      have e : cutV (ss.map V.int) none (some 63) = ((ss.drop 0).take (HT.sIx ss.length ss.length (some 63))).map V.int := by
        unfold cutV
        rw [List.length_map, List.map_take, List.map_drop]
        rfl
      rw [← e]
    dsimp only [gName]
    refine ⟨4, rfl, by decide, by decide, for_range (n := 4) (fun i σ H' => ∃ (o2 o3 o4 o5 o6 o7 : Option V), σ = [some (.ref sc), some (.ref j), o2, o3, o4, o5, o6, o7, none, none] ∧ Jr H' j lj (i * 1400) ∧ Ext H H') ?_ ?_ ?_⟩
    · exact ⟨_, _, _, _, _, _, rfl, hj.mono (by omega), xj⟩
    · rintro i σ H2 hi ⟨o2, o3, o4, o5, o6, o7, rfl, hj2, x2⟩
      dsimp only [gName]
      refine ⟨_, rfl, j, _, rfl, lj, hj2, by omega, fun v n E H3 dt hj3 k3 => ?_⟩
      dsimp only [gName]
      have x3 : Ext H H3 := Ext_keepJ x2 nj k3
      refine seq_cut (t := tIfS _ _ _) (fun σ H' => ∃ (v : V) (n : Nat) (E : List (Int × Int)), σ = [some (.ref sc), some (.ref j), some (.int (0 + (i : Int))), some v, o4, o5, o6, o7, none, none] ∧ DTree K H' v n E ∧ Jr H' j lj ((i + 1) * 1400) ∧ Ext H H') ?_ ?_
      · rintro σ H4 ⟨v, n, E, rfl, dt, hj4, x4⟩
        obtain ⟨tt, ar, few⟩ := id dt
        obtain ⟨ta, tb, tc, us, ts, rfl, hta, htb', ul, htc, pt⟩ := id tt.at_
        have tsl := pt.length
        obtain ⟨TD, tok⟩ := tied_some n E
        refine ⟨_, rfl, _, rfl, .inr (.inl ⟨ta, _, 1, _, rfl, rfl, hta, rfl, tc, ts, rfl, .inr htc, fun l1 nl1 => ?_⟩)⟩
        have y5 := ext_upd (o := .lst ts) nl1
        have hl1 : (upd H4 l1 (.lst ts)) l1 = some (.lst ts) := upd_same
        generalize upd H4 l1 (.lst ts) = H5 at *
        refine .inr ⟨_, rfl, .inr (.inl ⟨ta, _, 1, _, rfl, rfl, y5.sqT hta, rfl, tc, rfl, ⟨_, y5.sqT htc⟩, fun D nD => ?_⟩)⟩
        refine W_tup (K := K) (a := tc) (xs := ts) (fun c H' => ∃ es : List Addr, H' D = some (.lst (es.map V.ref)) ∧ Paired (PrO H') es ((E.take c).map swapP) ∧ Ext H5 H') ⟨[], upd_same, .nil, ext_upd nD⟩ (fun c H' _ ⟨_, _, _, e⟩ => e.sqT (y5.sqT htc)) ?_ ?_
        · rintro c u H6 hu ⟨es, hD, pe, x6⟩
          obtain ⟨p, hp, ⟨ua, rfl, hua⟩⟩ := Paired.at pt hu
          have hua6 : PrO H6 ua p := x6 _ _ (y5 _ _ hua)
          have tk : E.take (c + 1) = E.take c ++ [p] := by rw [List.take_succ, hp]; rfl
          have el := pe.length
          rw [List.length_map, List.length_take] at el
          refine ⟨ua, _, rfl, SqT.of hua6, rfl, _, _, rfl, _, _, rfl, rfl, rfl, ?_⟩
          dsimp only [tYes]
          rw [if_pos rfl]
          refine ⟨_, rfl, _, rfl, by show 2 ≤ sizeLine; decide, fun tn ntn => ?_⟩
          have yn := ext_upd (o := .tup [V.int p.2, .int p.1]) ntn
          have hD2 := yn _ _ hD
          have up : ∀ {b : Addr} {q : Int × Int}, PrO (upd H6 tn (.tup [V.int p.2, .int p.1])) b q → PrO (upd (upd H6 tn (.tup [V.int p.2, .int p.1])) D (.lst (es.map V.ref ++ [V.ref tn]))) b q := fun {b q} h => by
            have nb : b ≠ D := fun e => by
              have h2 : (upd H6 tn (.tup [V.int p.2, .int p.1])) b = some (.tup [.int q.1, .int q.2]) := h
              rw [e, hD2] at h2; cases h2
            show (upd _ D _) b = _
            rw [upd_ne nb]; exact h
          refine ⟨_, hD2, by rw [List.length_map, sizeLine_eq]; omega, es ++ [tn], by rw [upd_same, List.map_append]; rfl, ?_, ext_new (x6.trans yn) nD⟩
          rw [tk, List.map_append]
          exact Paired.app (Paired.mapP pe fun _ _ h => up (yn _ _ h)) (.cons (up (q := swapP p) upd_same) .nil)
        · rintro H6 ⟨es, hD, pe, x6⟩
          rw [tsl, List.take_length] at pe
          obtain ⟨bs, hbs, pbs⟩ : ∃ bs : List Addr, ts = bs.map V.ref ∧ Paired (PrO H6) bs E := refs_of (Paired.mapP pt fun _ _ ⟨z, e, h⟩ => ⟨z, e, x6 _ _ (y5 _ _ h)⟩)
          have el := pe.length
          rw [List.length_map] at el
          have bl := pbs.length
          refine ⟨l1, D, _, _, rfl, rfl, x6 _ _ hl1, hD, by rw [List.length_map, sizeLine_eq]; omega, fun wa nwa => ?_⟩
          have y7 := ext_upd (o := .lst (ts ++ es.map V.ref)) nwa
          have pw : PLst (upd H6 wa (.lst (ts ++ es.map V.ref))) wa (dirE E) := ⟨bs ++ es, by rw [upd_same, hbs, List.map_append], Paired.app (Paired.mapP pbs fun _ _ h => y7 _ _ h) (Paired.mapP pe fun _ _ h => y7 _ _ h)⟩
          have x47 := (y5.trans x6).trans y7
          generalize upd H6 wa (.lst (ts ++ es.map V.ref)) = H7 at *
          have n64 : ∀ i : Int, (nearL E i).length < 64 := fun i => by have := near_len (E := E) (i := i); omega
          have dt7 : DTree K H7 (.ref ta) n E := DTree.ext x47 dt
          refine ⟨.ref ta, wa, n, E, dirE E, TD, rfl, dt7.1, n64, tok, pw, by unfold dirE; rw [List.length_append, List.length_map]; omega, fun p hp => ?_, live_tree ar tt.ins tok fun p => Iff.rfl, fun da drs S R H8 x8 nda hda pR pS sS rR => ?_⟩
          · rw [tok.1]
            rcases List.mem_append.mp hp with h | h
            · exact (tt.ins p h).1
            · obtain ⟨q, hq, rfl⟩ := List.mem_map.mp h
              exact (tt.ins q hq).2.1
          · dsimp only [gName]
            have x48 := x47.trans x8
            have dt8 := DTree.ext x48 dt
            have hj8 := x48.jr hj4
            have xH8 := x4.trans x48
            have lvS : Live TD S := live_tree ar tt.ins tok fun p => pS.mem_iff
            obtain ⟨f1, f2⟩ := rounds_few lvS rR (fun p hp => hp) (fun p hp => .inl hp)
            have Sl : S.length ≤ 200 := by
              rw [pS.length_eq]
              unfold dirE
              rw [List.length_append, List.length_map]
              omega
            have ti := rounds_ti (R := R) (by omega) (fun ps hps => by have := f2 ps hps; omega)
            refine ⟨2, rfl, by decide, by decide, for_range (n := 2) (fun g σ H' => ∃ (o5 o6 o7 : Option V), σ = [some (.ref sc), some (.ref j), some (.int (0 + (i : Int))), some (.ref ta), some (.ref da), o5, o6, o7, none, none] ∧ Ext H8 H') ⟨_, _, _, rfl, Ext.refl _⟩ ?_ ?_⟩
            · rintro g σ H9 hg ⟨o5, o6, o7, rfl, x9⟩
              dsimp only [gName]
              refine ⟨_, rfl, .ref ta, n, E, rfl, (DTree.ext x9 dt8).1, n64, fun TD' W' tok' hW' => live_tree ar tt.ins tok' hW', fun Pt hPt => (xH8.trans x9) _ _ (htb Pt hPt), fun ra rrs TD' S' R' H10 x10 nra hra pR' tok' pS' sS' rR' => ?_⟩
              obtain rfl := tied_one tok tok'
              obtain rfl := sorted_one (pS.trans pS'.symm) sS sS'
              obtain rfl := rR.same (fun p => Iff.rfl) rR'
              dsimp only [gName]
              have x810 := x9.trans x10
              have d1 : Dp K H10 (.ref ra) (roundsD R) := rounds_dp hra (Paired.mapP pR' fun _ _ ⟨c, e, _, h⟩ => ⟨c, e, h⟩)
              have d2 : Dp K H10 (.ref da) (roundsD R) := rounds_dp (x810 _ _ hda) (Paired.mapP pR fun _ _ ⟨c, e, h⟩ => ⟨c, e, h.ext x810⟩)
              refine ⟨_, rfl, _, rfl, .ref ra, .ref da, roundsD R, rfl, d1, d2, ti, fun H11 x11 => ⟨_, rfl, iteF ?_⟩⟩
              have inner : ∀ c : Addr, V.ref c ∈ rrs → H8 c = none ∧ c ≠ ra ∧ ∃ xs, H11 c = some (.lst xs) := fun c hc => by
                obtain ⟨k, hk⟩ := List.getElem?_of_mem hc
                obtain ⟨ps, _, ⟨c', e, n0, bs, h1, h2⟩⟩ := Paired.at pR' hk
                cases e
                refine ⟨none_back x9 n0, fun e => ?_, _, x11 _ _ h1⟩
                rw [e, hra] at h1
                cases h1
                obtain ⟨b, hb, e2⟩ := List.mem_map.mp hc
                cases e2
                obtain ⟨k2, hk2⟩ := List.getElem?_of_mem hb
                obtain ⟨p, _, hp⟩ := Paired.at h2 hk2
                have hp : H10 c = some (.tup [.int p.1, .int p.2]) := hp
                rw [e, hra] at hp
                cases hp
              have hra11 := x11 _ _ hra
              have ra8 : H8 ra = none := none_back x9 nra
              have rl : rrs.length ≤ 4000 := by have := pR'.length; omega
              refine .inl ⟨_, rfl, ra, rfl, ⟨_, SqL.of hra11⟩, for_list (K := K) (a := ra) (xs := rrs) (fun c σ' H' => ∃ o7, σ' = [some (.ref sc), some (.ref j), some (.int (0 + (i : Int))), some (.ref ta), some (.ref da), some (.int (0 + (g : Int))), some (.ref ra), o7, none, none] ∧ H' ra = some (.lst rrs) ∧ (∀ c : Addr, V.ref c ∈ rrs → ∃ xs, H' c = some (.lst xs)) ∧ Ext H8 H') ⟨_, rfl, hra11, fun c hc => (inner c hc).2.2, x810.trans x11⟩ (fun c σ' H' _ ⟨_, _, h, _⟩ => SqL.of h) ?_ ?_⟩
              · rintro c u σ' H12 hu ⟨o7, rfl, hra12, hin, x12⟩
                obtain ⟨ps, _, ⟨c', rfl, _⟩⟩ := Paired.at pR' hu
                have hm : V.ref c' ∈ rrs := List.mem_of_getElem? hu
                obtain ⟨n8, nr, _⟩ := inner c' hm
                obtain ⟨xs, hxs⟩ := hin c' hm
                refine ⟨_, rfl, .inl ⟨rfl, _, SqL.of hxs⟩, c', xs, rfl, rfl, hxs, _, rfl, by rw [upd_ne (Ne.symm nr)]; exact hra12, fun d hd => ?_, ext_new x12 n8⟩
                by_cases e : d = c'
                · exact ⟨[], by rw [e, upd_same]⟩
                · obtain ⟨ys, hys⟩ := hin d hd
                  exact ⟨ys, by rw [upd_ne e]; exact hys⟩
              · rintro σ' H12 ⟨o7, rfl, hra12, hin, x12⟩
                refine ⟨_, rfl, .inl ⟨rfl, _, SqL.of hra12⟩, by show 0 ≤ sizeLine; decide, fun l0 nl0 => ?_⟩
                have y0 := ext_upd (o := .lst []) nl0
                exact ⟨ra, _, _, rfl, rfl, y0 _ _ hra12, by rw [sizeLine_eq]; omega, _, _, _, rfl, ext_new (x12.trans y0) ra8⟩
            · rintro σ H9 ⟨o5, o6, o7, rfl, x9⟩
              exact ⟨_, _, _, _, _, _, rfl, x9.jr hj8, xH8.trans x9⟩
      · intro N hN
        refine ⟨_, rfl, j, 3, _, rfl, lj, hj3, by omega, by decide, by decide, fun r H4 r0 r1 hj4 k4 => ⟨rfl, _, rfl, ?_⟩⟩
        have x4 : Ext H H4 := Ext_keepJ x3 nj k4
        obtain ⟨yj3, hyj3⟩ := hj3.lst
        generalize decide (V.int r = V.int 0) = bb
        cases bb with
        | false => exact iteF (hN _ _ ⟨v, n, E, rfl, dt.keep k4 hyj3, hj4.mono (by omega), x4⟩)
        | true =>
          refine iteT ⟨_, rfl, _, rfl, j, "sum", 6, 24, 6, _, rfl, lj, hj4, by omega, by decide, by decide, by decide, by decide, by decide, by decide, fun v2 s2 H5 hsh s1 s6 hn pr pl pok hj5 k5 => ?_⟩
          refine ⟨j, v2, _, s2, rfl, lj, hj5, by omega, hsh, s1, by omega, by omega, fun p hp => ⟨by have := (pok p hp).len; omega, (pok p hp).inn⟩, fun v3 n3 E3 H6 dt6 hj6 k6 => ?_⟩
          exact hN _ _ ⟨v3, n3, E3, rfl, dt6, hj6.mono (by omega), Ext_keepJ x4 nj (k5.trans k6)⟩
    · rintro σ H2 ⟨o2, o3, o4, o5, o6, o7, rfl, hj2, x2⟩
      exact q _ x2

end
end My

end
section
set_option linter.all false
set_option maxRecDepth 100000
set_option maxHeartbeats 4000000
set_option Elab.async false
namespace My
open PySem L2
/-! ### what the top has written -/
theorem all_mk {l : PySem.W.OpenLaw} {w : World} {K : PySem.W.Frag} {h : Heap} {mg : Str → Option Value} {fa : Addr} {f_in_rounds f_tied_bags f_rounds f__law_gprime f__law_gfresh f__law_gdraw f__law_gnear f__law_gorder f__law_grounds f__law_gbare_tree f__law_gbags f__law_gtree f__law_gsame f__law_gfillings f__law_gworths f__law_gparts f__law_gsheet f_law : Addr} (X : K.In h) (G : h.Ns mainGlobals mg) (hfa : mg "law" = some (.ref fa))
    {od0 an0 : Option Addr} {sl0 : Array (Option Value)} {oc0 kV0 dc0 pm0 cd0 ct0 : Value}
    {od1 an1 : Option Addr} {sl1 : Array (Option Value)} {oc1 kV1 dc1 pm1 cd1 ct1 : Value}
    {od2 an2 : Option Addr} {sl2 : Array (Option Value)} {oc2 kV2 dc2 pm2 cd2 ct2 : Value}
    {od3 an3 : Option Addr} {sl3 : Array (Option Value)} {oc3 kV3 dc3 pm3 cd3 ct3 : Value}
    {od4 an4 : Option Addr} {sl4 : Array (Option Value)} {oc4 kV4 dc4 pm4 cd4 ct4 : Value}
    {od5 an5 : Option Addr} {sl5 : Array (Option Value)} {oc5 kV5 dc5 pm5 cd5 ct5 : Value}
    {od6 an6 : Option Addr} {sl6 : Array (Option Value)} {oc6 kV6 dc6 pm6 cd6 ct6 : Value}
    {od7 an7 : Option Addr} {sl7 : Array (Option Value)} {oc7 kV7 dc7 pm7 cd7 ct7 : Value}
    {od8 an8 : Option Addr} {sl8 : Array (Option Value)} {oc8 kV8 dc8 pm8 cd8 ct8 : Value}
    {od9 an9 : Option Addr} {sl9 : Array (Option Value)} {oc9 kV9 dc9 pm9 cd9 ct9 : Value}
    {od10 an10 : Option Addr} {sl10 : Array (Option Value)} {oc10 kV10 dc10 pm10 cd10 ct10 : Value}
    {od11 an11 : Option Addr} {sl11 : Array (Option Value)} {oc11 kV11 dc11 pm11 cd11 ct11 : Value}
    {od12 an12 : Option Addr} {sl12 : Array (Option Value)} {oc12 kV12 dc12 pm12 cd12 ct12 : Value}
    {od13 an13 : Option Addr} {sl13 : Array (Option Value)} {oc13 kV13 dc13 pm13 cd13 ct13 : Value}
    {od14 an14 : Option Addr} {sl14 : Array (Option Value)} {oc14 kV14 dc14 pm14 cd14 ct14 : Value}
    {od15 an15 : Option Addr} {sl15 : Array (Option Value)} {oc15 kV15 dc15 pm15 cd15 ct15 : Value}
    {od16 an16 : Option Addr} {sl16 : Array (Option Value)} {oc16 kV16 dc16 pm16 cd16 ct16 : Value}
    {od17 an17 : Option Addr} {sl17 : Array (Option Value)} {oc17 kV17 dc17 pm17 cd17 ct17 : Value}
    (a0 : PySem.W.nsIn K mainGlobals "in_rounds" = some (some (.ref f_in_rounds)))
    (a1 : PySem.W.nsIn K mainGlobals "tied_bags" = some (some (.ref f_tied_bags)))
    (a2 : PySem.W.nsIn K mainGlobals "rounds" = some (some (.ref f_rounds)))
    (a3 : PySem.W.nsIn K mainGlobals "_law_gprime" = some (some (.ref f__law_gprime)))
    (a4 : PySem.W.nsIn K mainGlobals "_law_gfresh" = some (some (.ref f__law_gfresh)))
    (a5 : PySem.W.nsIn K mainGlobals "_law_gdraw" = some (some (.ref f__law_gdraw)))
    (a6 : PySem.W.nsIn K mainGlobals "_law_gnear" = some (some (.ref f__law_gnear)))
    (a7 : PySem.W.nsIn K mainGlobals "_law_gorder" = some (some (.ref f__law_gorder)))
    (a8 : PySem.W.nsIn K mainGlobals "_law_grounds" = some (some (.ref f__law_grounds)))
    (a9 : PySem.W.nsIn K mainGlobals "_law_gbare_tree" = some (some (.ref f__law_gbare_tree)))
    (a10 : PySem.W.nsIn K mainGlobals "_law_gbags" = some (some (.ref f__law_gbags)))
    (a11 : PySem.W.nsIn K mainGlobals "_law_gtree" = some (some (.ref f__law_gtree)))
    (a12 : PySem.W.nsIn K mainGlobals "_law_gsame" = some (some (.ref f__law_gsame)))
    (a13 : PySem.W.nsIn K mainGlobals "_law_gfillings" = some (some (.ref f__law_gfillings)))
    (a14 : PySem.W.nsIn K mainGlobals "_law_gworths" = some (some (.ref f__law_gworths)))
    (a15 : PySem.W.nsIn K mainGlobals "_law_gparts" = some (some (.ref f__law_gparts)))
    (a16 : PySem.W.nsIn K mainGlobals "_law_gsheet" = some (some (.ref f__law_gsheet)))
    (a17 : PySem.W.nsIn K mainGlobals "law" = some (some (.ref f_law)))
    (l0 : K.lookup f_in_rounds = some ⟨oc0, od0, .func (PySem.W.fnOf "in_rounds" "in_rounds" (defArgs s_in_rounds) (defBody s_in_rounds) (defScope s_in_rounds) .none kV0 dc0 pm0 an0 cd0 ct0), sl0⟩)
    (c0 : PySem.W.codeIn K cd0 "in_rounds" = true)
    (k0 : PySem.W.keepIn K (.ref f_in_rounds) = true)
    (l1 : K.lookup f_tied_bags = some ⟨oc1, od1, .func (PySem.W.fnOf "tied_bags" "tied_bags" (defArgs s_tied_bags) (defBody s_tied_bags) (defScope s_tied_bags) .none kV1 dc1 pm1 an1 cd1 ct1), sl1⟩)
    (c1 : PySem.W.codeIn K cd1 "tied_bags" = true)
    (k1 : PySem.W.keepIn K (.ref f_tied_bags) = true)
    (l2 : K.lookup f_rounds = some ⟨oc2, od2, .func (PySem.W.fnOf "rounds" "rounds" (defArgs s_rounds) (defBody s_rounds) (defScope s_rounds) .none kV2 dc2 pm2 an2 cd2 ct2), sl2⟩)
    (c2 : PySem.W.codeIn K cd2 "rounds" = true)
    (k2 : PySem.W.keepIn K (.ref f_rounds) = true)
    (l3 : K.lookup f__law_gprime = some ⟨oc3, od3, .func (PySem.W.fnOf "_law_gprime" "_law_gprime" (defArgs s__law_gprime) (defBody s__law_gprime) (defScope s__law_gprime) .none kV3 dc3 pm3 an3 cd3 ct3), sl3⟩)
    (c3 : PySem.W.codeIn K cd3 "_law_gprime" = true)
    (k3 : PySem.W.keepIn K (.ref f__law_gprime) = true)
    (l4 : K.lookup f__law_gfresh = some ⟨oc4, od4, .func (PySem.W.fnOf "_law_gfresh" "_law_gfresh" (defArgs s__law_gfresh) (defBody s__law_gfresh) (defScope s__law_gfresh) .none kV4 dc4 pm4 an4 cd4 ct4), sl4⟩)
    (c4 : PySem.W.codeIn K cd4 "_law_gfresh" = true)
    (k4 : PySem.W.keepIn K (.ref f__law_gfresh) = true)
    (l5 : K.lookup f__law_gdraw = some ⟨oc5, od5, .func (PySem.W.fnOf "_law_gdraw" "_law_gdraw" (defArgs s__law_gdraw) (defBody s__law_gdraw) (defScope s__law_gdraw) .none kV5 dc5 pm5 an5 cd5 ct5), sl5⟩)
    (c5 : PySem.W.codeIn K cd5 "_law_gdraw" = true)
    (k5 : PySem.W.keepIn K (.ref f__law_gdraw) = true)
    (l6 : K.lookup f__law_gnear = some ⟨oc6, od6, .func (PySem.W.fnOf "_law_gnear" "_law_gnear" (defArgs s__law_gnear) (defBody s__law_gnear) (defScope s__law_gnear) .none kV6 dc6 pm6 an6 cd6 ct6), sl6⟩)
    (c6 : PySem.W.codeIn K cd6 "_law_gnear" = true)
    (k6 : PySem.W.keepIn K (.ref f__law_gnear) = true)
    (l7 : K.lookup f__law_gorder = some ⟨oc7, od7, .func (PySem.W.fnOf "_law_gorder" "_law_gorder" (defArgs s__law_gorder) (defBody s__law_gorder) (defScope s__law_gorder) .none kV7 dc7 pm7 an7 cd7 ct7), sl7⟩)
    (c7 : PySem.W.codeIn K cd7 "_law_gorder" = true)
    (k7 : PySem.W.keepIn K (.ref f__law_gorder) = true)
    (l8 : K.lookup f__law_grounds = some ⟨oc8, od8, .func (PySem.W.fnOf "_law_grounds" "_law_grounds" (defArgs s__law_grounds) (defBody s__law_grounds) (defScope s__law_grounds) .none kV8 dc8 pm8 an8 cd8 ct8), sl8⟩)
    (c8 : PySem.W.codeIn K cd8 "_law_grounds" = true)
    (k8 : PySem.W.keepIn K (.ref f__law_grounds) = true)
    (l9 : K.lookup f__law_gbare_tree = some ⟨oc9, od9, .func (PySem.W.fnOf "_law_gbare_tree" "_law_gbare_tree" (defArgs s__law_gbare_tree) (defBody s__law_gbare_tree) (defScope s__law_gbare_tree) .none kV9 dc9 pm9 an9 cd9 ct9), sl9⟩)
    (c9 : PySem.W.codeIn K cd9 "_law_gbare_tree" = true)
    (k9 : PySem.W.keepIn K (.ref f__law_gbare_tree) = true)
    (l10 : K.lookup f__law_gbags = some ⟨oc10, od10, .func (PySem.W.fnOf "_law_gbags" "_law_gbags" (defArgs s__law_gbags) (defBody s__law_gbags) (defScope s__law_gbags) .none kV10 dc10 pm10 an10 cd10 ct10), sl10⟩)
    (c10 : PySem.W.codeIn K cd10 "_law_gbags" = true)
    (k10 : PySem.W.keepIn K (.ref f__law_gbags) = true)
    (l11 : K.lookup f__law_gtree = some ⟨oc11, od11, .func (PySem.W.fnOf "_law_gtree" "_law_gtree" (defArgs s__law_gtree) (defBody s__law_gtree) (defScope s__law_gtree) .none kV11 dc11 pm11 an11 cd11 ct11), sl11⟩)
    (c11 : PySem.W.codeIn K cd11 "_law_gtree" = true)
    (k11 : PySem.W.keepIn K (.ref f__law_gtree) = true)
    (l12 : K.lookup f__law_gsame = some ⟨oc12, od12, .func (PySem.W.fnOf "_law_gsame" "_law_gsame" (defArgs s__law_gsame) (defBody s__law_gsame) (defScope s__law_gsame) .none kV12 dc12 pm12 an12 cd12 ct12), sl12⟩)
    (c12 : PySem.W.codeIn K cd12 "_law_gsame" = true)
    (k12 : PySem.W.keepIn K (.ref f__law_gsame) = true)
    (l13 : K.lookup f__law_gfillings = some ⟨oc13, od13, .func (PySem.W.fnOf "_law_gfillings" "_law_gfillings" (defArgs s__law_gfillings) (defBody s__law_gfillings) (defScope s__law_gfillings) .none kV13 dc13 pm13 an13 cd13 ct13), sl13⟩)
    (c13 : PySem.W.codeIn K cd13 "_law_gfillings" = true)
    (k13 : PySem.W.keepIn K (.ref f__law_gfillings) = true)
    (l14 : K.lookup f__law_gworths = some ⟨oc14, od14, .func (PySem.W.fnOf "_law_gworths" "_law_gworths" (defArgs s__law_gworths) (defBody s__law_gworths) (defScope s__law_gworths) .none kV14 dc14 pm14 an14 cd14 ct14), sl14⟩)
    (c14 : PySem.W.codeIn K cd14 "_law_gworths" = true)
    (k14 : PySem.W.keepIn K (.ref f__law_gworths) = true)
    (l15 : K.lookup f__law_gparts = some ⟨oc15, od15, .func (PySem.W.fnOf "_law_gparts" "_law_gparts" (defArgs s__law_gparts) (defBody s__law_gparts) (defScope s__law_gparts) .none kV15 dc15 pm15 an15 cd15 ct15), sl15⟩)
    (c15 : PySem.W.codeIn K cd15 "_law_gparts" = true)
    (k15 : PySem.W.keepIn K (.ref f__law_gparts) = true)
    (l16 : K.lookup f__law_gsheet = some ⟨oc16, od16, .func (PySem.W.fnOf "_law_gsheet" "_law_gsheet" (defArgs s__law_gsheet) (defBody s__law_gsheet) (defScope s__law_gsheet) .none kV16 dc16 pm16 an16 cd16 ct16), sl16⟩)
    (c16 : PySem.W.codeIn K cd16 "_law_gsheet" = true)
    (k16 : PySem.W.keepIn K (.ref f__law_gsheet) = true)
    (l17 : K.lookup f_law = some ⟨oc17, od17, .func (PySem.W.fnOf "law" "law" (defArgs s_law) (defBody s_law) (defScope s_law) .none kV17 dc17 pm17 an17 cd17 ct17), sl17⟩)
    (c17 : PySem.W.codeIn K cd17 "law" = true)
    (k17 : PySem.W.keepIn K (.ref f_law) = true)
    (zall : PySem.W.nsIn K mainGlobals "all" = some none)
    (zbool : PySem.W.nsIn K mainGlobals "bool" = some none)
    (zenumerate : PySem.W.nsIn K mainGlobals "enumerate" = some none)
    (zint : PySem.W.nsIn K mainGlobals "int" = some none)
    (zisinstance : PySem.W.nsIn K mainGlobals "isinstance" = some none)
    (zlen : PySem.W.nsIn K mainGlobals "len" = some none)
    (zlist : PySem.W.nsIn K mainGlobals "list" = some none)
    (zrange : PySem.W.nsIn K mainGlobals "range" = some none)
    (zset : PySem.W.nsIn K mainGlobals "set" = some none)
    (zsorted : PySem.W.nsIn K mainGlobals "sorted" = some none)
    (zstr : PySem.W.nsIn K mainGlobals "str" = some none)
    (ztuple : PySem.W.nsIn K mainGlobals "tuple" = some none)
    (zzip : PySem.W.nsIn K mainGlobals "zip" = some none) :
    ∃ fd : FuncData, (∀ (s : Shared) (v : Value), BindsTo s fd ⟨[v], []⟩ [("script", v)]) ∧ ∀ (TB : List Addr) (base : Heap), K.In base → base.Ns mainGlobals mg → Tabs ["in_rounds"] mg base TB → FnOk l.prog w K mg base CX0 7 fa fd ["script"] (spLaw K TB) := by
  have e := hfa.symm.trans (PySem.W.mg_of X G a17)
  obtain rfl : f_law = fa := (Value.ref.inj (Option.some.inj e)).symm
  have T : Txt K mg (⟨f_in_rounds, f_tied_bags, f_rounds, f__law_gprime, f__law_gfresh, f__law_gdraw, f__law_gnear, f__law_gorder, f__law_grounds, f__law_gbare_tree, f__law_gbags, f__law_gtree, f__law_gsame, f__law_gfillings, f__law_gworths, f__law_gparts, f__law_gsheet, f_law⟩ : Adr) := { b_all := PySem.W.mg_none_of X G zall, b_bool := PySem.W.mg_none_of X G zbool, b_enumerate := PySem.W.mg_none_of X G zenumerate, b_int := PySem.W.mg_none_of X G zint, b_isinstance := PySem.W.mg_none_of X G zisinstance, b_len := PySem.W.mg_none_of X G zlen, b_list := PySem.W.mg_none_of X G zlist, b_range := PySem.W.mg_none_of X G zrange, b_set := PySem.W.mg_none_of X G zset, b_sorted := PySem.W.mg_none_of X G zsorted, b_str := PySem.W.mg_none_of X G zstr, b_tuple := PySem.W.mg_none_of X G ztuple, b_zip := PySem.W.mg_none_of X G zzip, m_in_rounds := PySem.W.mg_of X G a0, k_in_rounds := k0, m_tied_bags := PySem.W.mg_of X G a1, k_tied_bags := k1, m_rounds := PySem.W.mg_of X G a2, k_rounds := k2, m__law_gprime := PySem.W.mg_of X G a3, k__law_gprime := k3, m__law_gfresh := PySem.W.mg_of X G a4, k__law_gfresh := k4, m__law_gdraw := PySem.W.mg_of X G a5, k__law_gdraw := k5, m__law_gnear := PySem.W.mg_of X G a6, k__law_gnear := k6, m__law_gorder := PySem.W.mg_of X G a7, k__law_gorder := k7, m__law_grounds := PySem.W.mg_of X G a8, k__law_grounds := k8, m__law_gbare_tree := PySem.W.mg_of X G a9, k__law_gbare_tree := k9, m__law_gbags := PySem.W.mg_of X G a10, k__law_gbags := k10, m__law_gtree := PySem.W.mg_of X G a11, k__law_gtree := k11, m__law_gsame := PySem.W.mg_of X G a12, k__law_gsame := k12, m__law_gfillings := PySem.W.mg_of X G a13, k__law_gfillings := k13, m__law_gworths := PySem.W.mg_of X G a14, k__law_gworths := k14, m__law_gparts := PySem.W.mg_of X G a15, k__law_gparts := k15, m__law_gsheet := PySem.W.mg_of X G a16, k__law_gsheet := k16, m_law := PySem.W.mg_of X G a17, k_law := k17 }
  have F0 := fun_mk (st := s_in_rounds) l0 c0 k0
  have F1 := fun_mk (st := s_tied_bags) l1 c1 k1
  have F2 := fun_mk (st := s_rounds) l2 c2 k2
  have F3 := fun_mk (st := s__law_gprime) l3 c3 k3
  have F4 := fun_mk (st := s__law_gfresh) l4 c4 k4
  have F5 := fun_mk (st := s__law_gdraw) l5 c5 k5
  have F6 := fun_mk (st := s__law_gnear) l6 c6 k6
  have F7 := fun_mk (st := s__law_gorder) l7 c7 k7
  have F8 := fun_mk (st := s__law_grounds) l8 c8 k8
  have F9 := fun_mk (st := s__law_gbare_tree) l9 c9 k9
  have F10 := fun_mk (st := s__law_gbags) l10 c10 k10
  have F11 := fun_mk (st := s__law_gtree) l11 c11 k11
  have F12 := fun_mk (st := s__law_gsame) l12 c12 k12
  have F13 := fun_mk (st := s__law_gfillings) l13 c13 k13
  have F14 := fun_mk (st := s__law_gworths) l14 c14 k14
  have F15 := fun_mk (st := s__law_gparts) l15 c15 k15
  have F16 := fun_mk (st := s__law_gsheet) l16 c16 k16
  have F17 := fun_mk (st := s_law) l17 c17 k17
  have b0 := F0.binds (ps := ["tied", "ways"]) fun _ _ _ _ _ _ us hl => match us, hl with | [_, _], _ => rfl
  have b1 := F1.binds (ps := ["tree"]) fun _ _ _ _ _ _ us hl => match us, hl with | [_], _ => rfl
  have b2 := F2.binds (ps := ["tree"]) fun _ _ _ _ _ _ us hl => match us, hl with | [_], _ => rfl
  have b3 := F3.binds (ps := ["at"]) fun _ _ _ _ _ _ us hl => match us, hl with | [_], _ => rfl
  have b4 := F4.binds (ps := ["tape"]) fun _ _ _ _ _ _ us hl => match us, hl with | [_], _ => rfl
  have b5 := F5.binds (ps := ["tape", "many"]) fun _ _ _ _ _ _ us hl => match us, hl with | [_, _], _ => rfl
  have b6 := F6.binds (ps := ["ties", "i"]) fun _ _ _ _ _ _ us hl => match us, hl with | [_, _], _ => rfl
  have b7 := F7.binds (ps := ["tape", "many"]) fun _ _ _ _ _ _ us hl => match us, hl with | [_, _], _ => rfl
  have b8 := F8.binds (ps := ["tree", "pairs"]) fun _ _ _ _ _ _ us hl => match us, hl with | [_, _], _ => rfl
  have b9 := F9.binds (ps := ["tape", "most"]) fun _ _ _ _ _ _ us hl => match us, hl with | [_, _], _ => rfl
  have b10 := F10.binds (ps := ["sheet", "order"]) fun _ _ _ _ _ _ us hl => match us, hl with | [_, _], _ => rfl
  have b11 := F11.binds (ps := ["tape", "sheet"]) fun _ _ _ _ _ _ us hl => match us, hl with | [_, _], _ => rfl
  have b12 := F12.binds (ps := ["found", "due"]) fun _ _ _ _ _ _ us hl => match us, hl with | [_, _], _ => rfl
  have b13 := F13.binds (ps := ["sizes", "names"]) fun _ _ _ _ _ _ us hl => match us, hl with | [_, _], _ => rfl
  have b14 := F14.binds (ps := ["tape", "word", "many"]) fun _ _ _ _ _ _ us hl => match us, hl with | [_, _, _], _ => rfl
  have b15 := F15.binds (ps := ["tape", "word", "sizes", "most"]) fun _ _ _ _ _ _ us hl => match us, hl with | [_, _, _, _], _ => rfl
  have b16 := F16.binds (ps := ["tape", "word", "names", "most", "parts"]) fun _ _ _ _ _ _ us hl => match us, hl with | [_, _, _, _, _], _ => rfl
  refine ⟨PySem.W.fnOf "law" "law" (defArgs s_law) (defBody s_law) (defScope s_law) .none kV17 dc17 pm17 an17 cd17 ct17, fun s v => .of_eq rfl, fun TB base hkb hns ht => ?_⟩
  have G_in_rounds := ok_in_rounds (P := l.prog) (w := w) (mg := mg) (base := base) (F := F0) (T := T) (hm := T.m_in_rounds) (hkb := hkb) (ht := ht) (hgn := (by simp))
  have G_tied_bags := ok_tied_bags (P := l.prog) (w := w) (mg := mg) (base := base) (F := F1) (T := T)
  have G_rounds := ok_rounds (P := l.prog) (w := w) (mg := mg) (base := base) (F := F2) (T := T) (G_tied_bags := G_tied_bags) (B_tied_bags := b1) (G_in_rounds := G_in_rounds) (B_in_rounds := b0)
  have G__law_gprime := ok__law_gprime (P := l.prog) (w := w) (mg := mg) (base := base) (F := F3) (T := T)
  have G__law_gfresh := ok__law_gfresh (P := l.prog) (w := w) (mg := mg) (base := base) (F := F4) (T := T) (G__law_gprime := G__law_gprime) (B__law_gprime := b3)
  have G__law_gdraw := ok__law_gdraw (P := l.prog) (w := w) (mg := mg) (base := base) (F := F5) (T := T) (G__law_gfresh := G__law_gfresh) (B__law_gfresh := b4)
  have G__law_gnear := ok__law_gnear (P := l.prog) (w := w) (mg := mg) (base := base) (F := F6) (T := T)
  have G__law_gorder := ok__law_gorder (P := l.prog) (w := w) (mg := mg) (base := base) (F := F7) (T := T) (G__law_gdraw := G__law_gdraw) (B__law_gdraw := b5)
  have G__law_grounds := ok__law_grounds (P := l.prog) (w := w) (mg := mg) (base := base) (F := F8) (T := T) (G__law_gnear := G__law_gnear) (B__law_gnear := b6)
  have G__law_gbare_tree := ok__law_gbare_tree (P := l.prog) (w := w) (mg := mg) (base := base) (F := F9) (T := T) (G__law_gdraw := G__law_gdraw) (B__law_gdraw := b5) (G__law_gorder := G__law_gorder) (B__law_gorder := b7)
  have G__law_gbags := ok__law_gbags (P := l.prog) (w := w) (mg := mg) (base := base) (F := F10) (T := T)
  have G__law_gtree := ok__law_gtree (P := l.prog) (w := w) (mg := mg) (base := base) (F := F11) (T := T) (G__law_gdraw := G__law_gdraw) (B__law_gdraw := b5) (G__law_gorder := G__law_gorder) (B__law_gorder := b7) (G__law_gbags := G__law_gbags) (B__law_gbags := b10)
  have G__law_gsame := ok__law_gsame (P := l.prog) (w := w) (mg := mg) (base := base) (F := F12) (T := T) (B__law_gsame := b12) (n := 4)
  have G__law_gfillings := ok__law_gfillings (P := l.prog) (w := w) (mg := mg) (base := base) (F := F13) (T := T)
  have G__law_gworths := ok__law_gworths (P := l.prog) (w := w) (mg := mg) (base := base) (F := F14) (T := T) (G__law_gdraw := G__law_gdraw) (B__law_gdraw := b5)
  have G__law_gparts := ok__law_gparts (P := l.prog) (w := w) (mg := mg) (base := base) (F := F15) (T := T) (G__law_gdraw := G__law_gdraw) (B__law_gdraw := b5) (G__law_gworths := G__law_gworths) (B__law_gworths := b14) (G__law_gfillings := G__law_gfillings) (B__law_gfillings := b13)
  have G__law_gsheet := ok__law_gsheet (P := l.prog) (w := w) (mg := mg) (base := base) (F := F16) (T := T) (G__law_gdraw := G__law_gdraw) (B__law_gdraw := b5) (G__law_gparts := G__law_gparts) (B__law_gparts := b15)
  exact ok_law (F := F17) (T := T) (G__law_gdraw := G__law_gdraw) (B__law_gdraw := b5) (G__law_gsheet := G__law_gsheet) (B__law_gsheet := b16) (G__law_gtree := G__law_gtree) (B__law_gtree := b11) (G__law_gbare_tree := G__law_gbare_tree) (B__law_gbare_tree := b9) (G__law_grounds := G__law_grounds) (B__law_grounds := b8) (G_rounds := G_rounds) (B_rounds := b2) (G__law_gsame := G__law_gsame) (B__law_gsame := b12)
end My
open PySem PySem.W PyProof.Rows
set_option maxRecDepth 100000 in
set_option maxHeartbeats 0 in
theorem PySem.Challenge.cw_sumorder_k80_letters_in_rounds_holds : PySem.Challenge.rw_sumorder_k80_letters_in_rounds.Holds := by
  w_on; o_law; k_head; (case hw => w_witness2)
  k_fill
  refine L2.walk_tab (l := PySem.Challenge.rw_sumorder_k80_letters_in_rounds) (n := 63) (k := 7) (x := "script") (CX := L2.CX0) (sp := fun K TB => My.spLaw K TB) ["in_rounds"] rfl (by decide) rfl ⟨rfl, by decide, by decide, rfl⟩ rfl (fun w h Y => PySem.W.kIn_of Y) ?KC ?F (fun _ _ _ a ns _ hl hT hS q => ⟨a, ns, rfl, hS, hl, hT, q⟩) fun _ _ _ _ z => z
  case KC => intro w; kernel_rfl
  case F =>
    intro w mg fa h KX G hmg
    refine' My.all_mk KX G hmg ?a0 ?a1 ?a2 ?a3 ?a4 ?a5 ?a6 ?a7 ?a8 ?a9 ?a10 ?a11 ?a12 ?a13 ?a14 ?a15 ?a16 ?a17 ?l0 ?c0 ?k0 ?l1 ?c1 ?k1 ?l2 ?c2 ?k2 ?l3 ?c3 ?k3 ?l4 ?c4 ?k4 ?l5 ?c5 ?k5 ?l6 ?c6 ?k6 ?l7 ?c7 ?k7 ?l8 ?c8 ?k8 ?l9 ?c9 ?k9 ?l10 ?c10 ?k10 ?l11 ?c11 ?k11 ?l12 ?c12 ?k12 ?l13 ?c13 ?k13 ?l14 ?c14 ?k14 ?l15 ?c15 ?k15 ?l16 ?c16 ?k16 ?l17 ?c17 ?k17 ?zall ?zbool ?zenumerate ?zint ?zisinstance ?zlen ?zlist ?zrange ?zset ?zsorted ?zstr ?ztuple ?zzip
    (case a0 => k_is)
    (case a1 => k_is)
    (case a2 => k_is)
    (case a3 => k_is)
    (case a4 => k_is)
    (case a5 => k_is)
    (case a6 => k_is)
    (case a7 => k_is)
    (case a8 => k_is)
    (case a9 => k_is)
    (case a10 => k_is)
    (case a11 => k_is)
    (case a12 => k_is)
    (case a13 => k_is)
    (case a14 => k_is)
    (case a15 => k_is)
    (case a16 => k_is)
    (case a17 => k_is)
    (case l0 => k_is)
    (case c0 => k_is)
    (case k0 => k_is)
    (case l1 => k_is)
    (case c1 => k_is)
    (case k1 => k_is)
    (case l2 => k_is)
    (case c2 => k_is)
    (case k2 => k_is)
    (case l3 => k_is)
    (case c3 => k_is)
    (case k3 => k_is)
    (case l4 => k_is)
    (case c4 => k_is)
    (case k4 => k_is)
    (case l5 => k_is)
    (case c5 => k_is)
    (case k5 => k_is)
    (case l6 => k_is)
    (case c6 => k_is)
    (case k6 => k_is)
    (case l7 => k_is)
    (case c7 => k_is)
    (case k7 => k_is)
    (case l8 => k_is)
    (case c8 => k_is)
    (case k8 => k_is)
    (case l9 => k_is)
    (case c9 => k_is)
    (case k9 => k_is)
    (case l10 => k_is)
    (case c10 => k_is)
    (case k10 => k_is)
    (case l11 => k_is)
    (case c11 => k_is)
    (case k11 => k_is)
    (case l12 => k_is)
    (case c12 => k_is)
    (case k12 => k_is)
    (case l13 => k_is)
    (case c13 => k_is)
    (case k13 => k_is)
    (case l14 => k_is)
    (case c14 => k_is)
    (case k14 => k_is)
    (case l15 => k_is)
    (case c15 => k_is)
    (case k15 => k_is)
    (case l16 => k_is)
    (case c16 => k_is)
    (case k16 => k_is)
    (case l17 => k_is)
    (case c17 => k_is)
    (case k17 => k_is)
    (case zall => k_is)
    (case zbool => k_is)
    (case zenumerate => k_is)
    (case zint => k_is)
    (case zisinstance => k_is)
    (case zlen => k_is)
    (case zlist => k_is)
    (case zrange => k_is)
    (case zset => k_is)
    (case zsorted => k_is)
    (case zstr => k_is)
    (case ztuple => k_is)
    (case zzip => k_is)
#print axioms PySem.Challenge.cw_sumorder_k80_letters_in_rounds_holds

end

