import PyProof.Rows.All
import Wide.All
import OpenK.AllK
import Wide.FinOn
import Lean
import PyProof.EqAt
import PyProof.EqKinds
import PyProof.TupleCall
import PyProof.NeKinds
import PyProof.EnumMake
import PyProof.ListRange
import PyProof.Rows.Range3
import PyProof.Rows.SortRuns
import PyProof.Rows.SortWalk
import PySem.Challenge.RW_stripfold_k08_whole_listed
set_option Elab.async false
set_option linter.all false
set_option maxRecDepth 100000
/-! THE HAND LAYER, for ints, bools, texts, own classes, LISTS and tuples (index, slices, in, append, pop ..), calls, loops. Paste it whole ahead of your own text; what your proof does not reach may be deleted. -/
namespace L2
open PySem PySem.Spec PyProof.Rows
/-- a key: an int or a str -/
abbrev Key := Sum Int Str
def keyIs : Key → Value → Bool
  | .inl k, v => Value.isInt k v
  | .inr x, v => Value.isStrOf x v
def keyH (w : World) : Key → Int
  | .inl k => hashInt k
  | .inr x => hashStr w x
theorem keyIs_shape : ∀ {k : Key} {v : Value}, keyIs k v = true → (∃ i t, k = Sum.inl i ∧ v = Value.int i t) ∨ (∃ x t, k = Sum.inr x ∧ v = Value.str x t)
  | .inl i, v, h => by
    obtain ⟨t, e⟩ := Value.isInt_shape (k := i) (v := v) h
    exact .inl ⟨i, t, rfl, e⟩
  | .inr x, v, h => by
    obtain ⟨t, e⟩ := Value.isStrOf_shape (x := x) (v := v) h
    exact .inr ⟨x, t, rfl, e⟩
theorem keyIs_int (i : Int) (t : Tok) : keyIs (.inl i) (.int i t) = true := by simp [keyIs, Value.isInt]
theorem keyIs_str (x : Str) (t : Tok) : keyIs (.inr x) (.str x t) = true := by simp [keyIs, Value.isStrOf]
theorem key_ll (a b : Int) : decide ((Sum.inl a : Key) = Sum.inl b) = (a == b) := by
  by_cases e : a = b
  · subst e; simp
  · have h : ¬ (Sum.inl a : Key) = Sum.inl b := fun q => e (Sum.inl.inj q)
    rw [decide_eq_false h]
    exact (beq_eq_false_iff_ne.mpr e).symm
theorem key_rr (a b : Str) : decide ((Sum.inr a : Key) = Sum.inr b) = decide (a = b) := by
  by_cases e : a = b
  · subst e; simp
  · have h : ¬ (Sum.inr a : Key) = Sum.inr b := fun q => e (Sum.inr.inj q)
    rw [decide_eq_false h, decide_eq_false e]
theorem key_lr (a : Int) (b : Str) : decide ((Sum.inl a : Key) = Sum.inr b) = false := decide_eq_false (fun q => nomatch q)
theorem key_rl (a : Str) (b : Int) : decide ((Sum.inr a : Key) = Sum.inl b) = false := decide_eq_false (fun q => nomatch q)

def mixKind (prog : Program) (w : World) : PySem.KeyKind prog w Key where
  is := keyIs
  hash := keyH w
  inj := fun v a b ha hb => by
    rcases keyIs_shape ha with ⟨i, t, rfl, rfl⟩ | ⟨x, t, rfl, rfl⟩
    · rcases keyIs_shape hb with ⟨j, u, rfl, e⟩ | ⟨y, u, rfl, e⟩
      · injection e with e1 _; rw [e1]
      · exact nomatch e
    · rcases keyIs_shape hb with ⟨j, u, rfl, e⟩ | ⟨y, u, rfl, e⟩
      · exact nomatch e
      · injection e with e1 _; rw [e1]
  byValue := fun k v h => by
    rcases keyIs_shape h with ⟨i, t, rfl, rfl⟩ | ⟨x, t, rfl, rfl⟩ <;> rfl
  pyHash := fun hv h => by
    rcases keyIs_shape hv with ⟨i, t, rfl, rfl⟩ | ⟨x, t, rfl, rfl⟩
    · exact wpAny_pyHash_int h
    · exact wpAny_pyHash_str h
  eqBool := fun hu hv h => by
    rcases keyIs_shape hu with ⟨i, t, rfl, rfl⟩ | ⟨x, t, rfl, rfl⟩
    · rcases keyIs_shape hv with ⟨j, u, rfl, rfl⟩ | ⟨y, u, rfl, rfl⟩
      · rw [key_ll] at h; exact wpAny_eqBool_int h
      · rw [key_lr] at h; exact SeqAt.EqAt.int_str i t y u _ _ _ _ h
    · rcases keyIs_shape hv with ⟨j, u, rfl, rfl⟩ | ⟨y, u, rfl, rfl⟩
      · rw [key_rl] at h; exact SeqAt.EqAt.str_int x t j u _ _ _ _ h
      · rw [key_rr] at h; exact wpAny_eqBool_str h
  «strs» := fun k x t v h => by
    rcases keyIs_shape h with ⟨i, u, rfl, e⟩ | ⟨y, u, rfl, e⟩
    · exact nomatch e
    · injection e with e1 _
      subst e1
      cases v <;> rfl

theorem mixKind_int (prog : Program) (w : World) (i : Int) (t : Tok) : (mixKind prog w).is (.inl i) (.int i t) = true := keyIs_int i t
theorem mixKind_str (prog : Program) (w : World) (x : Str) (t : Tok) : (mixKind prog w).is (.inr x) (.str x t) = true := keyIs_str x t
end L2
namespace L2
open PySem PySem.Spec PyProof.Rows
/-- a value, without the heap -/
inductive V where
  | non | bl (b : Bool) | int (i : Int) | str (x : Str) | byt (b : Array UInt8) | flt (b : UInt64) | ref (a : Addr) | ty (n : String)
  deriving DecidableEq

def RelV : V → Value → Prop
  | .non, u => u = Value.none
  | .bl b, u => u = Value.bool b
  | .int i, u => ∃ t, u = Value.int i t
  | .str x, u => ∃ t, u = Value.str x t
  | .byt b, u => ∃ t, u = Value.bytes b t
  | .flt b, u => ∃ t, u = Value.float b t
  | .ref a, u => u = Value.ref a
  | .ty n, u => u = Value.type n

abbrev Vals : List V → List Value → Prop := Paired RelV
theorem Vals.length {xs : List V} {us : List Value} (r : Vals xs us) : xs.length = us.length := Paired.length r
theorem Vals.get : ∀ {xs : List V} {us : List Value} {i : Nat} {x : V}, Vals xs us → xs[i]? = some x → ∃ u, us[i]? = some u ∧ RelV x u
  | _, _, _, _, .nil, e => by simp at e
  | _, _, 0, _, .cons r _, e => by simp at e; subst e; exact ⟨_, rfl, r⟩
  | _, _, i + 1, x, .cons _ t, e => by
    obtain ⟨u, h1, h2⟩ := Vals.get (i := i) (x := x) t (by simpa using e)
    exact ⟨u, by simpa using h1, h2⟩
theorem Vals.set {x : V} {u : Value} (r : RelV x u) : ∀ {xs : List V} {us : List Value} (i : Nat), Vals xs us → Vals (xs.set i x) (us.set i u)
  | _, _, _, .nil => .nil
  | _, _, 0, .cons _ t => .cons r t
  | _, _, i + 1, .cons q t => .cons q (Vals.set r i t)
theorem Vals.append : ∀ {xs ys : List V} {us ws : List Value}, Vals xs us → Vals ys ws → Vals (xs ++ ys) (us ++ ws)
  | _, _, _, _, .nil, s => s
  | _, _, _, _, .cons r t, s => .cons r (Vals.append t s)
theorem Vals.take : ∀ {xs : List V} {us : List Value} (n : Nat), Vals xs us → Vals (xs.take n) (us.take n)
  | _, _, 0, _ => .nil
  | _, _, _ + 1, .nil => .nil
  | _, _, n + 1, .cons r t => .cons r (Vals.take n t)
theorem Vals.drop : ∀ {xs : List V} {us : List Value} (n : Nat), Vals xs us → Vals (xs.drop n) (us.drop n)
  | _, _, 0, r => r
  | _, _, _ + 1, .nil => .nil
  | _, _, n + 1, .cons _ t => Vals.drop n t
def RelO : Option V → Option Value → Prop
  | some v, some u => RelV v u
  | none, none => True
  | _, _ => False
def KV {κ : Type} : List (κ × V) → List (κ × Value) → Prop := Paired fun (p : κ × V) (q : κ × Value) => p.1 = q.1 ∧ RelV p.2 q.2

/-- a key of a dict (00_mix): an int or a text -/
def kV : Key → V
  | .inl i => .int i
  | .inr x => .str x

/-- what stands at a tracked address -/
inductive HO where
  /-- a list -/
  | lst (xs : List V)
  /-- a tuple (never changes) -/
  | tup (xs : List V)
  /-- a dict whose keys are ints and texts; one whose keys are tuples of ints and texts (the empty one is both) -/
  | dK (kvs : List (Key × V)) | dT (kvs : List (List Key × V))
  /-- a set of ints: its members, its size -/
  | set (S : Int → Bool) (n : Nat)
  /-- an instance of the class at C, its dict at dx, its attributes -/
  | ins (C dx : Addr) (fs : List (Str × V))
  /-- the dict of the instance at x -/
  | own (x : Addr)
  /-- the dict of an exception -/
  | xd (fs : List (Str × V))
  /-- a bound method, f of x -/
  | met (f x : Addr)
  /-- a range object lo, lo + 1, .. below hi -/
  | rng (lo hi : Int)
  /-- a thing that is known to the object (the script; a dict while a loop walks it): read, never written while it is so -/
  | frz (o : Obj) (u : HO)
  /-- a code object's table -/
  | tbl (ps : Array Value)
  /-- any other thing, by what is true of its one object (a def of one's own: SetO a S n := HO.ext fun h => ..) -/
  | ext (φ : Heap → Prop)

abbrev Hp := Addr → Option HO
def upd (H : Hp) (a : Addr) (o : HO) : Hp := fun b => if b = a then some o else H b
theorem upd_same {H : Hp} {a : Addr} {o : HO} : upd H a o a = some o := by unfold upd; rw [if_pos rfl]
theorem upd_ne {H : Hp} {a b : Addr} {o : HO} (h : b ≠ a) : upd H a o b = H b := by unfold upd; rw [if_neg h]
/-- two objects of different content stand apart -/
theorem ne_of {H : Hp} {a b : Addr} {o u : HO} (h : H a = some o) (h' : H b = some u) (d : o ≠ u) : a ≠ b := by
  intro e; subst e; rw [h] at h'; exact d (Option.some.inj h')
theorem ne_of_none {H : Hp} {a b : Addr} {o : HO} (h : H a = some o) (h' : H b = none) : a ≠ b := by
  intro e; subst e; rw [h] at h'; cases h'

section
variable (P : Program) (w : World)
def ObjOk (H : Hp) (h : Heap) (a : Addr) : HO → Prop
  | .lst xs => xs.length ≤ sizeLine ∧ ∃ (its : List Value) (n : Nat), Vals xs its ∧ h.get? a = some { cls := .type "list", data := .seq its.toArray n }
  | .tup xs => xs.length ≤ sizeLine ∧ ∃ its : List Value, Vals xs its ∧ IsTup h a its.toArray
  | .dK kvs => kvs.length ≤ sizeLine ∧ (a == sysModules) = false ∧ ∃ vs, KV kvs vs ∧ h.DictOf (mixKind P w) a vs
  | .dT kvs => kvs.length ≤ sizeLine ∧ (a == sysModules) = false ∧ ∃ xs : List (List Key × Addr × Value),
      Paired (fun (p : List Key × V) (q : List Key × Addr × Value) => p.1 = q.1 ∧ H q.2.1 = some (.tup (p.1.map kV)) ∧ RelV p.2 q.2.2) kvs xs ∧
      ∃ o es ep, h.get? a = some o ∧ o.ExactDict ∧ o.data = .dict es ep ∧ es.toList = xs.map (entryOfKey (tupleKind (mixKind P w))) ∧ (xs.map (·.1)).Nodup
  | .set S n => h.SetOf (intKind P w) a S n
  | .ins C dx fs => H dx = some (.own a) ∧ fs.length ≤ 1000 ∧ dx ≠ a ∧ h.get? a = some (PySem.W.instObj C dx) ∧
      ∃ mA, h.Ns1 dx mA ∧ (∀ f, RelO (fs.lookup f) (mA f)) ∧ PySem.Within mA (fs.map (·.1))
  | .own _ => ∃ o, h.get? a = some o
  | .xd fs => ∃ mA, h.Ns1 a mA ∧ ∀ f, RelO (fs.lookup f) (mA f)
  | .rng lo hi => ∃ t u v, h.get? a = some { cls := .type "range", data := .fields #[.int lo t, .int hi u, .int 1 v] }
  | .frz o u => h.get? a = some o ∧ ObjOk H h a u
  | .tbl ps => h.get? a = some { cls := .none, data := .fields ps }
  | .met f x => h.get? a = some (PySem.W.methodObj (.ref f) (.ref x))
  | .ext φ => φ h ∧ (∃ o, h.get? a = some o) ∧ ∀ h1 h2 : Heap, φ h1 → (∀ o, h1.get? a = some o → h2.get? a = some o) → φ h2
/-- the abstract heap is held -/
def HOk (H : Hp) (h : Heap) : Prop := ∀ a o, H a = some o → ObjOk P w H h a o
end
section
variable {P : Program} {w : World} {H H' : Hp} {h h' : Heap} {a : Addr} {o : HO}
theorem ObjOk.lt (x : ObjOk P w H h a o) : a < h.objs.size := by
  cases o with
  | lst xs => obtain ⟨_, _, _, _, e⟩ := x; exact Heap.lt_size e
  | tup xs => obtain ⟨_, _, _, p⟩ := x; exact p.lt
  | dK kvs => obtain ⟨_, _, _, _, o, _, _, e, _⟩ := x; exact Heap.lt_size e
  | dT kvs => obtain ⟨_, _, _, _, o, _, _, e, _⟩ := x; exact Heap.lt_size e
  | set S n => obtain ⟨o, _, _, _, e, _⟩ := x; exact Heap.lt_size e
  | ins C dx fs => obtain ⟨_, _, _, e, _⟩ := x; exact Heap.lt_size e
  | own y => obtain ⟨_, e⟩ := x; exact Heap.lt_size e
  | xd fs => obtain ⟨_, ⟨_, _, _, e, _⟩, _⟩ := x; exact Heap.lt_size e
  | rng lo hi => obtain ⟨_, _, _, e⟩ := x; exact Heap.lt_size e
  | frz ob u => obtain ⟨e, _⟩ := x; exact Heap.lt_size e
  | tbl ps => exact Heap.lt_size (show h.get? a = some _ from x)
  | met f y => exact Heap.lt_size (show h.get? a = some _ from x)
  | ext φ => obtain ⟨_, ⟨_, e⟩, _⟩ := x; exact Heap.lt_size e
theorem Paired.mapP {α β : Type} {F G : α → β → Prop} : ∀ {l₁ : List α} {l₂ : List β}, Paired F l₁ l₂ → (∀ a b, F a b → G a b) → Paired G l₁ l₂
  | _, _, .nil, _ => .nil
  | _, _, .cons r t, f => .cons (f _ _ r) (Paired.mapP t f)
/-- what an object's description leans on: its own object, its own dict, the tuples -/
theorem ObjOk.stay (x : ObjOk P w H h a o) (k : ∀ b u, (b = a ∨ H b = some (.own a)) → h.get? b = some u → h'.get? b = some u)
    (ho : ∀ b, H b = some (.own a) → H' b = some (.own a)) (ht : ∀ b xs, H b = some (.tup xs) → H' b = some (.tup xs)) : ObjOk P w H' h' a o := by
  induction o with
  | lst xs => obtain ⟨z, its, n, r, e⟩ := x; exact ⟨z, its, n, r, k _ _ (.inl rfl) e⟩
  | tup xs => obtain ⟨z, its, r, ob, e, c⟩ := x; exact ⟨z, its, r, ob, k _ _ (.inl rfl) e, c⟩
  | dK kvs => obtain ⟨z, y, vs, r, ob, es, ep, e, c⟩ := x; exact ⟨z, y, vs, r, ob, es, ep, k _ _ (.inl rfl) e, c⟩
  | dT kvs =>
    obtain ⟨z, y, xs, r, ob, es, ep, e, c⟩ := x
    exact ⟨z, y, xs, Paired.mapP r fun p q z => ⟨z.1, ht _ _ z.2.1, z.2.2⟩, ob, es, ep, k _ _ (.inl rfl) e, c⟩
  | set S n => obtain ⟨ob, es, ep, t, e, c⟩ := x; exact ⟨ob, es, ep, t, k _ _ (.inl rfl) e, c⟩
  | ins C dx fs =>
    obtain ⟨d, z, ne, e, mA, ⟨od, es, ep, e2, c⟩, r⟩ := x
    exact ⟨ho _ d, z, ne, k _ _ (.inl rfl) e, mA, ⟨od, es, ep, k _ _ (.inr d) e2, c⟩, r⟩
  | own y => obtain ⟨ob, e⟩ := x; exact ⟨ob, k _ _ (.inl rfl) e⟩
  | xd fs => obtain ⟨mA, ⟨od, es, ep, e, c⟩, r⟩ := x; exact ⟨mA, ⟨od, es, ep, k _ _ (.inl rfl) e, c⟩, r⟩
  | rng lo hi => obtain ⟨t, u, v, e⟩ := x; exact ⟨t, u, v, k _ _ (.inl rfl) e⟩
  | frz ob u ih => obtain ⟨e, q⟩ := x; exact ⟨k _ _ (.inl rfl) e, ih q⟩
  | tbl ps =>
    have e : h.get? a = some { cls := .none, data := .fields ps } := x
    show h'.get? a = some { cls := .none, data := .fields ps }
    exact k a _ (.inl rfl) e
  | met f y =>
    have e : h.get? a = some (PySem.W.methodObj (.ref f) (.ref y)) := x
    show h'.get? a = some (PySem.W.methodObj (.ref f) (.ref y))
    exact k a _ (.inl rfl) e
  | ext φ => obtain ⟨p, ⟨o, e⟩, st⟩ := x; exact ⟨st _ _ p fun o q => k _ _ (.inl rfl) q, ⟨o, k _ _ (.inl rfl) e⟩, st⟩
theorem HOk.lt (x : HOk P w H h) (e : H a = some o) : a < h.objs.size := (x a o e).lt
theorem HOk.fresh (x : HOk P w H h) (e : h.objs.size ≤ a) : H a = none := by
  cases q : H a with
  | none => rfl
  | some u => exact absurd (Nat.lt_of_lt_of_le (x.lt q) e) (Nat.lt_irrefl _)
/-- every object of the heap is kept -/
theorem HOk.kept (x : HOk P w H h) (k : ∀ b u, h.get? b = some u → h'.get? b = some u) : HOk P w H h' := fun a o e =>
  (x a o e).stay (fun b u _ q => k b u q) (fun _ q => q) fun _ _ q => q
/-- a new object is laid and tracked -/
theorem HOk.laid (x : HOk P w H h) (k : ∀ b u, h.get? b = some u → h'.get? b = some u) (hp : h.objs.size ≤ a) (new : ObjOk P w (upd H a o) h' a o) : HOk P w (upd H a o) h' := fun b u e => by
  have hn := x.fresh hp
  by_cases hb : b = a
  · subst hb; rw [upd_same] at e; cases e; exact new
  · rw [upd_ne hb] at e
    exact (x b u e).stay (fun c v _ q => k c v q) (fun c q => by rw [upd_ne (ne_of_none q hn)]; exact q) fun c xs q => by rw [upd_ne (ne_of_none q hn)]; exact q
end
/-- what may be read as u: it is u, or a known u -/
def Rd (H : Hp) (a : Addr) (u : HO) : Prop := H a = some u ∨ ∃ o, H a = some (.frz o u)
theorem Rd.of {H : Hp} {a : Addr} {u : HO} (h : H a = some u) : Rd H a u := .inl h
theorem Rd.ok {P : Program} {w : World} {H : Hp} {h : Heap} {a : Addr} {u : HO} (r : Rd H a u) (x : HOk P w H h) : ObjOk P w H h a u := by
  rcases r with r | ⟨o, r⟩
  · exact x a u r
  · obtain ⟨_, q⟩ := x a _ r
    exact q
/-- what may be written -/
def Mut : Option HO → Prop
  | some (.lst _) => True
  | some (.dK _) => True
  | some (.dT _) => True
  | some (.set _ _) => True
  | some (.ins _ _ _) => True
  | some (.ext _) => True
  | _ => False
section
variable {P : Program} {w : World} {H : Hp} {h h' : Heap} {x e : Addr} {o' : HO}
/-- the object at e is changed: x itself, or the dict of the instance x -/
theorem HOk.write (ok : HOk P w H h) (mu : Mut (H x)) (he : e = x ∨ H e = some (.own x)) (k : ∀ b u, b ≠ e → h.get? b = some u → h'.get? b = some u) (heo : ∃ u, h'.get? e = some u)
    (new : ObjOk P w (upd H x o') h' x o') : HOk P w (upd H x o') h' := fun b u q => by
  have nown : ∀ c y, H c = some (.own y) → c ≠ x := fun c y r z => by subst z; rw [r] at mu; exact mu
  have ntup : ∀ c xs, H c = some (.tup xs) → c ≠ x := fun c xs r z => by subst z; rw [r] at mu; exact mu
  by_cases hb : b = x
  · subst hb; rw [upd_same] at q; cases q; exact new
  · rw [upd_ne hb] at q
    by_cases hbe : b = e
    · have q' : H b = some (.own x) := by
        rcases he with z | z
        · exact absurd (hbe.trans z) hb
        · rw [hbe]; exact z
      rw [q] at q'; cases q'
      obtain ⟨v, hv⟩ := heo
      exact ⟨v, by rw [hbe]; exact hv⟩
    · refine (ok b u q).stay (fun c v hc r => k c v ?_ r) (fun c r => by rw [upd_ne (nown c b r)]; exact r) fun c xs r => by rw [upd_ne (ntup c xs r)]; exact r
      rcases hc with rfl | hc
      · exact hbe
      · rintro rfl
        rcases he with z | z
        · exact nown c b hc z
        · rw [hc] at z; cases z; exact hb rfl
end
/-! ### kept unless tracked; of the frames at fs (the callers') the slots may change (an exception that passes writes there); of the records at ex (iterators) nothing is said -/
structure Un (fs ex : List Addr) (H H' : Hp) (h h' : Heap) : Prop where
  keep : ∀ b o, h.get? b = some o → H b = none → b ∉ fs → b ∉ ex → h'.get? b = some o
  slot : ∀ b o, h.get? b = some o → H b = none → b ∈ fs → b ∉ ex → ∃ sl, h'.get? b = some { o with slots := sl }
  free : ∀ b o, h.get? b = some o → H b = none → b ∉ ex → H' b = none
  there : ∀ b o, h.get? b = some o → b ∉ ex → ∃ o', h'.get? b = some o'
  tups : ∀ b xs, H b = some (.tup xs) → H' b = some (.tup xs)
  frzs : ∀ b o u, H b = some (.frz o u) → H' b = some (.frz o u)
  tbls : ∀ b ps, H b = some (.tbl ps) → ∃ more, H' b = some (.tbl (ps ++ more))
section
variable {fs fs' ex ex' : List Addr} {H H1 H2 : Hp} {h h1 h2 h' : Heap} {a x e : Addr} {o : HO}
theorem Un.any (u : Un fs ex H H1 h h1) {b : Addr} {ob : Obj} (q : h.get? b = some ob) (n : H b = none) (hx : b ∉ ex) : ∃ sl, h1.get? b = some { ob with slots := sl } := by
  by_cases hb : b ∈ fs
  · exact u.slot b ob q n hb hx
  · exact ⟨ob.slots, u.keep b ob q n hb hx⟩
theorem Un.trans (a : Un fs ex H H1 h h1) (b : Un fs ex H1 H2 h1 h2) : Un fs ex H H2 h h2 where
  keep := fun c ob q n hc hx => b.keep c ob (a.keep c ob q n hc hx) (a.free c ob q n hx) hc hx
  slot := fun c ob q n hc hx => by
    obtain ⟨sl, e1⟩ := a.slot c ob q n hc hx
    obtain ⟨sl', e2⟩ := b.slot c _ e1 (a.free c ob q n hx) hc hx
    exact ⟨sl', e2⟩
  free := fun c ob q n hx => by
    obtain ⟨o', e1⟩ := a.there c ob q hx
    exact b.free c o' e1 (a.free c ob q n hx) hx
  there := fun c ob q hx => by
    obtain ⟨o', e1⟩ := a.there c ob q hx
    exact b.there c o' e1 hx
  tups := fun c xs q => b.tups c xs (a.tups c xs q)
  frzs := fun c ob xs q => b.frzs c ob xs (a.frzs c ob xs q)
  tbls := fun c ps q => by
    obtain ⟨m1, e1⟩ := a.tbls c ps q
    obtain ⟨m2, e2⟩ := b.tbls c _ e1
    exact ⟨m1 ++ m2, by rw [e2, Array.append_assoc]⟩
theorem Un.kept (k : ∀ b u, h.get? b = some u → h'.get? b = some u) : Un fs ex H H h h' :=
  ⟨fun b ob q _ _ _ => k b ob q, fun b ob q _ _ _ => ⟨ob.slots, k b ob q⟩, fun _ _ _ n _ => n, fun b ob q _ => ⟨ob, k b ob q⟩, fun _ _ q => q, fun _ _ _ q => q, fun _ ps q => ⟨#[], by rw [q]; simp⟩⟩
theorem Un.refl : Un fs ex H H h h := Un.kept fun _ _ q => q
theorem Un.laid (k : ∀ b u, h.get? b = some u → h'.get? b = some u) (hp : h.objs.size ≤ a) (hn : H a = none) : Un fs ex H (upd H a o) h h' where
  keep := fun b u q _ _ _ => k b u q
  slot := fun b u q _ _ _ => ⟨u.slots, k b u q⟩
  free := fun b u q n _ => by rw [upd_ne (Nat.ne_of_lt (Nat.lt_of_lt_of_le (Heap.lt_size q) hp))]; exact n
  there := fun b u q _ => ⟨u, k b u q⟩
  tups := fun b xs q => by rw [upd_ne (ne_of_none q hn)]; exact q
  frzs := fun b u xs q => by rw [upd_ne (ne_of_none q hn)]; exact q
  tbls := fun b ps q => ⟨#[], by rw [upd_ne (ne_of_none q hn), q]; simp⟩
theorem Un.write (mu : Mut (H x)) (he : e = x ∨ H e = some (.own x)) (k : ∀ b u, b ≠ e → h.get? b = some u → h'.get? b = some u) (heo : ∃ u, h'.get? e = some u) : Un fs ex H (upd H x o) h h' := by
  have hx : ∀ b, H b = none → b ≠ x := fun b n z => by subst z; rw [n] at mu; exact mu
  have hb : ∀ b, H b = none → b ≠ e := fun b n z => by
    subst z
    rcases he with r | r
    · exact hx b n r
    · rw [n] at r; cases r
  have hm : ∀ b u, H b = some u → ¬ Mut (some u) → b ≠ x := fun b u q nm z => by subst z; rw [q] at mu; exact nm mu
  refine ⟨fun b u q n _ _ => k b u (hb b n) q, fun b u q n _ _ => ⟨u.slots, k b u (hb b n) q⟩, fun b u q n _ => by rw [upd_ne (hx b n)]; exact n, fun b u q _ => ?_,
    fun b xs q => by rw [upd_ne (hm b _ q fun z => z)]; exact q, fun b u xs q => by rw [upd_ne (hm b _ q fun z => z)]; exact q, fun b ps q => ⟨#[], by rw [upd_ne (hm b _ q fun z => z), q]; simp⟩⟩
  by_cases hbe : b = e
  · subst hbe; exact heo
  · exact ⟨u, k b u hbe q⟩
theorem Un.mono (u : Un fs ex H H1 h h1) (hs : ∀ b ∈ fs, b ∈ fs') (hx : ∀ b ∈ ex, b ∈ ex') : Un fs' ex' H H1 h h1 :=
  ⟨fun b ob q n hb he => u.keep b ob q n (fun z => hb (hs b z)) fun z => he (hx b z), fun _ _ q n _ he => u.any q n fun z => he (hx _ z), fun b ob q n he => u.free b ob q n fun z => he (hx b z), fun b ob q he => u.there b ob q fun z => he (hx b z), u.tups, u.frzs, u.tbls⟩
end
/-! ### the heap without what is tracked -/
def trk (h : Heap) (H : Hp) : List Addr := (List.range h.objs.size).filter fun a => (H a).isSome
def hidT (h : Heap) (H : Hp) : Heap := PySem.W.hideAll h (trk h H)
theorem hidT_size (h : Heap) (H : Hp) : (hidT h H).objs.size = h.objs.size := PySem.W.hideAll_size _ _
theorem hidT_get {h : Heap} {H : Hp} {b : Addr} {o : Obj} (e : h.get? b = some o) (n : H b = none) : (hidT h H).get? b = some o :=
  PySem.W.hideAll_get _ e fun hm => by
    have q : (H b).isSome = true := (List.mem_filter.mp hm).2
    rw [n] at q; simp at q
theorem of_hidT {h : Heap} {H : Hp} {b : Addr} {o : Obj} (e : (hidT h H).get? b = some o) : h.get? b = some o ∧ H b = none := by
  have e' : h.get? b = some o := PySem.W.of_hideAll (trk h H) e
  refine ⟨e', ?_⟩
  cases q : H b with
  | none => rfl
  | some x =>
    have hm : b ∈ trk h H := List.mem_filter.mpr ⟨List.mem_range.mpr (Heap.lt_size e'), by simp [q]⟩
    have z : (hidT h H).get? b = none := PySem.W.hideAll_none (trk h H) hm
    rw [z] at e; cases e

/-! ### OpenK's ledger, filled with every new object but one -/
def allNews (g h : Heap) (L : Addr) : List (Addr × Obj) := (List.range h.objs.size).filterMap fun a => if a = L ∨ (g.get? a).isSome = true then none else (h.get? a).map fun o => (a, o)
def rest (g h : Heap) (L d : Addr) : List (Addr × Obj) := (allNews g h L).filter fun p => decide (p.1 ≠ d)
end L2
namespace L2
open PySem PySem.Spec PyProof.Rows
/-- the module's facts, over the base: the heap at the law's entry without what is tracked there -/
structure Mod (K : PySem.W.Frag) (mg : Str → Option Value) (base : Heap) : Prop where
  kin : K.In base
  glob : base.Ns mainGlobals mg
  blt : ∃ mb, base.Ns builtinsNs mb ∧ ∀ x : Str, x ≠ "__name__" → mb x = bootBuiltins x
  nolimit : base.NoLimit

/-- the context: a def's body (or a comprehension's block) running. base: fixed through the whole law; s₀, H₀: the entry; outer: the frames whose slots others may change (a def's callers); stack: all frames that run;
   ex: iterators that were made ahead of the entry and are walked here (a comprehension's); fn: the names whose cells were made at the entry (a def: all; a comprehension's block: its own); calm: not within an except suite; pn: pins that every state bears; xe: what is wanted of an exception that leaves the code -/
structure Cx where
  prog : Program
  w : World
  K : PySem.W.Frag
  mg : Str → Option Value
  base : Heap
  A : Around
  N : List Str
  s₀ : Shared
  H₀ : Hp
  env : Env
  outer : List Env
  stack : List Env
  ex : List Addr
  fn : Str → Bool
  calm : Bool
  pn : List (Addr × Obj)
  xe : Value → Shared → Prop
/-- the callers' frames -/
def frs (l : List Env) : List Addr := l.filterMap (·.frame)
abbrev Cx.fs (X : Cx) : List Addr := frs X.outer

def Vis (sc : Scope) (x : Str) : Prop := sc.names.lookup x = some .local ∨ sc.names.lookup x = some .cell ∨ sc.names.lookup x = some .free
def Loc (sc : Scope) (x : Str) : Prop := sc.names.lookup x = some .local ∨ sc.names.lookup x = some .cell
def Look (env : Env) (h : Heap) (m : Str → Option Value) (x : Str) (u : Value) : Prop :=
  (env.kindOf x = some .local ∧ m x = some u) ∨ ((env.kindOf x = some .cell ∨ env.kindOf x = some .free) ∧ ∃ c, env.cells.lookup x = some c ∧ h.IsCell c (some u))

structure Cx.Ok (X : Cx) : Prop where
  mod : Mod X.K X.mg X.base
  kind : X.env.scope.kind = .function
  glob : X.env.globals = mainGlobals
  blt : X.env.builtins = builtinsNs
  above : X.s₀.heap.objs.size ≤ X.env.locals
  inj : ∀ x y c, X.env.cells.lookup x = some c → X.env.cells.lookup y = some c → x = y
  has : ∀ x, (X.env.kindOf x = some .cell ∨ X.env.kindOf x = some .free) → ∃ c, X.env.cells.lookup x = some c
  cab : ∀ x c, X.fn x = true → X.env.cells.lookup x = some c → X.s₀.heap.objs.size ≤ c
  hd : X.calm = true → X.A.handled = none
  frames : X.A.frames = some X.stack
  stk : X.stack = X.outer ∨ (X.stack = X.env :: X.outer ∧ X.env.frame = some X.env.locals)
  exf : ∀ b ∈ X.ex, b ≠ X.env.locals ∧ ∀ x c, X.env.cells.lookup x = some c → c ≠ b
  bs : ∀ b o, X.base.get? b = some o → X.s₀.heap.get? b = some o ∧ X.H₀ b = none
  bsz : X.base.objs.size ≤ X.s₀.heap.objs.size
  noex : ∀ b o, X.base.get? b = some o → b ∉ X.ex
  exfs : ∀ b ∈ X.ex, b ∉ X.fs
  funs : X.s₀.heap.FunFrames X.base X.outer
  frf : ∀ b ∈ X.fs, X.H₀ b = none

structure Inv (X : Cx) (pins : List (Addr × Obj)) (σ : List (Option V)) (H : Hp) (s : Shared) : Prop where
  ok : X.Ok
  os : s.os = X.s₀.os
  bare : AllBare s.gens
  base : Un X.fs X.ex X.H₀ H X.s₀.heap s.heap
  loc : ∃ m, s.heap.Ns X.env.locals m ∧ ∀ (i : Nat) (x : Str) (v : V), X.N[i]? = some x → σ[i]? = some (some v) → Vis X.env.scope x → ∃ u, RelV v u ∧ Look X.env s.heap m x u
  cell : ∀ x c, X.env.cells.lookup x = some c → ∃ v, s.heap.IsCell c v
  free : H X.env.locals = none
  freeC : ∀ x c, X.env.cells.lookup x = some c → H c = none
  pin : ∀ p ∈ X.pn ++ pins, s.heap.get? p.1 = some p.2 ∧ H p.1 = none ∧ p.1 ≠ X.env.locals ∧ p.1 ∉ X.fs ∧ ∀ v, p.2.data ≠ .cell v
  hok : HOk X.prog X.w H s.heap
  len : σ.length = X.N.length

section
variable {X : Cx} {pins : List (Addr × Obj)} {σ : List (Option V)} {H H' : Hp} {s : Shared} {h' : Heap}
theorem Cx.Ok.nofr (ok : X.Ok) {b : Addr} {o : Obj} (e : X.base.get? b = some o) : b ∉ X.fs := fun hb => by
  have := (ok.funs.mem hb).1
  rw [e] at this; cases this
theorem Inv.bs (I : Inv X pins σ H s) : ∀ b o, X.base.get? b = some o → s.heap.get? b = some o ∧ H b = none := fun b o e =>
  ⟨I.base.keep b o (I.ok.bs b o e).1 (I.ok.bs b o e).2 (I.ok.nofr e) (I.ok.noex b o e), I.base.free b o (I.ok.bs b o e).1 (I.ok.bs b o e).2 (I.ok.noex b o e)⟩
theorem Inv.bk (I : Inv X pins σ H s) : ∀ b o, X.base.get? b = some o → s.heap.get? b = some o := fun b o e => (I.bs b o e).1
theorem Inv.mod (I : Inv X pins σ H s) : Mod X.K X.mg X.base := I.ok.mod
theorem Inv.kIn (I : Inv X pins σ H s) : X.K.In s.heap := I.ok.mod.kin.keeps I.bk
theorem Inv.nolimit (I : Inv X pins σ H s) : s.heap.NoLimit := I.ok.mod.nolimit.keeps I.bk
theorem Inv.lt (I : Inv X pins σ H s) : X.env.locals < s.heap.objs.size := let ⟨_, hn, _⟩ := I.loc; hn.lt
theorem Inv.sz (I : Inv X pins σ H s) : X.s₀.heap.objs.size ≤ s.heap.objs.size := Nat.le_trans I.ok.above (Nat.le_of_lt I.lt)
theorem Inv.nofs (I : Inv X pins σ H s) {a : Addr} (h : s.heap.objs.size ≤ a) : a ∉ X.fs := fun hb => by
  obtain ⟨_, o, ho, _⟩ := I.ok.funs.mem hb
  exact absurd (Nat.lt_of_lt_of_le (Heap.lt_size ho) (Nat.le_trans I.sz h)) (Nat.lt_irrefl _)
theorem Inv.cne (I : Inv X pins σ H s) : ∀ x c, X.env.cells.lookup x = some c → c ≠ X.env.locals := fun x c e z => by
  obtain ⟨v, o, ho, hd⟩ := I.cell x c e
  obtain ⟨m, ⟨o', es, ep, ho', hd', _⟩, _⟩ := I.loc
  rw [z, ho'] at ho; cases ho; rw [hd'] at hd; cases hd
theorem Inv.funs (I : Inv X pins σ H s) : s.heap.FunFrames X.base X.outer := by
  have all : ∀ (l : List Env), (∀ b ∈ frs l, b ∈ X.fs) → X.s₀.heap.FunFrames X.base l → s.heap.FunFrames X.base l := by
    intro l
    induction l with
    | nil => intro _ _; trivial
    | cons env r ih =>
      intro hs hl
      obtain ⟨hk, ⟨L, o, hf, hn, ho, hd⟩, hr⟩ := hl
      have hL : L ∈ X.fs := hs L (by unfold frs; rw [List.filterMap_cons, hf]; exact List.mem_cons_self)
      obtain ⟨sl, e⟩ := I.base.slot L o ho (I.ok.frf L hL) hL fun z => I.ok.exfs L z hL
      exact ⟨hk, ⟨L, _, hf, hn, e, hd⟩, ih (fun b hb => hs b (by unfold frs; rw [List.filterMap_cons, hf]; exact List.mem_cons_of_mem _ hb)) hr⟩
  exact all X.outer (fun _ hb => hb) I.ok.funs

/-- the frames that run, for a call -/
theorem Inv.stack (I : Inv X pins σ H s) : s.heap.FunFrames X.base X.stack := by
  rcases I.ok.stk with e | ⟨e, hf⟩
  · rw [e]; exact I.funs
  · rw [e]
    obtain ⟨m, hn, _⟩ := I.loc
    refine .cons (by rw [I.ok.kind]; decide) hf hn ?_ I.funs
    exact Heap.get?_none_of_le (Nat.le_trans I.ok.bsz I.ok.above)
theorem Inv.stkSub (I : Inv X pins σ H s) : ∀ b ∈ frs X.stack, b ∈ X.env.locals :: X.fs := fun b hb => by
  rcases I.ok.stk with e | ⟨e, hf⟩
  · rw [e] at hb; exact List.mem_cons_of_mem _ hb
  · rw [e] at hb
    unfold frs at hb
    rw [List.filterMap_cons, hf] at hb
    exact hb
theorem Inv.stkFree (I : Inv X pins σ H s) : ∀ b ∈ frs X.stack, H b = none := fun b hb => by
  rcases List.mem_cons.mp (I.stkSub b hb) with e | hb
  · rw [e]; exact I.free
  · obtain ⟨_, o, ho, _⟩ := I.ok.funs.mem hb
    exact I.base.free b o ho (I.ok.frf b hb) fun z => I.ok.exfs b z hb

/-- THE STEP: the untracked objects but the frame and the records at ch are kept (the callers' frames up to slots), the frame's map is kept, the new abstract heap is held -/
theorem Inv.step {g' : Array GenState} {t' : Nat} {d' : Drawn} {ch : List Addr} (I : Inv X pins σ H s)
    (hch : ∀ b ∈ ch, (b ∈ X.ex ∨ X.s₀.heap.objs.size ≤ b) ∧ b ≠ X.env.locals ∧ (∀ x c, X.env.cells.lookup x = some c → c ≠ b) ∧ ∀ p ∈ X.pn ++ pins, p.1 ≠ b)
    (keep : ∀ b o, b ≠ X.env.locals → b ∉ X.fs → b ∉ ch → s.heap.get? b = some o → H b = none → h'.get? b = some o)
    (slot : ∀ b o, b ≠ X.env.locals → b ∈ X.fs → b ∉ ch → s.heap.get? b = some o → H b = none → ∃ sl, h'.get? b = some { o with slots := sl }) (free : ∀ b o, b ∉ ch → s.heap.get? b = some o → H b = none → H' b = none)
    (there : ∀ b o, b ∉ ch → s.heap.get? b = some o → ∃ o', h'.get? b = some o')
    (tups : ∀ b xs, H b = some (.tup xs) → H' b = some (.tup xs)) (frzs : ∀ b o u, H b = some (.frz o u) → H' b = some (.frz o u)) (tbls : ∀ b ps, H b = some (.tbl ps) → ∃ more, H' b = some (.tbl (ps ++ more)))
    (ns : ∀ m, s.heap.Ns X.env.locals m → h'.Ns X.env.locals m) (hok : HOk X.prog X.w H' h') (hg : AllBare g') :
    Inv X pins σ H' { s with heap := h', gens := g', drawn := d', toks := t' } := by
  have neL : ∀ b o, X.s₀.heap.get? b = some o → b ≠ X.env.locals := fun b o e => Nat.ne_of_lt (Nat.lt_of_lt_of_le (Heap.lt_size e) I.ok.above)
  have neC : ∀ b o, X.s₀.heap.get? b = some o → b ∉ X.ex → b ∉ ch := fun b o e hx hb => by
    rcases (hch b hb).1 with z | z
    · exact hx z
    · exact absurd (Nat.lt_of_lt_of_le (Heap.lt_size e) z) (Nat.lt_irrefl _)
  have cellK : ∀ x c, X.env.cells.lookup x = some c → ∀ v, s.heap.IsCell c v → h'.IsCell c v := fun x c e v ⟨o, ho, hd⟩ => by
    have nch : c ∉ ch := fun z => (hch c z).2.2.1 x c e rfl
    by_cases hc : c ∈ X.fs
    · obtain ⟨sl, q⟩ := slot c o (I.cne x c e) hc nch ho (I.freeC x c e)
      exact ⟨_, q, hd⟩
    · exact ⟨o, keep c o (I.cne x c e) hc nch ho (I.freeC x c e), hd⟩
  refine ⟨I.ok, I.os, hg, ⟨fun b o e n hb hx => ?_, fun b o e n hb hx => ?_, fun b o e n hx => ?_, fun b o e hx => ?_, fun b xs e => tups b xs (I.base.tups b xs e), fun b o xs e => frzs b o xs (I.base.frzs b o xs e), fun b ps e => ?_⟩, ?_, fun x c e => ?_, ?_, fun x c e => ?_, fun p hp => ?_, hok, I.len⟩
  · exact keep b o (neL b o e) hb (neC b o e hx) (I.base.keep b o e n hb hx) (I.base.free b o e n hx)
  · obtain ⟨sl, e1⟩ := I.base.slot b o e n hb hx
    obtain ⟨sl', e2⟩ := slot b _ (neL b o e) hb (neC b o e hx) e1 (I.base.free b o e n hx)
    exact ⟨sl', e2⟩
  · obtain ⟨o', e1⟩ := I.base.there b o e hx
    exact free b o' (neC b o e hx) e1 (I.base.free b o e n hx)
  · obtain ⟨o', e1⟩ := I.base.there b o e hx
    exact there b o' (neC b o e hx) e1
  · obtain ⟨m1, e1⟩ := I.base.tbls b ps e
    obtain ⟨m2, e2⟩ := tbls b _ e1
    exact ⟨m1 ++ m2, by rw [e2, Array.append_assoc]⟩
  · obtain ⟨m, hn, hl⟩ := I.loc
    refine ⟨m, ns m hn, fun i x v e1 e2 e3 => ?_⟩
    obtain ⟨u, r, l⟩ := hl i x v e1 e2 e3
    refine ⟨u, r, ?_⟩
    rcases l with l | ⟨k, c, e, z⟩
    · exact .inl l
    · exact .inr ⟨k, c, e, cellK x c e _ z⟩
  · obtain ⟨v, z⟩ := I.cell x c e
    exact ⟨v, cellK x c e v z⟩
  · obtain ⟨m, ⟨o, _, _, ho, _⟩, _⟩ := I.loc
    exact free _ o (fun z => (hch _ z).2.1 rfl) ho I.free
  · obtain ⟨v, o, ho, hd⟩ := I.cell x c e
    exact free c o (fun z => (hch c z).2.2.1 x c e rfl) ho (I.freeC x c e)
  · obtain ⟨e, n, ne, nf, d⟩ := I.pin p hp
    have nch : p.1 ∉ ch := fun z => (hch p.1 z).2.2.2 p hp rfl
    exact ⟨keep p.1 p.2 ne nf nch e n, free p.1 p.2 nch e n, ne, nf, d⟩
/-- .. where the frame's own object is kept too -/
theorem Inv.un {t' : Nat} (I : Inv X pins σ H s) (u : Un X.fs [] H H' s.heap h') (hok : HOk X.prog X.w H' h') : Inv X pins σ H' { s with heap := h', toks := t' } := by
  obtain ⟨m, ⟨o, es, ep, ho, r⟩, _⟩ := id I.loc
  obtain ⟨sl, hL⟩ := u.any ho I.free (by simp)
  exact I.step (g' := s.gens) (d' := s.drawn) (ch := []) (fun _ z => nomatch z) (fun b o _ hb _ e n => u.keep b o e n hb (by simp)) (fun b o _ hb _ e n => u.slot b o e n hb (by simp)) (fun b o _ e n => u.free b o e n (by simp)) (fun b o _ e => u.there b o e (by simp)) u.tups u.frzs u.tbls (fun m' hm => by
    obtain ⟨o', es', ep', ho', r'⟩ := hm
    rw [ho] at ho'; cases ho'
    exact ⟨_, es', ep', hL, r'⟩) hok I.bare
/-- behind a call (or a comprehension's block): the slots of this frame may have changed too, the records at ch may have turned -/
theorem Inv.call {g' : Array GenState} {t' : Nat} {d' : Drawn} {ch : List Addr} (I : Inv X pins σ H s) (u : Un (frs X.stack) ch H H' s.heap h') (hok : HOk X.prog X.w H' h') (hg : AllBare g')
    (hch : ∀ b ∈ ch, (b ∈ X.ex ∨ X.s₀.heap.objs.size ≤ b) ∧ b ≠ X.env.locals ∧ (∀ x c, X.env.cells.lookup x = some c → c ≠ b) ∧ ∀ p ∈ X.pn ++ pins, p.1 ≠ b) :
    Inv X pins σ H' { s with heap := h', gens := g', drawn := d', toks := t' } := by
  obtain ⟨m, ⟨o, es, ep, ho, r⟩, _⟩ := id I.loc
  obtain ⟨sl, hL⟩ := u.any ho I.free fun z => (hch _ z).2.1 rfl
  exact I.step (ch := ch) hch (fun b o hL hb hc e n => u.keep b o e n (fun z => (List.mem_cons.mp (I.stkSub b z)).elim hL hb) hc) (fun b o _ _ hc e n => u.any e n hc) (fun b o hc e n => u.free b o e n hc) (fun b o hc e => u.there b o e hc) u.tups u.frzs u.tbls (fun m' hm => by
    obtain ⟨o', es', ep', ho', r'⟩ := hm
    rw [ho] at ho'; cases ho'
    exact ⟨_, es', ep', hL, r'⟩) hok hg
/-- an untracked record of ours (an iterator) has turned -/
theorem Inv.turned {t' : Nat} {it : Addr} (I : Inv X pins σ H s) (k : ∀ b o, b ≠ it → s.heap.get? b = some o → h'.get? b = some o) (hn : H it = none) (hL : it ≠ X.env.locals)
    (h1 : it ∈ X.ex ∨ X.s₀.heap.objs.size ≤ it) (h2 : ∀ x c, X.env.cells.lookup x = some c → c ≠ it) (h3 : ∀ p ∈ X.pn ++ pins, p.1 ≠ it) : Inv X pins σ H { s with heap := h', toks := t' } := by
  have nit : ∀ b u, H b = some u → b ≠ it := fun b u e z => by rw [z, hn] at e; cases e
  refine I.step (g' := s.gens) (d' := s.drawn) (ch := [it]) (fun b hb => ?_) (fun b o _ _ hc e _ => k b o (fun z => hc (by simp [z])) e) (fun b o _ _ hc e _ => ⟨o.slots, k b o (fun z => hc (by simp [z])) e⟩) (fun _ _ _ _ n => n)
    (fun b o hc e => ⟨o, k b o (fun z => hc (by simp [z])) e⟩) (fun _ _ e => e) (fun _ _ _ e => e) (fun b ps e => ⟨#[], by rw [e]; simp⟩) (fun m hm => ?_) (fun b u e => ?_) I.bare
  · have e : b = it := by simpa using hb
    subst e
    exact ⟨h1, hL, h2, h3⟩
  · obtain ⟨o, es, ep, ho, r⟩ := hm
    exact ⟨o, es, ep, k _ o (Ne.symm hL) ho, r⟩
  · refine (I.hok b u e).stay (fun c v hc q => k c v ?_ q) (fun _ q => q) fun _ _ q => q
    rcases hc with z | z
    · rw [z]; exact nit b u e
    · exact nit c _ z
theorem Inv.tok (I : Inv X pins σ H s) (t : Nat) : Inv X pins σ H { s with toks := t } := I.un (h' := s.heap) (t' := t) Un.refl I.hok
/-- all objects kept -/
theorem Inv.kept {t' : Nat} (I : Inv X pins σ H s) (k : ∀ b u, s.heap.get? b = some u → h'.get? b = some u) : Inv X pins σ H { s with heap := h', toks := t' } := I.un (Un.kept k) (I.hok.kept k)
/-- a new object laid and tracked -/
theorem Inv.laid {a : Addr} {o : HO} {t' : Nat} (I : Inv X pins σ H s) (k : ∀ b u, s.heap.get? b = some u → h'.get? b = some u) (hp : s.heap.objs.size ≤ a) (new : ObjOk X.prog X.w (upd H a o) h' a o) :
    Inv X pins σ (upd H a o) { s with heap := h', toks := t' } := I.un (Un.laid k hp (I.hok.fresh hp)) (I.hok.laid k hp new)
/-- an object written -/
theorem Inv.write {x e : Addr} {o : HO} {t' : Nat} (I : Inv X pins σ H s) (mu : Mut (H x)) (he : e = x ∨ H e = some (.own x)) (k : ∀ b u, b ≠ e → s.heap.get? b = some u → h'.get? b = some u) (heo : ∃ u, h'.get? e = some u)
    (new : ObjOk X.prog X.w (upd H x o) h' x o) : Inv X pins σ (upd H x o) { s with heap := h', toks := t' } := I.un (Un.write mu he k heo) (I.hok.write mu he k heo new)
theorem Inv.pins_of {pins' : List (Addr × Obj)} (I : Inv X pins σ H s) (h : ∀ p ∈ pins', s.heap.get? p.1 = some p.2 ∧ H p.1 = none ∧ p.1 ≠ X.env.locals ∧ p.1 ∉ X.fs ∧ ∀ v, p.2.data ≠ .cell v) : Inv X pins' σ H s :=
  ⟨I.ok, I.os, I.bare, I.base, I.loc, I.cell, I.free, I.freeC, fun p hp => (List.mem_append.mp hp).elim (fun z => I.pin p (List.mem_append_left _ z)) (h p), I.hok, I.len⟩

theorem nodup_ix {N : List Str} (hN : N.Nodup) {i j : Nat} {x : Str} (a : N[i]? = some x) (b : N[j]? = some x) : i = j := by
  obtain ⟨h1, e1⟩ := List.getElem?_eq_some_iff.mp a
  obtain ⟨h2, e2⟩ := List.getElem?_eq_some_iff.mp b
  exact (List.getElem_inj hN).mp (e1.trans e2.symm)

/-- a name is stored; what changed -/
theorem store_ok2 {M : Model} {A : Around} {E : Value → Shared → Prop} {i : Nat} {x : Str} {v : V} {u : Value} {Q : Unit → Shared → Prop} (I : Inv X pins σ H s) (hN : X.N.Nodup) (hi : X.N[i]? = some x) (hx : Loc X.env.scope x) (r : RelV v u)
    (h : ∀ s', Inv X pins (σ.set i (some v)) H s' → (∃ a, Heap.SameBut a s.heap s'.heap ∧ (a = X.env.locals ∨ X.env.cells.lookup x = some a)) → Q () s') (hf : X.fn x = true ∨ X.env.scope.names.lookup x = some .local := by first | exact .inl rfl | exact .inr rfl | assumption) : wpAny M A (storeName X.env x u) Q E s := by
  obtain ⟨m, hn, hl⟩ := id I.loc
  have hcls : (X.env.scope.kind == .class || (X.env.scope.kind == .module && X.env.locals != X.env.globals)) = false := by rw [I.ok.kind]; rfl
  have hiσ : i < σ.length := by rw [I.len]; exact (List.getElem?_eq_some_iff.mp hi).1
  have cne := I.cne
  have tracked : ∀ {a : Addr} {h' : Heap}, (∃ o, s.heap.get? a = some o ∧ H a = none) → Heap.SameBut a s.heap h' → HOk X.prog X.w H h' := fun {a h'} ha hs b ob e => by
    obtain ⟨_, _, hfree⟩ := ha
    refine (I.hok b ob e).stay (fun c w' hc q => (hs.2 c ?_).trans q) (fun _ q => q) fun _ _ q => q
    rintro rfl
    rcases hc with rfl | hc
    · rw [hfree] at e; cases e
    · rw [hfree] at hc; cases hc
  rcases hx with hk | hk
  · refine wpAny_storeName_local hk hn (fun h' hn' hs => ?_) hcls
    obtain ⟨oL, _, _, hoL, _⟩ := id hn
    refine h _ ⟨I.ok, I.os, I.bare, ⟨fun b o e n hb hx => ?_, fun b o e n hb hx => ?_, I.base.free, fun b o e hx => ?_, I.base.tups, I.base.frzs, I.base.tbls⟩, ⟨_, hn', fun j y v' e1 e2 e3 => ?_⟩, fun y c e => ?_, I.free, I.freeC, fun p hp => ?_, tracked ⟨oL, hoL, I.free⟩ hs, by simpa using I.len⟩ ⟨_, hs, .inl rfl⟩
    · exact (hs.2 b (Nat.ne_of_lt (Nat.lt_of_lt_of_le (Heap.lt_size e) I.ok.above))).trans (I.base.keep b o e n hb hx)
    · obtain ⟨sl, e1⟩ := I.base.slot b o e n hb hx
      exact ⟨sl, (hs.2 b (Nat.ne_of_lt (Nat.lt_of_lt_of_le (Heap.lt_size e) I.ok.above))).trans e1⟩
    · obtain ⟨o', e1⟩ := I.base.there b o e hx
      exact ⟨o', (hs.2 b (Nat.ne_of_lt (Nat.lt_of_lt_of_le (Heap.lt_size e) I.ok.above))).trans e1⟩
    · by_cases hj : j = i
      · subst hj
        rw [hi] at e1; cases e1
        rw [List.getElem?_set_self hiσ] at e2
        cases e2
        exact ⟨u, r, .inl ⟨hk, by simp⟩⟩
      · rw [List.getElem?_set_ne (Ne.symm hj)] at e2
        obtain ⟨u', r', q⟩ := hl j y v' e1 e2 e3
        refine ⟨u', r', ?_⟩
        rcases q with ⟨k, e⟩ | ⟨k, c, e, z⟩
        · refine .inl ⟨k, ?_⟩
          have : y ≠ x := fun e => hj (nodup_ix hN e1 (e ▸ hi))
          simp [this, e]
        · exact .inr ⟨k, c, e, z.sameBut hs (cne y c e)⟩
    · obtain ⟨w', z⟩ := I.cell y c e
      exact ⟨w', z.sameBut hs (cne y c e)⟩
    · obtain ⟨e, n, ne, nf, d⟩ := I.pin p hp
      exact ⟨(hs.2 p.1 ne).trans e, n, ne, nf, d⟩
  · have hfn : X.fn x = true := by
      rcases hf with z | z
      · exact z
      · rw [z] at hk; cases hk
    obtain ⟨c, hc⟩ := I.ok.has x (.inl hk)
    obtain ⟨w', z⟩ := I.cell x c hc
    refine wpAny_storeName_cell I.ok.kind hk hc z (fun h' hc' hs => ?_)
    obtain ⟨oc, hoc, hocd⟩ := id z
    refine h { s with heap := h' } ⟨I.ok, I.os, I.bare, ⟨fun b o e n hb hx => ?_, fun b o e n hb hx => ?_, I.base.free, fun b o e hx => ?_, I.base.tups, I.base.frzs, I.base.tbls⟩, ⟨m, hn.sameBut hs (Ne.symm (cne x c hc)), fun j y v' e1 e2 e3 => ?_⟩, fun y c' e => ?_, I.free, I.freeC, fun p hp => ?_, tracked ⟨oc, hoc, I.freeC x c hc⟩ hs, by simpa using I.len⟩ ⟨c, hs, .inr hc⟩
    · exact (hs.2 b (Nat.ne_of_lt (Nat.lt_of_lt_of_le (Heap.lt_size e) (I.ok.cab x c hfn hc)))).trans (I.base.keep b o e n hb hx)
    · obtain ⟨sl, e1⟩ := I.base.slot b o e n hb hx
      exact ⟨sl, (hs.2 b (Nat.ne_of_lt (Nat.lt_of_lt_of_le (Heap.lt_size e) (I.ok.cab x c hfn hc)))).trans e1⟩
    · obtain ⟨o', e1⟩ := I.base.there b o e hx
      exact ⟨o', (hs.2 b (Nat.ne_of_lt (Nat.lt_of_lt_of_le (Heap.lt_size e) (I.ok.cab x c hfn hc)))).trans e1⟩
    · by_cases hj : j = i
      · subst hj
        rw [hi] at e1; cases e1
        rw [List.getElem?_set_self hiσ] at e2
        cases e2
        exact ⟨u, r, .inr ⟨.inl hk, c, hc, hc'⟩⟩
      · rw [List.getElem?_set_ne (Ne.symm hj)] at e2
        obtain ⟨u', r', q⟩ := hl j y v' e1 e2 e3
        refine ⟨u', r', ?_⟩
        rcases q with q | ⟨k, c', e, z'⟩
        · exact .inl q
        · refine .inr ⟨k, c', e, z'.sameBut hs ?_⟩
          rintro rfl
          exact hj (nodup_ix hN e1 (I.ok.inj _ _ _ e hc ▸ hi))
    · by_cases hcc : c' = c
      · subst hcc; exact ⟨_, hc'⟩
      · obtain ⟨w2, z2⟩ := I.cell y c' e
        exact ⟨w2, z2.sameBut hs hcc⟩
    · obtain ⟨e, n, ne, nf, d⟩ := I.pin p hp
      refine ⟨(hs.2 p.1 ?_).trans e, n, ne, nf, d⟩
      intro q
      rw [q, hoc] at e
      have q' : oc = p.2 := Option.some.inj e
      exact d w' (by rw [← q']; exact hocd)
theorem store_ok {M : Model} {A : Around} {E : Value → Shared → Prop} {i : Nat} {x : Str} {v : V} {u : Value} {Q : Unit → Shared → Prop} (I : Inv X pins σ H s) (hN : X.N.Nodup) (hi : X.N[i]? = some x) (hx : Loc X.env.scope x) (r : RelV v u)
    (h : ∀ s', Inv X pins (σ.set i (some v)) H s' → Q () s') (hf : X.fn x = true ∨ X.env.scope.names.lookup x = some .local := by first | exact .inl rfl | exact .inr rfl | assumption) : wpAny M A (storeName X.env x u) Q E s :=
  store_ok2 I hN hi hx r (fun s' I' _ => h s' I') hf
/-- behind a call or a block, the state as it is -/
theorem Inv.call' {s' : Shared} {ch : List Addr} (I : Inv X pins σ H s) (ho : s'.os = s.os) (u : Un (frs X.stack) ch H H' s.heap s'.heap) (hok : HOk X.prog X.w H' s'.heap) (hg : AllBare s'.gens)
    (hch : ∀ b ∈ ch, (b ∈ X.ex ∨ X.s₀.heap.objs.size ≤ b) ∧ b ≠ X.env.locals ∧ (∀ x c, X.env.cells.lookup x = some c → c ≠ b) ∧ ∀ p ∈ X.pn ++ pins, p.1 ≠ b) : Inv X pins σ H' s' := by
  obtain ⟨h', g', d', t', o'⟩ := s'
  have e : o' = s.os := ho
  subst e
  exact I.call (g' := g') (t' := t') (d' := d') u hok hg hch
end
/-! ### the judgements -/
/-- an exception: its class, its own dict's address (where it has one), the abstract heap behind it -/
abbrev XK := Value → Option Addr → Hp → Prop
abbrev St := List (Option V)
abbrev VK := V → Hp → Prop
/-- an expression's reading; a test's; an argument list's -/
abbrev TE := St → Hp → VK → Prop
abbrev TT := St → Hp → (Bool → Hp → Prop) → Prop
abbrev TA := St → Hp → (List V → Hp → Prop) → Prop
/-- what is wanted behind a statement -/
structure Ends where
  nx : St → Hp → Prop
  rt : VK
  bk : St → Hp → Prop := fun _ _ => False
  ct : St → Hp → Prop := fun _ _ => False
abbrev TS := Ends → St → Hp → Prop

def EP (X : Cx) (pins : List (Addr × Obj)) (σ : St) (Q : VK) (u : Value) (s' : Shared) : Prop := ∃ v H', Inv X pins σ H' s' ∧ RelV v u ∧ Q v H'
def TP (X : Cx) (pins : List (Addr × Obj)) (σ : St) (Q : Bool → Hp → Prop) (b : Bool) (s' : Shared) : Prop := ∃ H', Inv X pins σ H' s' ∧ Q b H'
def AP (X : Cx) (pins : List (Addr × Obj)) (σ : St) (Q : List V → Hp → Prop) (us : List Value) (s' : Shared) : Prop := ∃ vs H', Inv X pins σ H' s' ∧ Vals vs us ∧ Q vs H'
def SP (X : Cx) (pins : List (Addr × Obj)) (D : Ends) (f : Flow) (s' : Shared) : Prop :=
  match f with
  | .next => ∃ σ' H', Inv X pins σ' H' s' ∧ D.nx σ' H'
  | .brk => ∃ σ' H', Inv X pins σ' H' s' ∧ D.bk σ' H'
  | .cont => ∃ σ' H', Inv X pins σ' H' s' ∧ D.ct σ' H'
  | .ret u => ∃ v σ' H', Inv X pins σ' H' s' ∧ RelV v u ∧ D.rt v H'

def PE (X : Cx) (e : Expr) (t : TE) : Prop :=
  ∀ (pins : List (Addr × Obj)) (s : Shared) (σ : St) (H : Hp) (Q : VK), Inv X pins σ H s → t σ H Q → wpAny (model X.prog X.w) X.A (eval e X.env) (EP X pins σ Q) X.xe s
def PT (X : Cx) (e : Expr) (t : TT) : Prop :=
  ∀ (pins : List (Addr × Obj)) (s : Shared) (σ : St) (H : Hp) (Q : Bool → Hp → Prop), Inv X pins σ H s → t σ H Q → wpAny (model X.prog X.w) X.A (isTrue e X.env (eval e X.env)) (TP X pins σ Q) X.xe s
/-- a test whatever its 'whole' is (and, or) -/
def PW (X : Cx) (e : Expr) (t : TT) : Prop :=
  ∀ (whole : Sem Value) (pins : List (Addr × Obj)) (s : Shared) (σ : St) (H : Hp) (Q : Bool → Hp → Prop), Inv X pins σ H s → t σ H Q → wpAny (model X.prog X.w) X.A (isTrue e X.env whole) (TP X pins σ Q) X.xe s
theorem PW.pt {X : Cx} {e : Expr} {t : TT} (h : PW X e t) : PT X e t := h _
/-- an argument list (no star), from the left -/
def PA (X : Cx) (es : List Expr) (t : TA) : Prop :=
  ∀ (pos : Pos) (pins : List (Addr × Obj)) (s : Shared) (σ : St) (H : Hp) (Q : List V → Hp → Prop), Inv X pins σ H s → t σ H Q → wpAny (model X.prog X.w) X.A (spliced (backTo pos (starEach es X.env))) (AP X pins σ Q) X.xe s
def PS (X : Cx) (st : Stmt) (t : TS) : Prop :=
  ∀ (pins : List (Addr × Obj)) (s : Shared) (σ : St) (H : Hp) (D : Ends), Inv X pins σ H s → t D σ H → wpAny (model X.prog X.w) X.A (exec st X.env) (SP X pins D) X.xe s
def PSs (X : Cx) (st : List Stmt) (t : TS) : Prop :=
  ∀ (pins : List (Addr × Obj)) (s : Shared) (σ : St) (H : Hp) (D : Ends), Inv X pins σ H s → t D σ H → wpAny (model X.prog X.w) X.A (execs st X.env) (SP X pins D) X.xe s
/-- weaken the end -/
theorem thn {α : Type} {t : Sem α} {Q Q' : α → Shared → Prop} {M : Model} {A : Around} {E : Value → Shared → Prop} {s : Shared} (h : wpAny M A t Q E s) (hQ : ∀ a s, Q a s → Q' a s) : wpAny M A t Q' E s := wpAny_mono h hQ fun _ _ x => x
end L2
namespace L2
open PySem PySem.Spec PyProof.Rows
section
variable {X : Cx}
/-! ### names and constants -/
def tVar (i : Nat) : TE := fun σ H Q => ∃ v, σ[i]? = some (some v) ∧ Q v H
def tC (v : V) : TE := fun _ H Q => Q v H
theorem pe_var {i : Nat} {x : Str} {pos : Pos} (hN : X.N[i]? = some x) (hv : Vis X.env.scope x) (hd : (x == ("__debug__" : Str)) = false := by decide) (hcd : (x == ("__classdict__" : Str)) = false := by decide) : PE X (.Name x pos) (tVar i) := by
  intro pins s σ H Q I h
  obtain ⟨v, e, h⟩ := h
  obtain ⟨m, hn, hl⟩ := I.loc
  obtain ⟨u, r, l⟩ := hl i x v hN e hv
  have fin : EP X pins σ Q u s := ⟨v, H, I, r, h⟩
  rcases l with ⟨hk, hm⟩ | ⟨hk, c, hc, hcell⟩
  · exact wpAny_Name (wpAny_loadName_local I.ok.kind hk hn hm fin) hd
  · rcases hk with hk | hk
    · exact wpAny_Name (wpAny_loadName_cell I.ok.kind hk hc hcell fin) hd
    · exact wpAny_Name (wpAny_loadName_free I.ok.kind hk hc hcell fin hcd) hd
theorem pe_int {i j pos} : PE X (.Constant (.int i) j pos) (tC (.int i)) := fun _ _ _ H _ I h => wpAny_Constant_int ⟨.int i, H, I.tok _, ⟨_, rfl⟩, h⟩
theorem pe_bl {b j pos} : PE X (.Constant (.bool b) j pos) (tC (.bl b)) := fun _ _ _ H _ I h => Constant_bool ⟨.bl b, H, I, rfl, h⟩
theorem pe_non {j pos} : PE X (.Constant .none j pos) (tC .non) := fun _ _ _ H _ I h => Constant_none ⟨.non, H, I, rfl, h⟩
theorem pe_str {x j pos} : PE X (.Constant (.str x) j pos) (tC (.str x)) := fun _ _ _ H _ I h => Calls.Constant_str ⟨.str x, H, I.tok _, ⟨_, rfl⟩, h⟩

/-- a global name of the def -/
def Gl (X : Cx) (x : Str) : Prop := X.env.kindOf x = some .globalImplicit
theorem ld_glob {E : Value → Shared → Prop} {pins : List (Addr × Obj)} {s : Shared} {σ : St} {H : Hp} {x : Str} {u : Value} {pos : Pos} {Q : Value → Shared → Prop} (I : Inv X pins σ H s) (hg : Gl X x) (hm : X.mg x = some u) (h : Q u s)
    (hd : (x == ("__debug__" : Str)) = false := by decide) : wpAny (model X.prog X.w) X.A (eval (.Name x pos) X.env) Q E s :=
  Calls.Name_function_global I.ok.kind hg (Calls.loadGlobal_global (by rw [I.ok.glob]; exact I.mod.glob.keeps I.bk) hm h) hd
theorem ld_blt {E : Value → Shared → Prop} {pins : List (Addr × Obj)} {s : Shared} {σ : St} {H : Hp} {x : Str} {u : Value} {pos : Pos} {Q : Value → Shared → Prop} (I : Inv X pins σ H s) (hg : Gl X x) (hm : X.mg x = none) (hv : bootBuiltins x = some u) (h : Q u s)
    (hn : x ≠ "__name__" := by decide) (hd : (x == ("__debug__" : Str)) = false := by decide) : wpAny (model X.prog X.w) X.A (eval (.Name x pos) X.env) Q E s := by
  obtain ⟨mb, h1, h2⟩ := I.mod.blt
  exact Calls.Name_function_global I.ok.kind hg (Calls.loadGlobal_builtin (by rw [I.ok.glob]; exact I.mod.glob.keeps I.bk) hm (by rw [I.ok.blt]; exact h1.keeps I.bk) ((h2 x hn).trans hv) h) hd
/-- a module's constant, a class, a function, as a value -/
theorem pe_glob {x : Str} {v : V} {u : Value} {pos : Pos} (hg : Gl X x) (hm : X.mg x = some u) (r : RelV v u) (hd : (x == ("__debug__" : Str)) = false := by decide) : PE X (.Name x pos) (tC v) :=
  fun _ _ _ H _ I h => ld_glob I hg hm ⟨v, H, I, r, h⟩ hd
theorem pe_bltn {x : Str} {v : V} {u : Value} {pos : Pos} (hg : Gl X x) (hm : X.mg x = none) (hv : bootBuiltins x = some u) (r : RelV v u) (hn : x ≠ "__name__" := by decide) (hd : (x == ("__debug__" : Str)) = false := by decide) : PE X (.Name x pos) (tC v) :=
  fun _ _ _ H _ I h => ld_blt I hg hm hv ⟨v, H, I, r, h⟩ hn hd

/-! ### arithmetic -/
/-- two ints -/
def t2I (ta tb : TE) (k : Int → Int → Hp → Prop) : St → Hp → Prop := fun σ H => ta σ H fun x H1 => tb σ H1 fun y H2 => ∃ i j, x = .int i ∧ y = .int j ∧ k i j H2
def tAdd (ta tb : TE) : TE := fun σ H Q => t2I ta tb (fun i j H2 => Q (.int (i + j)) H2) σ H
def tSub (ta tb : TE) : TE := fun σ H Q => t2I ta tb (fun i j H2 => Q (.int (i - j)) H2) σ H
/-- the left factor below 2^64 -/
def tMul (ta tb : TE) : TE := fun σ H Q => t2I ta tb (fun i j H2 => (-(2 ^ 64) < i ∧ i < 2 ^ 64) ∧ Q (.int (i * j)) H2) σ H
variable {a b : Expr} {ta tb : TE} {pos : Pos}
/-! ### comparisons -/
def PC (X : Cx) (op : CmpOp) (a b : Expr) (t : TE) : Prop :=
  ∀ (pins : List (Addr × Obj)) (s : Shared) (σ : St) (H : Hp) (Q : VK), Inv X pins σ H s → t σ H Q →
    wpAny (model X.prog X.w) X.A (eval a X.env) (fun v s₁ => wpAny (model X.prog X.w) X.A (eval b X.env) (fun u s₂ => wpAny (model X.prog X.w) X.A (compareOp op v u) (EP X pins σ Q) X.xe s₂) X.xe s₁) X.xe s
theorem nobehind (b : Expr) {op : CmpOp} (h : op ≠ .In) (h2 : op ≠ .NotIn) : behindInMarks op b = false := by
  have e1 : (op == CmpOp.In) = false := by cases op <;> first | rfl | exact absurd rfl h
  have e2 : (op == CmpOp.NotIn) = false := by cases op <;> first | rfl | exact absurd rfl h2
  cases b <;> simp [behindInMarks, e1, e2]
def tCmp (p : Int → Int → Bool) (ta tb : TE) : TE := fun σ H Q => t2I ta tb (fun i j H2 => Q (.bl (p i j)) H2) σ H
abbrev tLt : TE → TE → TE := tCmp fun i j => decide (i < j)
abbrev tLe : TE → TE → TE := tCmp fun i j => decide (i ≤ j)
abbrev tGt : TE → TE → TE := tCmp fun i j => decide (j < i)
abbrev tGe : TE → TE → TE := tCmp fun i j => decide (j ≤ i)
abbrev tEqI : TE → TE → TE := tCmp fun i j => decide (i = j)
abbrev tNeI : TE → TE → TE := tCmp fun i j => !decide (i = j)
/-- is None -/
def tIsN (ta : TE) : TE := fun σ H Q => ta σ H fun x H1 => Q (.bl (decide (x = .non))) H1
def tNotN (ta : TE) : TE := fun σ H Q => ta σ H fun x H1 => Q (.bl (!decide (x = .non))) H1
/-- a comparison as a value, as a test -/
def tB (t : TE) : TT := fun σ H Q => t σ H fun x H1 => ∃ c, x = .bl c ∧ Q c H1
theorem pt_cmp {op : CmpOp} {t : TE} (h : PC X op a b t) (h1 : behindInMarks op b = false := by first | exact nobehind _ (by decide) (by decide) | rfl) : PT X (.Compare a [op] [b] pos) (tB t) := by
  intro pins s σ H Q I hw
  refine wpAny_isTrue_Compare1 (thn (h pins s σ H _ I hw) fun v s1 h1 => thn h1 fun u s2 h2 => thn h2 fun c s3 ⟨x, H1, I1, r1, q1⟩ => ?_) h1
  obtain ⟨d, rfl, q⟩ := q1
  cases r1
  exact wpAny_truthy_bool ⟨H1, I1, q⟩
/-- an expression whose value is a bool, as a test -/
theorem pt_val {e : Expr} {t : TE} (h : PE X e t) (he : ∀ whole, isTrue e X.env whole = (do let v ← whole; standAt e.pos; holding [v] (truthy v)) := by intro _; rfl) : PT X e (tB t) := by
  intro pins s σ H Q I hw
  refine isTrue_plain (thn (h pins s σ H _ I hw) fun v s1 ⟨x, H1, I1, r1, q1⟩ => ?_) (he _)
  obtain ⟨d, rfl, q⟩ := q1
  cases r1
  exact wpAny_truthy_bool ⟨H1, I1, q⟩

/-! ### and, or, not -/
variable {tA tB' : TT} {rest : List Expr}
def tAnd (t u : TT) : TT := fun σ H Q => t σ H fun c H1 => if c = true then u σ H1 Q else Q false H1
def tOr (t u : TT) : TT := fun σ H Q => t σ H fun c H1 => if c = true then Q true H1 else u σ H1 Q
def tNot (t : TT) : TT := fun σ H Q => t σ H fun c H1 => Q (!c) H1
theorem pw_or1 (ha : PT X a tA) : PW X (.BoolOp .Or [a] pos) tA := by
  intro wh pins s σ H Q I h
  refine isTrue_or (thn (ha pins s σ H Q I h) fun c s1 e => ?_)
  cases c with
  | false => exact isTrue_or_nil e
  | true => exact e
theorem pw_or (ha : PT X a tA) (hb : PW X (.BoolOp .Or (b :: rest) pos) tB') : PW X (.BoolOp .Or (a :: b :: rest) pos) (tOr tA tB') := by
  intro wh pins s σ H Q I h
  refine isTrue_or (thn (ha pins s σ H _ I h) fun c s1 ⟨H1, I1, q1⟩ => ?_)
  cases c with
  | true => exact ⟨H1, I1, q1⟩
  | false => exact hb wh pins s1 σ H1 Q I1 q1
theorem pt_not (ha : PT X a tA) : PT X (.UnaryOp .Not a pos) (tNot tA) := by
  intro pins s σ H Q I h
  exact isTrue_not (ha pins s σ H (fun c H1 => Q (!c) H1) I h)
/-- .. as values (bools) -/
def tAndV (ta tb : TE) : TE := fun σ H Q => ta σ H fun x H1 => ∃ c, x = .bl c ∧ if c = true then tb σ H1 Q else Q (.bl false) H1
def tOrV (ta tb : TE) : TE := fun σ H Q => ta σ H fun x H1 => ∃ c, x = .bl c ∧ if c = true then Q (.bl true) H1 else tb σ H1 Q
def tNotV (ta : TE) : TE := fun σ H Q => ta σ H fun x H1 => ∃ c, x = .bl c ∧ Q (.bl (!c)) H1
theorem pe_one {op} {t : TE} (h : PE X a t) : PE X (.BoolOp op [a] pos) t := fun pins s σ H Q I hw => BoolOp_one (h pins s σ H Q I hw)
theorem pe_and (ha : PE X a ta) (hb : PE X (.BoolOp .And (b :: rest) pos) tb) : PE X (.BoolOp .And (a :: b :: rest) pos) (tAndV ta tb) := by
  intro pins s σ H Q I h
  refine BoolOp_and (thn (ha pins s σ H _ I h) fun v s1 ⟨x, H1, I1, r1, q1⟩ => ?_)
  obtain ⟨c, rfl, q1⟩ := q1
  cases r1
  refine wpAny_truthy_bool ?_
  cases c with
  | true => exact hb pins s1 σ H1 Q I1 q1
  | false => exact ⟨.bl false, H1, I1, rfl, q1⟩
/-- a if t else b -/
def tIf (t : TT) (ta tb : TE) : TE := fun σ H Q => t σ H fun c H1 => if c = true then ta σ H1 Q else tb σ H1 Q
theorem pe_ifExp {c : Expr} (hc : PT X c tA) (ha : PE X a ta) (hb : PE X b tb) : PE X (.IfExp c a b pos) (tIf tA ta tb) := by
  intro pins s σ H Q I h
  refine wpAny_IfExp (thn (hc pins s σ H _ I h) fun d s1 ⟨H1, I1, q1⟩ => ?_)
  cases d with
  | true => exact ha pins s1 σ H1 Q I1 q1
  | false => exact hb pins s1 σ H1 Q I1 q1
end
end L2
namespace L2
open PySem PySem.Spec PyProof.Rows
/-! ### a list, a tuple that is read: tracked, frozen, or an object of the module -/
def SqL (K : PySem.W.Frag) (H : Hp) (a : Addr) (xs : List V) : Prop :=
  Rd H a (.lst xs) ∨
    ∃ (o : Obj) (its : Array Value) (n : Nat), K.lookup a = some o ∧ o.cls = .type "list" ∧ o.dict = none ∧ o.data = .seq its n ∧ its.size ≤ sizeLine ∧ Vals xs its.toList
def SqT (K : PySem.W.Frag) (H : Hp) (a : Addr) (xs : List V) : Prop :=
  Rd H a (.tup xs) ∨
    ∃ (o : Obj) (its : Array Value) (n : Nat), K.lookup a = some o ∧ o.cls = .type "tuple" ∧ o.data = .seq its n ∧ its.size ≤ sizeLine ∧ Vals xs its.toList
def absV : Value → Option V
  | .none => some .non
  | .bool b => some (.bl b)
  | .int i _ => some (.int i)
  | .str x _ => some (.str x)
  | .bytes b _ => some (.byt b)
  | .float b _ => some (.flt b)
  | .ref a => some (.ref a)
  | .type n => some (.ty n)
  | _ => none
theorem RelV.abs {x : V} {u : Value} (r : RelV x u) : absV u = some x := by
  cases x with
  | non => cases r; rfl
  | bl _ => cases r; rfl
  | int _ => obtain ⟨t, rfl⟩ := r; rfl
  | str _ => obtain ⟨t, rfl⟩ := r; rfl
  | byt _ => obtain ⟨t, rfl⟩ := r; rfl
  | flt _ => obtain ⟨t, rfl⟩ := r; rfl
  | ref _ => cases r; rfl
  | ty _ => cases r; rfl
theorem RelV.inj {x y : V} {u : Value} (r : RelV x u) (q : RelV y u) : x = y := Option.some.inj (r.abs.symm.trans q.abs)
theorem Vals.inj : ∀ {xs ys : List V} {us : List Value}, Vals xs us → Vals ys us → xs = ys
  | _, _, _, .nil, .nil => rfl
  | _, _, _, .cons r t, .cons r' t' => by rw [r.inj r', Vals.inj t t']
section
variable {X : Cx} {pins : List (Addr × Obj)} {σ : St} {H : Hp} {s : Shared} {a : Addr} {xs ys : List V}
theorem SqL.of {K : PySem.W.Frag} (h : H a = some (.lst xs)) : SqL K H a xs := .inl (.inl h)
theorem SqT.of {K : PySem.W.Frag} (h : H a = some (.tup xs)) : SqT K H a xs := .inl (.inl h)
theorem Inv.list (I : Inv X pins σ H s) (h : SqL X.K H a xs) : ∃ its : List Value, Vals xs its ∧ PlainL s.heap a its.toArray ∧ xs.length ≤ sizeLine := by
  rcases h with h | ⟨o, its, n, hk, hc, hd, hs, hz, r⟩
  · obtain ⟨z, its, n, r, e⟩ := h.ok I.hok
    exact ⟨its, r, ⟨_, n, e, rfl, rfl, rfl⟩, z⟩
  · refine ⟨its.toList, r, ⟨o, n, I.kIn a o hk, hc, hd, by simpa using hs⟩, ?_⟩
    have e := r.length
    simp only [Array.length_toList] at e
    omega
theorem Inv.tuple (I : Inv X pins σ H s) (h : SqT X.K H a xs) : ∃ its : List Value, Vals xs its ∧ IsTup s.heap a its.toArray ∧ xs.length ≤ sizeLine := by
  rcases h with h | ⟨o, its, n, hk, hc, hs, hz, r⟩
  · obtain ⟨z, its, r, p⟩ := h.ok I.hok
    exact ⟨its, r, p, z⟩
  · refine ⟨its.toList, r, ⟨o, I.kIn a o hk, hc, n, by simpa using hs⟩, ?_⟩
    have e := r.length
    simp only [Array.length_toList] at e
    omega
theorem Inv.list_inj (I : Inv X pins σ H s) (h : SqL X.K H a xs) (h' : SqL X.K H a ys) : xs = ys := by
  obtain ⟨its, r, ⟨o, n, e, _, _, d⟩, _⟩ := I.list h
  obtain ⟨its', r', ⟨o', n', e', _, _, d'⟩, _⟩ := I.list h'
  rw [e] at e'; cases e'
  rw [d] at d'
  injection d' with d1 _
  have : its = its' := by simpa using congrArg Array.toList d1
  subst this
  exact r.inj r'
end
/-! ### another wish about exceptions -/
abbrev Cx.wish (X : Cx) (E : Value → Shared → Prop) : Cx := { X with xe := E }
/-- no exception leaves -/
abbrev Cx.nox (X : Cx) : Cx := X.wish fun _ _ => False
theorem Cx.Ok.wish {X : Cx} (ok : X.Ok) (E : Value → Shared → Prop) : (X.wish E).Ok :=
  ⟨ok.mod, ok.kind, ok.glob, ok.blt, ok.above, ok.inj, ok.has, ok.cab, ok.hd, ok.frames, ok.stk, ok.exf, ok.bs, ok.bsz, ok.noex, ok.exfs, ok.funs, ok.frf⟩
theorem Cx.Ok.unwish {X : Cx} {E : Value → Shared → Prop} (ok : (X.wish E).Ok) : X.Ok :=
  ⟨ok.mod, ok.kind, ok.glob, ok.blt, ok.above, ok.inj, ok.has, ok.cab, ok.hd, ok.frames, ok.stk, ok.exf, ok.bs, ok.bsz, ok.noex, ok.exfs, ok.funs, ok.frf⟩
section
variable {X : Cx} {pins : List (Addr × Obj)} {σ : St} {H : Hp} {s : Shared} {E : Value → Shared → Prop}
theorem Inv.wish (I : Inv X pins σ H s) (E : Value → Shared → Prop) : Inv (X.wish E) pins σ H s := ⟨I.ok.wish E, I.os, I.bare, I.base, I.loc, I.cell, I.free, I.freeC, I.pin, I.hok, I.len⟩
theorem Inv.unwish (I : Inv (X.wish E) pins σ H s) : Inv X pins σ H s := ⟨I.ok.unwish, I.os, I.bare, I.base, I.loc, I.cell, I.free, I.freeC, I.pin, I.hok, I.len⟩
theorem SP.unwish {D : Ends} {f : Flow} {s' : Shared} (h : SP (X.wish E) pins D f s') : SP X pins D f s' := by
  cases f with
  | next => obtain ⟨σ', H', I, q⟩ := h; exact ⟨σ', H', I.unwish, q⟩
  | brk => obtain ⟨σ', H', I, q⟩ := h; exact ⟨σ', H', I.unwish, q⟩
  | cont => obtain ⟨σ', H', I, q⟩ := h; exact ⟨σ', H', I.unwish, q⟩
  | ret u => obtain ⟨v, σ', H', I, r, q⟩ := h; exact ⟨v, σ', H', I.unwish, r, q⟩
theorem PE.nox {e : Expr} {t : TE} (h : PE X.nox e t) : PE X e t := fun pins s σ H Q I hw =>
  wpAny_mono (h pins s σ H Q (I.wish _) hw) (fun _ _ ⟨v, H', I', r, q⟩ => ⟨v, H', I'.unwish, r, q⟩) fun _ _ z => False.elim z
theorem PT.nox {e : Expr} {t : TT} (h : PT X.nox e t) : PT X e t := fun pins s σ H Q I hw =>
  wpAny_mono (h pins s σ H Q (I.wish _) hw) (fun _ _ ⟨H', I', q⟩ => ⟨H', I'.unwish, q⟩) fun _ _ z => False.elim z
theorem PSs.nox {st : List Stmt} {t : TS} (h : PSs X.nox st t) : PSs X st t := fun pins s σ H D I hw =>
  wpAny_mono (h pins s σ H D (I.wish _) hw) (fun _ _ q => q.unwish) fun _ _ z => False.elim z
end
/-! ### blocks and small statements -/
section
variable {X : Cx} {st : Stmt} {rest : List Stmt} {t u : TS} {e : Expr} {te : TE} {pos : Pos}
def tNext : TS := fun D σ H => D.nx σ H
def tSeq (t u : TS) : TS := fun D σ H => t { D with nx := u D } σ H
theorem pss_nil : PSs X [] tNext := fun _ _ σ H _ I h => wpAny_execs_nil ⟨σ, H, I, h⟩
theorem pss_cons (h1 : PS X st t) (h2 : PSs X rest u) : PSs X (st :: rest) (tSeq t u) := by
  intro pins s σ H D I h
  refine wpAny_execs_cons (thn (h1 pins s σ H { D with nx := u D } I h) fun f s1 q => ?_)
  cases f with
  | next =>
    obtain ⟨σ', H', I', q⟩ := q
    exact h2 pins s1 σ' H' D I' q
  | ret v => exact q
  | brk => exact q
  | cont => exact q
theorem pss_one (h1 : PS X st t) : PSs X [st] t := by
  intro pins s σ H D I h
  refine wpAny_execs_cons (thn (h1 pins s σ H D I h) fun f s1 q => ?_)
  cases f with
  | next => exact wpAny_execs_nil q
  | ret v => exact q
  | brk => exact q
  | cont => exact q
def tBreak : TS := fun D σ H => D.bk σ H
def tCont : TS := fun D σ H => D.ct σ H
/-- in a def's body nothing is shown -/
theorem Inv.quiet {pins : List (Addr × Obj)} {σ : St} {H : Hp} {s : Shared} (I : Inv X pins σ H s) : interactive X.env = false := by simp [interactive, I.ok.kind]
/-- an expression whose value is dropped -/
def tDrop (te : TE) : TS := fun D σ H => te σ H fun _ H1 => D.nx σ H1
theorem ps_expr (he : PE X e te) (hs : swapsWith e none pos.line X.env = pure false := by rfl) : PS X (.Expr e pos) (tDrop te) := by
  intro pins s σ H D I h
  exact wpAny_Expr_any (thn (he pins s σ H _ I h) fun v s1 ⟨x, H1, I1, r1, q1⟩ => ⟨σ, H1, I1, q1⟩) I.quiet hs
def tRet (te : TE) : TS := fun D σ H => te σ H D.rt
theorem ps_ret (he : PE X e te) : PS X (.Return (some e) pos) (tRet te) := by
  intro pins s σ H D I h
  exact wpAny_Return_some (thn (he pins s σ H _ I h) fun v s1 ⟨x, H1, I1, r1, q1⟩ => ⟨x, σ, H1, I1, r1, q1⟩)
def tRetN : TS := fun D _ H => D.rt .non H
def tIfS (c : TT) (t u : TS) : TS := fun D σ H => c σ H fun b H1 => if b = true then t D σ H1 else u D σ H1
theorem ps_if {c : Expr} {a b : List Stmt} {tc : TT} (hc : PT X c tc) (ha : PSs X a t) (hb : PSs X b u) : PS X (.If c a b pos) (tIfS tc t u) := by
  intro pins s σ H D I h
  refine wpAny_If (thn (hc pins s σ H _ I h) fun d s1 ⟨H1, I1, q1⟩ => ?_)
  cases d with
  | true => exact ha pins s1 σ H1 D I1 q1
  | false => exact hb pins s1 σ H1 D I1 q1
/-- code that the proof never comes to -/
def tNever : TS := fun _ _ _ => False
theorem pss_never {sts : List Stmt} : PSs X sts tNever := fun _ _ _ _ _ _ h => h.elim
end
/-! ### targets -/
abbrev TG := V → St → Hp → (St → Hp → Prop) → Prop
abbrev TGs := List V → St → Hp → (St → Hp → Prop) → Prop
def PG (X : Cx) (target : Expr) (t : TG) : Prop :=
  ∀ (pins : List (Addr × Obj)) (s : Shared) (σ : St) (H : Hp) (v : V) (u : Value) (Q : St → Hp → Prop), Inv X pins σ H s → RelV v u → t v σ H Q →
    wpAny (model X.prog X.w) X.A (assign target X.env u) (fun _ s' => ∃ σ' H', Inv X pins σ' H' s' ∧ Q σ' H') X.xe s
/-- several targets, one after another -/
def PGs (X : Cx) (ts : List Expr) (t : TGs) : Prop :=
  ∀ (pins : List (Addr × Obj)) (s : Shared) (σ : St) (H : Hp) (vs : List V) (us : List Value) (Q : St → Hp → Prop), Inv X pins σ H s → Vals vs us → t vs σ H Q →
    wpAny (model X.prog X.w) X.A (assignInOrder ((assignEach ts X.env).map (·.2)) us) (fun _ s' => ∃ σ' H', Inv X pins σ' H' s' ∧ Q σ' H') X.xe s
/-- o[i] = v, by values -/
abbrev TSet := V → V → V → Hp → (Hp → Prop) → Prop
def PSet (X : Cx) (t : TSet) : Prop :=
  ∀ (pins : List (Addr × Obj)) (s : Shared) (σ : St) (H : Hp) (o i v : V) (ov iv u : Value) (Q : Hp → Prop), Inv X pins σ H s → RelV o ov → RelV i iv → RelV v u → t o i v H Q →
    wpAny (model X.prog X.w) X.A (setItem ov iv u) (fun _ s' => ∃ H', Inv X pins σ H' s' ∧ Q H') X.xe s
/-- a op= b, by values -/
abbrev TIp := V → V → Hp → VK → Prop
def PIp (X : Cx) (op : Operator) (t : TIp) : Prop :=
  ∀ (pins : List (Addr × Obj)) (s : Shared) (σ : St) (H : Hp) (x y : V) (v u : Value) (Q : VK), Inv X pins σ H s → RelV x v → RelV y u → t x y H Q →
    wpAny (model X.prog X.w) X.A (inplaceOp op v u) (EP X pins σ Q) X.xe s
section
variable {X : Cx} {pos : Pos}
def gName (i : Nat) : TG := fun v σ H Q => Q (σ.set i (some v)) H
theorem pg_name {i : Nat} {x : Str} (hN : X.N.Nodup) (hi : X.N[i]? = some x) (hx : Loc X.env.scope x) (hf : X.fn x = true ∨ X.env.scope.names.lookup x = some .local := by first | exact .inl rfl | exact .inr rfl | assumption) : PG X (.Name x pos) (gName i) := by
  intro pins s σ H v u Q I r h
  exact wpAny_assign_Name (store_ok I hN hi hx r (fun s' I' => ⟨_, H, I', h⟩) hf)
def gNil : TGs := fun vs σ H Q => vs = [] ∧ Q σ H
def gCons (t : TG) (u : TGs) : TGs := fun vs σ H Q => ∃ v r, vs = v :: r ∧ t v σ H fun σ' H' => u r σ' H' Q
theorem pgs_nil : PGs X [] gNil := by
  intro pins s σ H vs us Q I r h
  obtain ⟨e, h⟩ := h
  subst e
  cases r
  exact assignInOrder_nil ⟨σ, H, I, h⟩
theorem pgs_cons {e : Expr} {es : List Expr} {t : TG} {u : TGs} (h1 : PG X e t) (h2 : PGs X es u)
    (hs : (assignEach (e :: es) X.env).map (·.2) = assign e X.env :: (assignEach es X.env).map (·.2) := by rfl) : PGs X (e :: es) (gCons t u) := by
  intro pins s σ H vs us Q I r h
  obtain ⟨v, vr, e1, h⟩ := h
  subst e1
  cases r with
  | cons r rr =>
    rw [hs]
    refine assignInOrder_cons (thn (h1 pins s σ H _ _ _ I r h) fun _ s1 ⟨σ1, H1, I1, q1⟩ => ?_)
    exact h2 pins s1 σ1 H1 _ _ Q I1 rr q1
/-- (a, b, ..) = a tuple of that length -/
def gTup (K : PySem.W.Frag) (n : Nat) (t : TGs) : TG := fun v σ H Q => ∃ a xs, v = .ref a ∧ SqT K H a xs ∧ xs.length = n ∧ t xs σ H Q
theorem pg_tup {es : List Expr} {k : Nat} {t : TGs} {n : Nat} (hc : X.calm = true) (h : PGs X es t)
    (hn : (assignEach es X.env).length = n := by rfl) (hst : (assignEach es X.env).findIdx? (·.1) = none := by rfl) : PG X (.Tuple es k pos) (gTup X.K n t) := by
  intro pins s σ H v u Q I r hw
  obtain ⟨a, xs, e1, hq, hl, hw⟩ := hw
  subst e1
  cases r
  obtain ⟨its, rv, ht, hz⟩ := I.tuple hq
  refine assign_Tuple_tuple (I.ok.hd hc) ht (by simp [hn, ← hl, rv.length]) hst fun h' hx => ?_
  have I1 : Inv X pins σ H { s with heap := h' } := I.kept (t' := s.toks) fun b o e => hx b o (Nat.ne_of_lt (Heap.lt_size e)) e
  exact h pins _ σ H xs _ Q I1 (by simpa using rv) hw
/-- o[i] = .. -/
def gSub (to ti : TE) (t : TSet) : TG := fun v σ H Q => to σ H fun o H1 => ti σ H1 fun i H2 => t o i v H2 fun H3 => Q σ H3
theorem pg_sub {o i : Expr} {to ti : TE} {t : TSet} (ho : PE X o to) (hi : PE X i ti) (hs : PSet X t)
    (ha : ∀ v, assign (.Subscript o i pos) X.env v = (do
      let ov ← holding [v] (eval o X.env)
      let iv ← holding [v, ov] (eval i X.env)
      standAt pos
      holding [v, ov, iv] (setItem ov iv v)
      release [v, ov, iv] []) := by intro _; rfl) : PG X (.Subscript o i pos) (gSub to ti t) := by
  intro pins s σ H v u Q I r h
  rw [ha]
  refine wpAny_bind (wpAny_holding (thn (ho pins s σ H _ I h) fun ov s1 ⟨x, H1, I1, r1, q1⟩ => ?_))
  refine wpAny_bind (wpAny_holding (thn (hi pins s1 σ H1 _ I1 q1) fun iv s2 ⟨y, H2, I2, r2, q2⟩ => ?_))
  refine wpAny_bind (wpAny_standAt (wpAny_bind (wpAny_holding (thn (hs pins s2 σ H2 x y v ov iv u _ I2 r1 r2 r q2) fun _ s3 ⟨H3, I3, q3⟩ => ?_))))
  exact wpAny_release ⟨σ, H3, I3, q3⟩
/-- target = value -/
def tAsg (te : TE) (g : TG) : TS := fun D σ H => te σ H fun x H1 => g x σ H1 D.nx
theorem ps_asg {tg e : Expr} {te : TE} {g : TG} (he : PE X e te) (hg : PG X tg g) (hs : swapsWithSole [tg] e pos.line X.env = pure false := by rfl) (hw : swappedStores [tg] e X.env = pure none := by rfl)
    (h1 : (assignEach [tg] X.env).map (·.2) = [assign tg X.env] := by rfl) : PS X (.Assign [tg] e pos) (tAsg te g) := by
  intro pins s σ H D I h
  refine wpAny_Assign_stores (thn (he pins s σ H _ I h) fun v s1 ⟨x, H1, I1, r1, q1⟩ => ?_) hs hw
  rw [h1]
  exact thn (hg pins s1 σ H1 x v _ I1 r1 q1) fun _ s2 q => q
/-- name = value -/
theorem ps_set {i : Nat} {x : Str} {e : Expr} {te : TE} {pos' : Pos} (hN : X.N.Nodup) (hi : X.N[i]? = some x) (hx : Loc X.env.scope x) (he : PE X e te) (hs : swapsWith e (some (.Name x pos')) pos.line X.env = pure false := by rfl) (hf : X.fn x = true ∨ X.env.scope.names.lookup x = some .local := by first | exact .inl rfl | exact .inr rfl | assumption) :
    PS X (.Assign [.Name x pos'] e pos) (tAsg te (gName i)) := by
  intro pins s σ H D I h
  refine wpAny_Assign_Name (thn (he pins s σ H _ I h) fun v s1 ⟨y, H1, I1, r1, q1⟩ => ?_) hs
  exact store_ok I1 hN hi hx r1 (fun s2 I2 => ⟨_, H1, I2, q1⟩) hf
/-- a, b = x, y with plain local names: stored from the right; the pair itself is not tracked (the opening rows as in PyProof/Rows/TupAssign.lean:23) -/
def tPar (i j : Nat) (ta : TA) : TS := fun D σ H => ta σ H fun vs H1 => ∃ v w, vs = [v, w] ∧ D.nx ((σ.set i (some v)).set j (some w)) H1
/-- name op= e -/
def tAug (i : Nat) (te : TE) (ti : TIp) : TS := fun D σ H => ∃ x, σ[i]? = some (some x) ∧ te σ H fun y H1 => ti x y H1 fun z H2 => D.nx (σ.set i (some z)) H2
/-- o[i] op= e -/
def tAugS (to ti te : TE) (tget : V → V → Hp → VK → Prop) (tip : TIp) (tset : TSet) : TS := fun D σ H => to σ H fun o H1 => ti σ H1 fun i H2 => tget o i H2 fun x H3 => te σ H3 fun y H4 => tip x y H4 fun z H5 => tset o i z H5 fun H6 => D.nx σ H6
/-- o[i], by values -/
def PGet (X : Cx) (t : V → V → Hp → VK → Prop) : Prop :=
  ∀ (pins : List (Addr × Obj)) (s : Shared) (σ : St) (H : Hp) (o i : V) (ov iv : Value) (Q : VK), Inv X pins σ H s → RelV o ov → RelV i iv → t o i H Q →
    wpAny (model X.prog X.w) X.A (getItem ov iv) (EP X pins σ Q) X.xe s
/-- ints -/
def ipI (f : Int → Int → Int) : TIp := fun x y H Q => ∃ i j, x = .int i ∧ y = .int j ∧ Q (.int (f i j)) H
end
/-! ### while -/
section
variable {X : Cx} {pos : Pos}
/-- the invariant W with its measure -/
def tWhile (c : TT) (tb : TS) : TS := fun D σ H => ∃ W : Nat → St → Hp → Prop, (∃ m, W m σ H) ∧ ∀ m σ H, W m σ H →
  c σ H fun b H1 => if b = true then ∃ N : St → Hp → Prop, (∀ σ' H', N σ' H' → ∃ m', m' < m ∧ W m' σ' H') ∧ tb { D with nx := N, ct := N, bk := D.nx } σ H1 else D.nx σ H1
end
/-! ### what a loop or a comprehension walks -/
/-- at turn i: it yields x (the heap may grow), or it stops -/
structure It where
  go : Nat → Hp → Prop
  yld : Nat → Hp → V → Hp → Prop
  stop : Nat → Hp → Prop
/-- the iterator's own objects may turn: they are not the frame's, not pinned, younger than the entry (or a comprehension's own) -/
def FpOk (X : Cx) (pins : List (Addr × Obj)) (H : Hp) (b : Addr) : Prop :=
  H b = none ∧ b ≠ X.env.locals ∧ b ∉ X.fs ∧ (b ∈ X.ex ∨ X.s₀.heap.objs.size ≤ b) ∧ (∀ x c, X.env.cells.lookup x = some c → c ≠ b) ∧ ∀ p ∈ X.pn ++ pins, p.1 ≠ b
theorem Inv.fpOk {X : Cx} {pins : List (Addr × Obj)} {σ : St} {H H' : Hp} {s : Shared} {b : Addr} (I : Inv X pins σ H s) (hb : s.heap.objs.size ≤ b) (hn : H' b = none) : FpOk X pins H' b := by
  refine ⟨hn, Nat.ne_of_gt (Nat.lt_of_lt_of_le I.lt hb), I.nofs hb, .inr (Nat.le_trans I.sz hb), fun x c e z => ?_, fun p hp z => ?_⟩
  · obtain ⟨v, q⟩ := I.cell x c e
    exact absurd (Nat.lt_of_lt_of_le q.lt (by rw [z]; exact hb)) (Nat.lt_irrefl _)
  · exact absurd (Nat.lt_of_lt_of_le (Heap.lt_size (I.pin p hp).1) (by rw [z]; exact hb)) (Nat.lt_irrefl _)
structure Turn (P : Program) (w : World) (K : PySem.W.Frag) (tg : Expr) (J : It) (fp : List Addr) (it : Addr) (tn : Nat → Heap → Prop) : Prop where
  mem : it ∈ fp
  obj : ∀ i h, tn i h → ∀ b ∈ fp, ∃ o, h.get? b = some o ∧ ∀ v, o.data ≠ .cell v
  keep : ∀ i h h', tn i h → (∀ b ∈ fp, ∀ o, h.get? b = some o → h'.get? b = some o) → tn i h'
  item : ∀ (X : Cx), X.prog = P → X.w = w → X.K = K → X.calm = true → ∀ (i : Nat) (pins : List (Addr × Obj)) (s : Shared) (σ : St) (H : Hp) (E : Value → Shared → Prop), Inv X pins σ H s → (∀ b ∈ fp, FpOk X pins H b) → tn i s.heap → J.go i H →
    wpAny (model P w) X.A (pyNext (.ref it)) (fun r s1 => ∃ u, r = some u ∧
      wpAny (model P w) X.A (letOwnedTupleGo tg (.ref it) u) (fun _ s2 => ∃ x H', Inv X pins σ H' s2 ∧ RelV x u ∧ J.yld i H x H' ∧ tn (i + 1) s2.heap ∧ ∀ b ∈ fp, H' b = none) E s1) E s
  done : ∀ (X : Cx), X.prog = P → X.w = w → X.K = K → X.calm = true → ∀ (i : Nat) (pins : List (Addr × Obj)) (s : Shared) (σ : St) (H : Hp) (E : Value → Shared → Prop), Inv X pins σ H s → (∀ b ∈ fp, FpOk X pins H b) → tn i s.heap → J.stop i H →
    wpAny (model P w) X.A (pyNext (.ref it)) (fun r s1 => r = none ∧ Inv X pins σ H s1) E s
  self : ∀ (A : Around) (i : Nat) (s : Shared) (Q : Value → Shared → Prop) (E : Value → Shared → Prop), tn i s.heap → Q (.ref it) s → wpAny (model P w) A (pyIter (.ref it)) Q E s
abbrev TI := St → Hp → (It → Hp → Prop) → Prop
/-- an iterator has come -/
def PIE (X : Cx) (pins : List (Addr × Obj)) (σ : St) (tg : Expr) (R : It → Hp → Prop) (itv : Value) (s2 : Shared) : Prop :=
  ∃ (it : Addr) (fp : List Addr) (tn : Nat → Heap → Prop) (J : It) (H' : Hp), itv = .ref it ∧ Inv X pins σ H' s2 ∧ Turn X.prog X.w X.K tg J fp it tn ∧ tn 0 s2.heap ∧ (∀ b ∈ fp, FpOk X pins H' b) ∧ R J H'
def PI (X : Cx) (tg iter : Expr) (wi : TI) : Prop :=
  ∀ (pins : List (Addr × Obj)) (s : Shared) (σ : St) (H : Hp) (R : It → Hp → Prop), Inv X pins σ H s → wi σ H R →
    wpAny (model X.prog X.w) X.A (eval iter X.env) (fun v s1 => wpAny (model X.prog X.w) X.A (pyIter v) (PIE X pins σ tg R) X.xe s1) X.xe s

/-- the step ahead of the store is nothing for an iterator that keeps no tuple -/
theorem go_of {M : Model} {A : Around} {E : Value → Shared → Prop} {s : Shared} {tg : Expr} {it : Addr} {u : Value} {o : Obj} {n : String} {vs : Array Value} {Q : Unit → Shared → Prop} (ho : s.heap.get? it = some o) (hc : o.cls = .type n) (hd : o.data = .fields vs)
    (hn : ["enumerate", "zip", "dict_itemiterator", "dict_reverseitemiterator", "odict_iterator", "itertools.zip_longest", "itertools.pairwise"].contains n = false) (hQ : Q () s) : wpAny M A (letOwnedTupleGo tg (.ref it) u) Q E s := by
  unfold letOwnedTupleGo
  cases tg <;> first
    | exact wpAny_pure hQ
    | (cases u <;> first
        | exact wpAny_pure hQ
        | (refine wpAny_bind (wpAny_load ho ?_)
           rw [hc, hd]
           show wpAny M A (if (["enumerate", "zip", "dict_itemiterator", "dict_reverseitemiterator", "odict_iterator", "itertools.zip_longest", "itertools.pairwise"].contains n && vs[0]? == some (rawInt _)) = true then _ else _) Q E s
           rw [if_neg (by intro h; rw [hn, Bool.false_and] at h; cases h)]
           exact wpAny_pure hQ))

/-- the list at a, as it stands at each turn (a loop may append to it) -/
def Itl (K : PySem.W.Frag) (a : Addr) : It :=
  ⟨fun i H => ∃ xs x, SqL K H a xs ∧ xs[i]? = some x, fun i H x H' => H' = H ∧ ∀ xs, SqL K H a xs → xs[i]? = some x, fun i H => ∃ xs, SqL K H a xs ∧ xs.length ≤ i⟩
def Itt (K : PySem.W.Frag) (a : Addr) : It :=
  ⟨fun i H => ∃ xs x, SqT K H a xs ∧ xs[i]? = some x, fun i H x H' => H' = H ∧ ∀ xs, SqT K H a xs → xs[i]? = some x, fun i H => ∃ xs, SqT K H a xs ∧ xs.length ≤ i⟩
/-- lo, lo + 1, .. (n of them) -/
def Itr (lo : Int) (n : Nat) : It := ⟨fun i _ => i < n, fun i H x H' => H' = H ∧ x = .int (lo + i), fun i _ => n ≤ i⟩
theorem turn_list {P : Program} {w : World} {K : PySem.W.Frag} {tg : Expr} (a it : Addr) : Turn P w K tg (Itl K a) [it] it (fun i h => h.IsListIter it a i) where
  mem := by simp
  obj := fun i h st b hb => by
    have e : b = it := by simpa using hb
    subst e
    obtain ⟨o, e, c, d⟩ := st
    exact ⟨o, e, fun v z => by rw [d] at z; cases z⟩
  keep := fun i h h' st k => st.at fun o e => k it (by simp) o e
  item := by
    intro X hP hw hK hc i pins s σ H E I hf st hg
    subst hP hw hK
    obtain ⟨xs, x, hq, hx⟩ := hg
    obtain ⟨its, rv, p, hz⟩ := I.list hq
    obtain ⟨u, hu, ru⟩ := rv.get hx
    obtain ⟨f0, f1, f2, f3, f4, f5⟩ := hf it (by simp)
    refine wpAny_pyNext_list_item st p.isList (x := u) (by simpa using hu) fun h' st' sb => ?_
    have I1 : Inv X pins σ H { s with heap := h' } := I.turned (t' := s.toks) (fun b o hb e => (sb.2 b hb).trans e) f0 f1 f3 f4 f5
    obtain ⟨o, e, c, d⟩ := id st'
    exact ⟨u, rfl, go_of (s := { s with heap := h' }) e c d (by decide) ⟨x, H, I1, ru, ⟨rfl, fun ys hy => by rw [I.list_inj hy hq]; exact hx⟩, st', fun b hb => (hf b hb).1⟩⟩
  done := by
    intro X hP hw hK hc i pins s σ H E I hf st hg
    subst hP hw hK
    obtain ⟨xs, hq, hx⟩ := hg
    obtain ⟨its, rv, p, hz⟩ := I.list hq
    obtain ⟨f0, f1, f2, f3, f4, f5⟩ := hf it (by simp)
    have hl := rv.length
    exact wpAny_pyNext_list_end (I.ok.hd hc) st p.isList (by simp; omega) fun h' eb => ⟨rfl, I.turned (t' := s.toks) (fun b o hb e => eb b o hb e) f0 f1 f3 f4 f5⟩
  self := fun _ _ _ _ _ st h => wpAny_pyIter_listiter st h
theorem turn_range {P : Program} {w : World} {K : PySem.W.Frag} {tg : Expr} (it : Addr) (lo : Int) (n : Nat) : Turn P w K tg (Itr lo n) [it] it (fun i h => IsRangeIter h it (lo + (i : Nat) * 1) ((n : Int) - (i : Nat)) 1) where
  mem := by simp
  obj := fun i h st b hb => by
    have e : b = it := by simpa using hb
    subst e
    exact ⟨_, st, fun v z => by
      have z' : Data.fields _ = Data.cell v := z
      cases z'⟩
  keep := fun i h h' st k => k it (by simp) _ st
  item := by
    intro X hP hw hK hc i pins s σ H E I hf st hg
    subst hP hw hK
    obtain ⟨f0, f1, f2, f3, f4, f5⟩ := hf it (by simp)
    have W := Walks.range (prog := X.prog) (w := X.w) (I.ok.hd hc) it lo 1 n
    refine W.item i s _ _ hg st fun v h' tk hv st' kk => ?_
    obtain ⟨t, rfl⟩ := hv
    have I1 : Inv X pins σ H { s with heap := h', toks := tk } := I.turned (fun b o hb e => kk b o (by simpa using hb) e) f0 f1 f3 f4 f5
    refine ⟨_, rfl, go_of (s := { s with heap := h', toks := tk }) (n := "range_iterator") st' rfl rfl (by decide) ⟨.int (lo + i), H, I1, ⟨t, ?_⟩, ⟨rfl, rfl⟩, st', fun b hb => (hf b hb).1⟩⟩
    rw [Int.mul_one]
  done := by
    intro X hP hw hK hc i pins s σ H E I hf st hg
    subst hP hw hK
    obtain ⟨f0, f1, f2, f3, f4, f5⟩ := hf it (by simp)
    exact wpAny_pyNext_range_end (I.ok.hd hc) st (by have : n ≤ i := hg; omega) fun h' eb => ⟨rfl, I.turned (t' := s.toks) (fun b o hb e => eb b o hb e) f0 f1 f3 f4 f5⟩
  self := fun _ _ _ _ _ st h => wpAny_pyIter_rangeiter st h
end L2
namespace L2
open PySem PySem.Spec PyProof.Rows
section
variable {X : Cx} {tg : Expr}
def iList (K : PySem.W.Frag) (tl : TE) : TI := fun σ H R => tl σ H fun x H1 => ∃ a, x = .ref a ∧ (∃ xs, SqL K H1 a xs) ∧ R (Itl K a) H1
def iTup (K : PySem.W.Frag) (tl : TE) : TI := fun σ H R => tl σ H fun x H1 => ∃ a, x = .ref a ∧ (∃ xs, SqT K H1 a xs) ∧ R (Itt K a) H1
theorem pi_list {l : Expr} {tl : TE} (hl : PE X l tl) : PI X tg l (iList X.K tl) := by
  intro pins s σ H R I h
  refine thn (hl pins s σ H _ I h) fun v s1 ⟨x, H1, I1, r1, q1⟩ => ?_
  obtain ⟨a, e, ⟨xs, hq⟩, q⟩ := q1
  subst e
  cases r1
  obtain ⟨its, rv, p, hz⟩ := I1.list hq
  refine wpAny_pyIter_list p.isList ?_
  refine ⟨s1.heap.objs.size, [s1.heap.objs.size], _, _, H1, rfl, I1.kept (t' := s1.toks) fun b o e => Heap.get?_push_of_some _ e, turn_list a _, ⟨_, Heap.get?_push_size _ rfl, rfl, rfl⟩, fun b hb => ?_, q⟩
  have e : b = s1.heap.objs.size := by simpa using hb
  subst e
  exact I1.fpOk (Nat.le_refl _) (I1.hok.fresh (Nat.le_refl _))
/-- a range object just made, walked -/
theorem range_it {pins : List (Addr × Obj)} {σ : St} {H : Hp} {s : Shared} {R : It → Hp → Prop} {E : Value → Shared → Prop} {lo hi : Int} {t u v : Tok} {tk : Nat} (I : Inv X pins σ H s) (h1 : -(2 ^ 62) ≤ lo) (h2 : lo < 2 ^ 62) (h3 : -(2 ^ 62) ≤ hi) (h4 : hi < 2 ^ 62)
    (q : R (Itr lo (hi - lo).toNat) H) : wpAny (model X.prog X.w) X.A (pyIter (.ref s.heap.objs.size)) (PIE X pins σ tg R) E { s with heap := s.heap.push { cls := .type "range", data := .fields #[.int lo t, .int hi u, .int 1 v] }, toks := tk } := by
  refine wpAny_pyIter_range (IsRange.new ..) (small_one h1 h2 h3 h4) ?_
  have I1 : Inv X pins σ H { s with heap := s.heap.push { cls := .type "range", data := .fields #[.int lo t, .int hi u, .int 1 v] }, toks := tk } := I.kept fun b o e => Heap.get?_push_of_some _ e
  refine ⟨(s.heap.push { cls := .type "range", data := .fields #[.int lo t, .int hi u, .int 1 v] }).objs.size, [(s.heap.push { cls := .type "range", data := .fields #[.int lo t, .int hi u, .int 1 v] }).objs.size], _, _, H, rfl,
    I1.kept (t' := tk) fun b o e => Heap.get?_push_of_some _ e, turn_range _ lo (hi - lo).toNat, ?_, fun b hb => ?_, q⟩
  · have e1 : lo + ((0 : Nat) : Int) * 1 = lo := by simp
    have e2 : (((hi - lo).toNat : Nat) : Int) - ((0 : Nat) : Int) = Builtin.Range.rangeSize lo hi 1 := by rw [rangeSize_one]; split <;> omega
    show IsRangeIter _ _ (lo + ((0 : Nat) : Int) * 1) ((((hi - lo).toNat : Nat) : Int) - ((0 : Nat) : Int)) 1
    rw [e1, e2]
    exact Heap.get?_push_size _ rfl
  · have e : b = (s.heap.push { cls := .type "range", data := .fields #[.int lo t, .int hi u, .int 1 v] }).objs.size := by simpa using hb
    subst e
    exact I1.fpOk (Nat.le_refl _) (I1.hok.fresh (Nat.le_refl _))
def iRng1 (ta : TA) : TI := fun σ H R => ta σ H fun vs H1 => ∃ j : Int, vs = [.int j] ∧ -(2 ^ 62) ≤ j ∧ j < 2 ^ 62 ∧ R (Itr 0 j.toNat) H1
def iRng2 (ta : TA) : TI := fun σ H R => ta σ H fun vs H1 => ∃ i j : Int, vs = [.int i, .int j] ∧ (-(2 ^ 62) ≤ i ∧ i < 2 ^ 62 ∧ -(2 ^ 62) ≤ j ∧ j < 2 ^ 62) ∧ R (Itr i (j - i).toNat) H1
theorem pi_range1 {a : Expr} {ta : TA} {p pos : Pos} (hg : Gl X "range") (hm : X.mg "range" = none) (ha : PA X [a] ta) (hs : starEach [a] X.env = [(false, eval a X.env)] := by rfl) : PI X tg (.Call (.Name "range" p) [a] [] pos) (iRng1 ta) := by
  intro pins s σ H R I h
  refine Call_ (ld_blt I hg hm boot_range (PyProof.Rows.callWith_type1 (thn (ha pos pins s σ H _ I h) fun us s1 ⟨vs, H1, I1, r1, q1⟩ => ?_) hs rfl))
  obtain ⟨j, e, q1, q2, q⟩ := q1
  subst e
  cases r1 with
  | cons r rr =>
    cases rr
    obtain ⟨t, rfl⟩ := r
    exact call_range_1 (range_it I1 (by omega) (by omega) q1 q2 (by simpa using q))
theorem pi_range2 {a b : Expr} {ta : TA} {p pos : Pos} (hg : Gl X "range") (hm : X.mg "range" = none) (ha : PA X [a, b] ta) (hs : starEach [a, b] X.env = [(false, eval a X.env), (false, eval b X.env)] := by rfl) (hs2 : starEach [b] X.env = [(false, eval b X.env)] := by rfl) :
    PI X tg (.Call (.Name "range" p) [a, b] [] pos) (iRng2 ta) := by
  intro pins s σ H R I h
  refine Call_ (ld_blt I hg hm boot_range (PyProof.Rows.callWith_type1 (thn (ha pos pins s σ H _ I h) fun us s1 ⟨vs, H1, I1, r1, q1⟩ => ?_) (by rw [hs, hs2]) (by rw [hs2]; rfl)))
  obtain ⟨i, j, e, ⟨q1, q2, q3, q4⟩, q⟩ := q1
  subst e
  cases r1 with
  | cons r rr =>
    cases rr with
    | cons r' rr =>
      cases rr
      obtain ⟨t, rfl⟩ := r
      obtain ⟨t', rfl⟩ := r'
      exact call_range_2 (range_it I1 q1 q2 q3 q4 q)

/-! ### for -/
/-- W: the invariant by the turn and a measure; N: what the body is to reach -/
def tFor (wi : TI) (g : TG) (tb : TS) : TS := fun D σ H => wi σ H fun J H1 => ∃ W : Nat → Nat → St → Hp → Prop, (∃ m, W 0 m σ H1) ∧ ∀ i m σ H, W i m σ H →
  (J.stop i H ∧ D.nx σ H) ∨ (J.go i H ∧ ∃ N : St → Hp → Prop, (∀ σ' H', N σ' H' → ∃ m', m' < m ∧ W (i + 1) m' σ' H') ∧ ∀ x H', J.yld i H x H' → g x σ H' fun σ2 H2 => tb { D with nx := N, ct := N, bk := D.nx } σ2 H2)
/-- the records at fp as they stand -/
def pinsAt (fp : List Addr) (h : Heap) : List (Addr × Obj) := fp.filterMap fun b => (h.get? b).map fun o => (b, o)
theorem mem_pinsAt {fp : List Addr} {h : Heap} {b : Addr} {o : Obj} (hb : b ∈ fp) (e : h.get? b = some o) : (b, o) ∈ pinsAt fp h := List.mem_filterMap.mpr ⟨b, hb, by rw [e]; rfl⟩
theorem of_pinsAt {fp : List Addr} {h : Heap} {p : Addr × Obj} (hp : p ∈ pinsAt fp h) : p.1 ∈ fp ∧ h.get? p.1 = some p.2 := by
  obtain ⟨b, hb, e⟩ := List.mem_filterMap.mp hp
  cases q : h.get? b with
  | none => rw [q] at e; cases e
  | some o =>
    rw [q] at e
    have e' : (b, o) = p := Option.some.inj e
    subst e'
    exact ⟨hb, q⟩
theorem Inv.pinned {pins : List (Addr × Obj)} {σ : St} {H : Hp} {s : Shared} {fp : List Addr} (I : Inv X pins σ H s) (hf : ∀ b ∈ fp, FpOk X pins H b) (ho : ∀ b ∈ fp, ∃ o, s.heap.get? b = some o ∧ ∀ v, o.data ≠ .cell v) : Inv X (pins ++ pinsAt fp s.heap) σ H s :=
  I.pins_of fun p hp => (List.mem_append.mp hp).elim (fun z => I.pin p (List.mem_append_right _ z)) fun z => by
    obtain ⟨hb, e⟩ := of_pinsAt z
    obtain ⟨f0, f1, f2, _⟩ := hf p.1 hb
    obtain ⟨o, e', d⟩ := ho p.1 hb
    rw [e] at e'; cases e'
    exact ⟨e, f0, f1, f2, d⟩
theorem Inv.unpinned {pins pl : List (Addr × Obj)} {σ : St} {H : Hp} {s : Shared} (I : Inv X (pins ++ pl) σ H s) : Inv X pins σ H s := I.pins_of fun p hp => I.pin p (List.mem_append_right _ (List.mem_append_left _ hp))
theorem ps_for {iter : Expr} {body : List Stmt} {wi : TI} {g : TG} {tb : TS} {pos : Pos} (hp : PassesOwn (model X.prog X.w) X.A X.env X.xe) (hc : X.calm = true) (hi : PI X tg iter wi) (hg : PG X tg g) (hb : PSs X body tb)
    (hs : ∀ x, foldedSetIterable iter X.env x = pure x := by intro _; rfl) : PS X (.For tg iter body [] pos) (tFor wi g tb) := by
  intro pins s σ H D I h
  refine wpAny_For (thn (hi pins s σ H _ I h) fun v s1 h1 => thn h1 fun itv s2 h2 => ?_) hs
  obtain ⟨it, fp, tn, J, H2, e, I2, T, st2, f2, W, ⟨m0, w0⟩, turn⟩ := h2
  subst e
  -- what stays true of the iterator's objects through the loop
  have stat : ∀ {H' : Hp}, (∀ b ∈ fp, H' b = none) → ∀ b ∈ fp, FpOk X pins H' b := fun hn b hb => ⟨hn b hb, (f2 b hb).2⟩
  refine codeAny_forLoop_any (fun n s' => ∃ i σ' H', Inv X pins σ' H' s' ∧ tn i s'.heap ∧ (∀ b ∈ fp, H' b = none) ∧ W i n σ' H') ?_ m0 ⟨0, σ, H2, I2, st2, fun b hb => (f2 b hb).1, w0⟩
  rintro n s3 ⟨i, σ3, H3, I3, st3, fr3, w3⟩
  rcases turn i n σ3 H3 w3 with ⟨stop, qn⟩ | ⟨go, N, hN, step⟩
  · refine wpAny_passesOwn hp (thn (T.done X rfl rfl rfl hc i pins s3 σ3 H3 X.xe I3 (stat fr3) st3 stop) fun r s4 ⟨hr, I4⟩ => ?_)
    subst hr
    exact wpAny_execs_nil ⟨σ3, H3, I4, qn⟩
  · refine wpAny_passesOwn hp (thn (T.item X rfl rfl rfl hc i pins s3 σ3 H3 X.xe I3 (stat fr3) st3 go) fun r s4 ⟨u, hr, h4⟩ => ?_)
    subst hr
    refine wpAny_passesOwn hp (thn h4 fun _ s5 ⟨x, H5, I5, r5, y5, st5, fr5⟩ => ?_)
    have I5' := I5.pinned (stat fr5) (T.obj _ _ st5)
    refine wpAny_passesOwn hp (thn (hg _ s5 σ3 H5 x u _ I5' r5 (step x H5 y5)) fun _ s6 ⟨σ6, H6, I6, q6⟩ => ?_)
    refine wpAny_passesOwn hp (thn (hb _ s6 σ6 H6 _ I6 q6) fun f s7 q7 => ?_)
    have again : ∀ {σ7 : St} {H7 : Hp}, Inv X (pins ++ pinsAt fp s5.heap) σ7 H7 s7 → N σ7 H7 → ∃ m, m < n ∧ ∃ i σ' H', Inv X pins σ' H' s7 ∧ tn i s7.heap ∧ (∀ b ∈ fp, H' b = none) ∧ W i m σ' H' := fun {σ7 H7} I7 n7 => by
      obtain ⟨m', hm, w7⟩ := hN σ7 H7 n7
      refine ⟨m', hm, i + 1, σ7, H7, I7.unpinned, T.keep _ _ _ st5 fun b hb o e => (I7.pin (b, o) (List.mem_append_right _ (List.mem_append_right _ (mem_pinsAt hb e)))).1, fun b hb => ?_, w7⟩
      obtain ⟨o, e, d⟩ := T.obj _ _ st5 b hb
      exact (I7.pin (b, o) (List.mem_append_right _ (List.mem_append_right _ (mem_pinsAt hb e)))).2.1
    cases f with
    | next => obtain ⟨σ7, H7, I7, n7⟩ := q7; exact again I7 n7
    | cont => obtain ⟨σ7, H7, I7, n7⟩ := q7; exact again I7 n7
    | brk => obtain ⟨σ7, H7, I7, q7⟩ := q7; exact ⟨σ7, H7, I7.unpinned, q7⟩
    | ret v => obtain ⟨x7, σ7, H7, I7, r7, q7⟩ := q7; exact ⟨x7, σ7, H7, I7.unpinned, r7, q7⟩
end
/-! ### the forms one uses -/
/-- over a list that the body leaves as it is -/
theorem for_list {K : PySem.W.Frag} {a : Addr} {xs : List V} {g : TG} {tb : TS} {D : Ends} {σ : St} {H : Hp} (Pv : Nat → St → Hp → Prop) (h0 : Pv 0 σ H) (hl : ∀ i σ H, i ≤ xs.length → Pv i σ H → SqL K H a xs)
    (hs : ∀ i x σ H, xs[i]? = some x → Pv i σ H → g x σ H fun σ2 H2 => tb { D with nx := Pv (i + 1), ct := Pv (i + 1), bk := D.nx } σ2 H2) (hd : ∀ σ H, Pv xs.length σ H → D.nx σ H) :
    ∃ W : Nat → Nat → St → Hp → Prop, (∃ m, W 0 m σ H) ∧ ∀ i m σ H, W i m σ H →
      ((Itl K a).stop i H ∧ D.nx σ H) ∨ ((Itl K a).go i H ∧ ∃ N : St → Hp → Prop, (∀ σ' H', N σ' H' → ∃ m', m' < m ∧ W (i + 1) m' σ' H') ∧ ∀ x H', (Itl K a).yld i H x H' → g x σ H' fun σ2 H2 => tb { D with nx := N, ct := N, bk := D.nx } σ2 H2) := by
  refine ⟨fun i m σ H => m = xs.length - i ∧ i ≤ xs.length ∧ Pv i σ H, ⟨xs.length, by simp, Nat.zero_le _, h0⟩, ?_⟩
  rintro i m σ H ⟨rfl, hi, p⟩
  have q := hl i σ H hi p
  by_cases hlt : i < xs.length
  · refine .inr ⟨⟨xs, xs[i], q, by simp [hlt]⟩, Pv (i + 1), fun σ' H' p' => ⟨xs.length - (i + 1), by omega, rfl, hlt, p'⟩, fun x H' y => ?_⟩
    obtain ⟨e, y⟩ := y
    subst e
    exact hs i x σ _ (y xs q) p
  · have e : i = xs.length := by omega
    subst e
    exact .inl ⟨⟨xs, q, Nat.le_refl _⟩, hd σ H p⟩
theorem for_range {lo : Int} {n : Nat} {g : TG} {tb : TS} {D : Ends} {σ : St} {H : Hp} (Pv : Nat → St → Hp → Prop) (h0 : Pv 0 σ H)
    (hs : ∀ i σ H, i < n → Pv i σ H → g (.int (lo + i)) σ H fun σ2 H2 => tb { D with nx := Pv (i + 1), ct := Pv (i + 1), bk := D.nx } σ2 H2) (hd : ∀ σ H, Pv n σ H → D.nx σ H) :
    ∃ W : Nat → Nat → St → Hp → Prop, (∃ m, W 0 m σ H) ∧ ∀ i m σ H, W i m σ H →
      ((Itr lo n).stop i H ∧ D.nx σ H) ∨ ((Itr lo n).go i H ∧ ∃ N : St → Hp → Prop, (∀ σ' H', N σ' H' → ∃ m', m' < m ∧ W (i + 1) m' σ' H') ∧ ∀ x H', (Itr lo n).yld i H x H' → g x σ H' fun σ2 H2 => tb { D with nx := N, ct := N, bk := D.nx } σ2 H2) := by
  refine ⟨fun i m σ H => m = n - i ∧ i ≤ n ∧ Pv i σ H, ⟨n, by simp, Nat.zero_le _, h0⟩, ?_⟩
  rintro i m σ H ⟨rfl, hi, p⟩
  by_cases hlt : i < n
  · refine .inr ⟨hlt, Pv (i + 1), fun σ' H' p' => ⟨n - (i + 1), by omega, rfl, hlt, p'⟩, fun x H' y => ?_⟩
    obtain ⟨e, y⟩ := y
    subst e y
    exact hs i σ _ hlt p
  · have e : i = n := by omega
    subst e
    exact .inl ⟨Nat.le_refl _, hd σ H p⟩
end L2
namespace L2
open PySem PySem.Spec PyProof.Rows
abbrev R2 := V → V → Hp → VK → Prop
/-- a two-place operation on values: f is binaryOp op, inplaceOp op or compareOp op -/
def OpR (X : Cx) (f : Value → Value → Sem Value) (r : R2) : Prop :=
  ∀ (pins : List (Addr × Obj)) (s : Shared) (σ : St) (H : Hp) (x y : V) (v u : Value) (Q : VK), Inv X pins σ H s → RelV x v → RelV y u → r x y H Q →
    wpAny (model X.prog X.w) X.A (f v u) (EP X pins σ Q) X.xe s
/-- a one-place operation -/
def UnR (X : Cx) (f : Value → Sem Value) (r : V → Hp → VK → Prop) : Prop :=
  ∀ (pins : List (Addr × Obj)) (s : Shared) (σ : St) (H : Hp) (x : V) (v : Value) (Q : VK), Inv X pins σ H s → RelV x v → r x H Q →
    wpAny (model X.prog X.w) X.A (f v) (EP X pins σ Q) X.xe s
/-- a call of a value that is known (a builtin, a type) with values -/
def CallR (X : Cx) (f : Value) (r : List V → Hp → VK → Prop) : Prop :=
  ∀ (pins : List (Addr × Obj)) (s : Shared) (σ : St) (H : Hp) (xs : List V) (us : List Value) (Q : VK), Inv X pins σ H s → Vals xs us → r xs H Q →
    wpAny (model X.prog X.w) X.A (call f us) (EP X pins σ Q) X.xe s
/-- a value's truth -/
def TruR (X : Cx) (r : V → Hp → (Bool → Hp → Prop) → Prop) : Prop :=
  ∀ (pins : List (Addr × Obj)) (s : Shared) (σ : St) (H : Hp) (x : V) (v : Value) (Q : Bool → Hp → Prop), Inv X pins σ H s → RelV x v → r x H Q →
    wpAny (model X.prog X.w) X.A (truthy v) (TP X pins σ Q) X.xe s

def tOp (r : R2) (ta tb : TE) : TE := fun σ H Q => ta σ H fun x H1 => tb σ H1 fun y H2 => r x y H2 Q
def tUn (r : V → Hp → VK → Prop) (ta : TE) : TE := fun σ H Q => ta σ H fun x H1 => r x H1 Q
/-- ints in, under C, and a value out -/
def rI (C : Int → Int → Prop) (g : Int → Int → V) : R2 := fun x y H Q => ∃ i j, x = .int i ∧ y = .int j ∧ C i j ∧ Q (g i j) H
def rI0 (g : Int → Int → V) : R2 := fun x y H Q => ∃ i j, x = .int i ∧ y = .int j ∧ Q (g i j) H
def rU (g : Int → V) : V → Hp → VK → Prop := fun x H Q => ∃ i, x = .int i ∧ Q (g i) H

section
variable {X : Cx} {a b c : Expr} {ta tb tc : TE} {pos : Pos}
theorem binT (ha : PE X a ta) (hb : PE X b tb) {pins : List (Addr × Obj)} {s : Shared} {σ : St} {H : Hp} {R : V → V → Hp → Prop} (I : Inv X pins σ H s)
    (h : ta σ H fun x H1 => tb σ H1 fun y H2 => R x y H2) {Q : Value → Shared → Prop} {f : Value → Value → Sem Value}
    (hf : ∀ v u s2 x y H2, Inv X pins σ H2 s2 → RelV x v → RelV y u → R x y H2 → wpAny (model X.prog X.w) X.A (f v u) Q X.xe s2) :
    wpAny (model X.prog X.w) X.A (eval a X.env) (fun v s₁ => wpAny (model X.prog X.w) X.A (eval b X.env) (fun u s₂ => wpAny (model X.prog X.w) X.A (f v u) Q X.xe s₂) X.xe s₁) X.xe s := by
  refine thn (ha pins s σ H _ I h) fun v s1 ⟨x, H1, I1, r1, q1⟩ => ?_
  refine thn (hb pins s1 σ H1 _ I1 q1) fun u s2 ⟨y, H2, I2, r2, q2⟩ => ?_
  exact hf v u s2 x y H2 I2 r1 r2 q2

theorem pe_op {op : Operator} {r : R2} (ho : OpR X (binaryOp op) r) (ha : PE X a ta) (hb : PE X b tb) : PE X (.BinOp a op b pos) (tOp r ta tb) := by
  intro pins s σ H Q I h
  exact wpAny_BinOp (binT ha hb I h fun v u s2 x y H2 I2 rx ry q => ho pins s2 σ H2 x y v u Q I2 rx ry q)
/-! ### ints -/
theorem opI {f : Value → Value → Sem Value} {C : Int → Int → Prop} {g : Int → Int → Int}
    (rule : ∀ (i j : Int) (t u : Tok) (s : Shared) (Q : Value → Shared → Prop) (E : Value → Shared → Prop), C i j → Q (.int (g i j) s.toks) { s with toks := s.toks + 1 } → wpAny (model X.prog X.w) X.A (f (.int i t) (.int j u)) Q E s) :
    OpR X f (rI C fun i j => .int (g i j)) := by
  intro pins s σ H x y v u Q I rx ry h
  obtain ⟨i, j, rfl, rfl, hc, q⟩ := h
  obtain ⟨t, rfl⟩ := rx
  obtain ⟨t', rfl⟩ := ry
  exact rule i j t t' s _ _ hc ⟨.int (g i j), H, I.tok _, ⟨_, rfl⟩, q⟩
theorem opI0 {f : Value → Value → Sem Value} {g : Int → Int → Int}
    (rule : ∀ (i j : Int) (t u : Tok) (s : Shared) (Q : Value → Shared → Prop) (E : Value → Shared → Prop), Q (.int (g i j) s.toks) { s with toks := s.toks + 1 } → wpAny (model X.prog X.w) X.A (f (.int i t) (.int j u)) Q E s) :
    OpR X f (rI0 fun i j => .int (g i j)) := by
  intro pins s σ H x y v u Q I rx ry h
  obtain ⟨i, j, rfl, rfl, q⟩ := h
  obtain ⟨t, rfl⟩ := rx
  obtain ⟨t', rfl⟩ := ry
  exact rule i j t t' s _ _ ⟨.int (g i j), H, I.tok _, ⟨_, rfl⟩, q⟩
theorem opB0 {f : Value → Value → Sem Value} {g : Int → Int → Bool}
    (rule : ∀ (i j : Int) (t u : Tok) (s : Shared) (Q : Value → Shared → Prop) (E : Value → Shared → Prop), Q (.bool (g i j)) s → wpAny (model X.prog X.w) X.A (f (.int i t) (.int j u)) Q E s) :
    OpR X f (rI0 fun i j => .bl (g i j)) := by
  intro pins s σ H x y v u Q I rx ry h
  obtain ⟨i, j, rfl, rfl, q⟩ := h
  obtain ⟨t, rfl⟩ := rx
  obtain ⟨t', rfl⟩ := ry
  exact rule i j t t' s _ _ ⟨.bl (g i j), H, I, rfl, q⟩

def CDiv (i j : Int) : Prop := 0 < j ∧ j < 1073741824
def CDivN (i j : Int) : Prop := j ≠ 0 ∧ j.natAbs < 1073741824
def CPow (i j : Int) : Prop := 0 ≤ j ∧ j ≤ 1000000 ∧ i.natAbs < 2 ^ 64
def CMul (i j : Int) : Prop := (-(2 ^ 64) < i ∧ i < 2 ^ 64) ∨ (-(2 ^ 64) < j ∧ j < 2 ^ 64)
theorem CMul.ok {i j : Int} (h : CMul i j) : IntMulOk i j := by
  rcases h with ⟨h1, h2⟩ | ⟨h1, h2⟩
  · exact .of_left (intBits_le_64 h1 h2)
  · exact .of_right (intBits_le_64 h1 h2)
theorem op_add : OpR X (binaryOp .Add) (rI0 fun i j => .int (i + j)) := opI0 fun _ _ _ _ _ _ _ q => add_int q
theorem op_sub : OpR X (binaryOp .Sub) (rI0 fun i j => .int (i - j)) := opI0 fun _ _ _ _ _ _ _ q => sub_int q
theorem op_mul : OpR X (binaryOp .Mult) (rI CMul fun i j => .int (i * j)) := opI fun _ _ _ _ _ _ _ hc q => mul_int q hc.ok
/-- // by a positive divisor -/
theorem op_fdiv : OpR X (binaryOp .FloorDiv) (rI CDiv fun i j => .int (i / j)) := opI fun i j _ _ _ _ _ hc q => by
  have h1 : (0 : Int) < j := hc.1
  have h2 : j < 1073741824 := hc.2
  exact floordiv_int (by omega) (by rw [Int.fdiv_eq_ediv_of_nonneg i (by omega)]; exact q) (.inl (PyProof.noPylong_small (by omega)))
/-- % by a positive divisor of any size -/
theorem op_mod : OpR X (binaryOp .Mod) (rI (fun _ j => 0 < j) fun i j => .int (i % j)) := opI fun i j _ _ _ _ _ hc q => by
  have h1 : (0 : Int) < j := hc
  exact mod_int' (by omega) (by rw [Int.fmod_eq_emod_of_nonneg i (by omega)]; exact q)
end
/-! ### comparisons -/
/-- the scalars that == tells apart as data does -/
def scal : V → V → Bool
  | .non, .non => true | .non, .int _ => true | .int _, .non => true | .non, .bl _ => true | .bl _, .non => true | .non, .str _ => true | .str _, .non => true
  | .int _, .int _ => true | .bl _, .bl _ => true | .str _, .str _ => true | .byt _, .byt _ => true
  | .int _, .str _ => true | .str _, .int _ => true | .bl _, .str _ => true | .str _, .bl _ => true
  | _, _ => false
def rEq : R2 := fun x y H Q => scal x y = true ∧ Q (.bl (decide (x = y))) H
def rNe : R2 := fun x y H Q => scal x y = true ∧ Q (.bl (!decide (x = y))) H

theorem dec_int {i j : Int} : decide (V.int i = V.int j) = (i == j) := by
  rw [Bool.eq_iff_iff]
  simp
theorem dec_bl {i j : Bool} : decide (V.bl i = V.bl j) = (i == j) := by
  rw [Bool.eq_iff_iff]
  simp
theorem dec_str {i j : Str} : decide (V.str i = V.str j) = (i == j) := by
  rw [Bool.eq_iff_iff]
  simp
theorem dec_byt {i j : Array UInt8} : decide (V.byt i = V.byt j) = (i.toList == j.toList) := by
  rw [Bool.eq_iff_iff]
  cases i
  cases j
  simp

section
variable {X : Cx} {a b c : Expr} {ta tb tc : TE} {pos : Pos}
theorem fin_bl {pins : List (Addr × Obj)} {σ : St} {H : Hp} {s : Shared} {Q : VK} {k k' : Bool} (I : Inv X pins σ H s) (q : Q (.bl k) H) (e : k = k') : EP X pins σ Q (.bool k') s := by
  subst e
  exact ⟨.bl k, H, I, rfl, q⟩
theorem op_eq : OpR X (compareOp .Eq) rEq := by
  intro pins s σ H x y v u Q I rx ry h
  obtain ⟨hs, q⟩ := h
  cases x with
  | non =>
    cases rx
    cases y with
    | non => cases ry; exact PySem.EqNone.eq_none_none (fin_bl I q (by simp))
    | bl j => cases ry; exact PySem.EqNone.eq_none_bool (fin_bl I q (by simp))
    | int j => obtain ⟨t', rfl⟩ := ry; exact PySem.EqNone.eq_none_int (fin_bl I q (by simp))
    | str j => obtain ⟨t', rfl⟩ := ry; exact PySem.EqNone.eq_none_str (fin_bl I q (by simp))
    | _ => exact absurd (show false = true from hs) Bool.false_ne_true
  | bl i =>
    cases rx
    cases y with
    | non => cases ry; exact PySem.EqNone.eq_bool_none (fin_bl I q (by simp))
    | bl j => cases ry; exact eq_bool (fin_bl I q dec_bl)
    | str j => obtain ⟨t', rfl⟩ := ry; exact PySem.EqMixed.eq_bool_str (fin_bl I q (by simp))
    | _ => exact absurd (show false = true from hs) Bool.false_ne_true
  | int i =>
    obtain ⟨t, rfl⟩ := rx
    cases y with
    | non => cases ry; exact PySem.EqNone.eq_int_none (fin_bl I q (by simp))
    | int j => obtain ⟨t', rfl⟩ := ry; exact eq_int (fin_bl I q dec_int)
    | str j => obtain ⟨t', rfl⟩ := ry; exact PySem.EqMixed.eq_int_str (fin_bl I q (by simp))
    | _ => exact absurd (show false = true from hs) Bool.false_ne_true
  | str i =>
    obtain ⟨t, rfl⟩ := rx
    cases y with
    | non => cases ry; exact PySem.EqNone.eq_str_none (fin_bl I q (by simp))
    | bl j => cases ry; exact PySem.EqMixed.eq_str_bool (fin_bl I q (by simp))
    | int j => obtain ⟨t', rfl⟩ := ry; exact PySem.EqMixed.eq_str_int (fin_bl I q (by simp))
    | str j => obtain ⟨t', rfl⟩ := ry; exact eq_str (fin_bl I q dec_str)
    | _ => exact absurd (show false = true from hs) Bool.false_ne_true
  | byt i =>
    obtain ⟨t, rfl⟩ := rx
    cases y with
    | byt j => obtain ⟨t', rfl⟩ := ry; exact PySem.W.eq_bytes (fin_bl I q dec_byt)
    | _ => exact absurd (show false = true from hs) Bool.false_ne_true
  | _ => cases y <;> exact absurd (show false = true from hs) Bool.false_ne_true
theorem op_ne : OpR X (compareOp .NotEq) rNe := by
  intro pins s σ H x y v u Q I rx ry h
  obtain ⟨hs, q⟩ := h
  cases x with
  | non =>
    cases rx
    cases y with
    | non => cases ry; exact PySem.EqNone.ne_none_none (fin_bl I q (by simp))
    | bl j => cases ry; exact PySem.EqNone.ne_none_bool (fin_bl I q (by simp))
    | int j => obtain ⟨t', rfl⟩ := ry; exact PySem.EqNone.ne_none_int (fin_bl I q (by simp))
    | str j => obtain ⟨t', rfl⟩ := ry; exact PySem.EqNone.ne_none_str (fin_bl I q (by simp))
    | _ => exact absurd (show false = true from hs) Bool.false_ne_true
  | bl i =>
    cases rx
    cases y with
    | non => cases ry; exact PySem.EqNone.ne_bool_none (fin_bl I q (by simp))
    | bl j => cases ry; exact ne_bool (fin_bl I q (congrArg not dec_bl))
    | str j => obtain ⟨t', rfl⟩ := ry; exact PySem.EqMixed.ne_bool_str (fin_bl I q (by simp))
    | _ => exact absurd (show false = true from hs) Bool.false_ne_true
  | int i =>
    obtain ⟨t, rfl⟩ := rx
    cases y with
    | non => cases ry; exact PySem.EqNone.ne_int_none (fin_bl I q (by simp))
    | int j => obtain ⟨t', rfl⟩ := ry; exact ne_int (fin_bl I q (congrArg not dec_int))
    | str j => obtain ⟨t', rfl⟩ := ry; exact PySem.EqMixed.ne_int_str (fin_bl I q (by simp))
    | _ => exact absurd (show false = true from hs) Bool.false_ne_true
  | str i =>
    obtain ⟨t, rfl⟩ := rx
    cases y with
    | non => cases ry; exact PySem.EqNone.ne_str_none (fin_bl I q (by simp))
    | bl j => cases ry; exact PySem.EqMixed.ne_str_bool (fin_bl I q (by simp))
    | int j => obtain ⟨t', rfl⟩ := ry; exact PySem.EqMixed.ne_str_int (fin_bl I q (by simp))
    | str j => obtain ⟨t', rfl⟩ := ry; exact ne_str (fin_bl I q (congrArg not dec_str))
    | _ => exact absurd (show false = true from hs) Bool.false_ne_true
  | byt i =>
    obtain ⟨t, rfl⟩ := rx
    cases y with
    | byt j => obtain ⟨t', rfl⟩ := ry; exact PySem.W.ne_bytes (fin_bl I q (congrArg not dec_byt))
    | _ => exact absurd (show false = true from hs) Bool.false_ne_true
  | _ => cases y <;> exact absurd (show false = true from hs) Bool.false_ne_true

theorem op_lt : OpR X (compareOp .Lt) (rI0 fun i j => .bl (decide (i < j))) := opB0 fun _ _ _ _ _ _ _ q => lt_int q
theorem op_le : OpR X (compareOp .LtE) (rI0 fun i j => .bl (decide (i ≤ j))) := opB0 fun _ _ _ _ _ _ _ q => le_int q
theorem op_gt : OpR X (compareOp .Gt) (rI0 fun i j => .bl (decide (j < i))) := opB0 fun _ _ _ _ _ _ _ q => gt_int q
theorem op_ge : OpR X (compareOp .GtE) (rI0 fun i j => .bl (decide (j ≤ i))) := opB0 fun _ _ _ _ _ _ _ q => ge_int q
/-- is None, is not None: the right side a value none -/
theorem op_isN : OpR X (compareOp .Is) (fun x y H Q => y = .non ∧ Q (.bl (decide (x = .non))) H) := by
  intro pins s σ H x y v u Q I rx ry h
  obtain ⟨rfl, q⟩ := h
  cases ry
  refine is_none_gen (fin_bl I q ?_)
  cases x <;> first
    | (cases rx; rfl)
    | (obtain ⟨t, rfl⟩ := rx; rfl)
/-- is, is not of two objects that are tracked lists or instances -/
def isObj : HO → Bool
  | .lst _ => true
  | .ins _ _ _ => true
  | _ => false
/-- two rules for one operation: by cases -/
theorem OpR.or {f : Value → Value → Sem Value} {r r' : R2} (h : OpR X f r) (h' : OpR X f r') : OpR X f (fun x y H Q => r x y H Q ∨ r' x y H Q) := by
  intro pins s σ H x y v u Q I rx ry q
  rcases q with q | q
  · exact h pins s σ H x y v u Q I rx ry q
  · exact h' pins s σ H x y v u Q I rx ry q

theorem nomark (b : Expr) {op : CmpOp} (h : op ≠ .In := by decide) (h2 : op ≠ .NotIn := by decide) : behindInMarks op b = false := by
  have e1 : (op == CmpOp.In) = false := by cases op <;> first | rfl | exact absurd rfl h
  have e2 : (op == CmpOp.NotIn) = false := by cases op <;> first | rfl | exact absurd rfl h2
  cases b <;> simp [behindInMarks, e1, e2]
/-- a comparison as a value; hm: nomark b, or (for in, not in) by with_unfolding_all rfl -/
theorem pe_cmpR {op : CmpOp} {r : R2} (ho : OpR X (compareOp op) r) (ha : PE X a ta) (hb : PE X b tb) (hm : behindInMarks op b = false) : PE X (.Compare a [op] [b] pos) (tOp r ta tb) := by
  intro pins s σ H Q I h
  exact wpAny_Compare1 (binT ha hb I h fun v u s2 x y H2 I2 rx ry q => ho pins s2 σ H2 x y v u Q I2 rx ry q) hm
/-- a reading of a value as a test -/
def tTest (t : TE) : TT := fun σ H Q => t σ H fun x H' => ∃ k, x = .bl k ∧ Q k H'
theorem pt_cmpR {op : CmpOp} {r : R2} (ho : OpR X (compareOp op) r) (ha : PE X a ta) (hb : PE X b tb) (hm : behindInMarks op b = false) : PT X (.Compare a [op] [b] pos) (tTest (tOp r ta tb)) := by
  intro pins s σ H Q I h
  refine wpAny_isTrue_Compare1 (thn (ha pins s σ H _ I h) fun v s1 ⟨x, H1, I1, r1, q1⟩ => thn (hb pins s1 σ H1 _ I1 q1) fun u s2 ⟨y, H2, I2, r2, q2⟩ =>
    thn (ho pins s2 σ H2 x y v u _ I2 r1 r2 q2) fun c s3 ⟨z, H3, I3, r3, k, e, q3⟩ => ?_) hm
  subst e
  cases r3
  exact wpAny_truthy_bool ⟨H3, I3, q3⟩
/-- a op1 b op2 c -/
def tChain (r r' : R2) (ta tb tc : TE) : TE := fun σ H Q => ta σ H fun x H1 => tb σ H1 fun y H2 => r x y H2 fun z H3 => ∃ k, z = .bl k ∧
  (if k = true then tc σ H3 fun w' H4 => r' y w' H4 Q else Q (.bl false) H3)
/-! ### truth -/
/-- a value's truth by the abstract heap -/
def TruV (K : PySem.W.Frag) (x : V) (H : Hp) (k : Bool) : Prop :=
  match x with
  | .non => k = false
  | .bl b => k = b
  | .int i => k = (i != 0)
  | .str y => y.length ≤ sizeLine ∧ k = ((y.length : Int) != 0)
  | .byt y => y.size ≤ sizeLine ∧ k = ((y.size : Int) != 0)
  | .ref p => (∃ xs, SqL K H p xs ∧ k = !xs.isEmpty) ∨ (∃ xs, SqT K H p xs ∧ k = !xs.isEmpty) ∨ ∃ kvs, H p = some (.dK kvs) ∧ k = !kvs.isEmpty
  | _ => False
theorem line63 : (sizeLine : Nat) < 2 ^ 63 := by rw [sizeLine_eq]; decide
def PlainIxT (b : Expr) : Prop := ∀ o i, subscripted b false o i = operate [o, i] (getItem o i)
/-! ### scalar builtins, by CallR -/
theorem vals1 {x : V} {us : List Value} (r : Vals [x] us) : ∃ u, us = [u] ∧ RelV x u := by
  cases r with
  | cons r1 r2 => cases r2; exact ⟨_, rfl, r1⟩
theorem vals2 {x y : V} {us : List Value} (r : Vals [x, y] us) : ∃ u w', us = [u, w'] ∧ RelV x u ∧ RelV y w' := by
  cases r with
  | cons r1 r2 =>
    cases r2 with
    | cons r3 r4 => cases r4; exact ⟨_, _, rfl, r1, r3⟩
theorem call_max2 (hc : X.calm = true) : CallR X (.builtin "max") (fun xs H Q => ∃ i j, xs = [.int i, .int j] ∧ Q (.int (if j > i then j else i)) H) := by
  intro pins s σ H xs us Q I r h
  obtain ⟨i, j, rfl, q⟩ := h
  obtain ⟨u, w', rfl, ⟨t, rfl⟩, ⟨t', rfl⟩⟩ := vals2 r
  refine max_two_ints (I.ok.hd hc) fun h' tk k => ⟨_, H, I.kept k, ?_, q⟩
  by_cases hj : j > i
  · rw [if_pos hj, if_pos hj]; exact ⟨_, rfl⟩
  · rw [if_neg hj, if_neg hj]; exact ⟨_, rfl⟩
theorem call_min2 (hc : X.calm = true) : CallR X (.builtin "min") (fun xs H Q => ∃ i j, xs = [.int i, .int j] ∧ Q (.int (if j < i then j else i)) H) := by
  intro pins s σ H xs us Q I r h
  obtain ⟨i, j, rfl, q⟩ := h
  obtain ⟨u, w', rfl, ⟨t, rfl⟩, ⟨t', rfl⟩⟩ := vals2 r
  refine min_two_ints (I.ok.hd hc) fun h' tk k => ⟨_, H, I.kept k, ?_, q⟩
  by_cases hj : j < i
  · rw [if_pos hj, if_pos hj]; exact ⟨_, rfl⟩
  · rw [if_neg hj, if_neg hj]; exact ⟨_, rfl⟩
theorem call_int1 : CallR X (.type "int") (fun xs H Q => (∃ i, xs = [.int i] ∧ Q (.int i) H) ∨ ∃ k, xs = [.bl k] ∧ Q (.int (if k then 1 else 0)) H) := by
  intro pins s σ H xs us Q I r h
  rcases h with ⟨i, rfl, q⟩ | ⟨k, rfl, q⟩
  · obtain ⟨u, rfl, t, rfl⟩ := vals1 r
    exact call_int_int ⟨.int i, H, I, ⟨_, rfl⟩, q⟩
  · obtain ⟨u, rfl, r1⟩ := vals1 r
    cases r1
    exact call_int_bool ⟨.int (if k then 1 else 0), H, I.tok _, ⟨_, rfl⟩, q⟩
/-- len of a str, a bytes, a list, a tuple -/
def LenV (K : PySem.W.Frag) (x : V) (H : Hp) (n : Nat) : Prop :=
  match x with
  | .str y => y.length ≤ sizeLine ∧ n = y.length
  | .byt y => y.size ≤ sizeLine ∧ n = y.size
  | .ref p => (∃ xs, SqL K H p xs ∧ n = xs.length) ∨ ∃ xs, SqT K H p xs ∧ n = xs.length
  | _ => False
end
end L2
namespace L2
open PySem PySem.Spec PyProof.Rows
/-! ### an instance, its attributes a map -/
structure ObjM (h : Heap) (x dx C : Addr) (mA : Str → Option Value) : Prop where
  obj : h.get? x = some (PySem.W.instObj C dx)
  ns : h.Ns1 dx mA
  ne : dx ≠ x

theorem lookIn_ns {h : Heap} {dx : Addr} {mA : Str → Option Value} (n : h.Ns1 dx mA) : ∃ od, h.get? dx = some od ∧ ∀ name, PySem.W.lookIn name od = some (mA name) := by
  obtain ⟨o, es, ep, ho, hd, hk, _, hm⟩ := n
  refine ⟨o, ho, fun name => ?_⟩
  have e := hm name
  unfold nsFind findBy at e
  rw [← Array.find?_toList] at e
  unfold PySem.W.lookIn
  rw [hd]
  dsimp only
  split
  · rename_i y q
    rw [q] at e
    exact congrArg some e
  · rename_i q
    rw [q] at e
    have a : es.toList.any (·.refKey) = false := by
      rw [List.any_eq_false]
      intro y hy
      obtain ⟨z, t, hkey⟩ := hk y (Array.mem_toList_iff.mp hy)
      simp [DictEntry.refKey, hkey]
    have a' : ¬ es.toList.any (·.refKey) = true := by rw [a]; exact Bool.false_ne_true
    rw [if_neg a']
    exact congrArg some e

theorem ObjM.look {h : Heap} {x dx C : Addr} {mA : Str → Option Value} (I : ObjM h x dx C mA) : ∃ od, PySem.W.InstAt h x (PySem.W.instObj C dx) C (some od) ∧ ∀ name, PySem.W.lookIn name od = some (mA name) :=
  let ⟨od, ho, hl⟩ := lookIn_ns I.ns
  ⟨od, ⟨I.obj, rfl, rfl, ho⟩, hl⟩

section
variable {prog : Program} {w : World} {A : Around} {E : Value → Shared → Prop} {s : Shared} {K : PySem.W.Frag} {x dx C f : Addr} {mA : Str → Option Value} {name : Str} {v : Value}
end
/-! ### the attributes as a list of pairs -/
def putF (f : Str) (v : V) : List (Str × V) → List (Str × V)
  | [] => [(f, v)]
  | (g, x) :: r => if g = f then (g, v) :: r else (g, x) :: putF f v r
section
variable {P : Program} {w : World} {H H' : Hp} {h h' : Heap} {a C dx : Addr} {fs fs' : List (Str × V)}
theorem ins_get (hok : HOk P w H h) (e : H a = some (.ins C dx fs)) : ∃ mA, ObjM h a dx C mA ∧ (∀ f, RelO (fs.lookup f) (mA f)) ∧ PySem.Within mA (fs.map (·.1)) ∧ fs.length ≤ 1000 ∧ H dx = some (.own a) := by
  obtain ⟨d, z, ne, ob, mA, n, r, q⟩ := (show ObjOk P w H h a (.ins C dx fs) from hok a _ e)
  exact ⟨mA, ⟨ob, n, ne⟩, r, q, z, d⟩
end
/-! ### what of the text a class must have -/
structure Cls (K : PySem.W.Frag) (C : Addr) : Prop where
  pg : PySem.W.plainGet K C Str.empty = true
  hd : PySem.W.hasDictIn K C = true
  po : PySem.W.plainOver K C = true
  sa : PySem.W.findIn K (.ref C) "__setattr__" = some (some (.builtin "object.__setattr__"))
theorem Cls.get {K : PySem.W.Frag} {C : Addr} (c : Cls K C) (f : Str) : PySem.W.plainGet K C f = true := c.pg
/-- no class of it has the name -/
def NoAttr (K : PySem.W.Frag) (C : Addr) (f : Str) : Prop := PySem.W.findIn K (.ref C) f = some none
/-- a constant of the class -/
structure Con (K : PySem.W.Frag) (C : Addr) (f : Str) (v : V) (u : Value) : Prop where
  at_ : PySem.W.findIn K (.ref C) f = some (some u)
  rel : RelV v u
  get : PySem.W.specialIn K u "__get__" = some none
  cp : PySem.W.copiedNames.contains f = false
/-- a method: a plain def of the class or of one above it -/
structure Meth (K : PySem.W.Frag) (C : Addr) (m : Str) (f : Addr) : Prop where
  at_ : PySem.W.findIn K (.ref C) m = some (some (.ref f))
  fn : PySem.W.isFn K (.ref f) = true
  kp : PySem.W.keepIn K (.ref f) = true

section
variable {X : Cx} {pins : List (Addr × Obj)} {σ : St} {H : Hp} {s : Shared} {a C dx : Addr} {fs : List (Str × V)} {f : Str} {v : V} {A : Around} {E : Value → Shared → Prop}
/-- a new instance, tracked, without attributes -/
theorem Inv.made (I : Inv X pins σ H s) : Inv X pins σ (upd (upd H s.heap.objs.size (.own (s.heap.objs.size + 1))) (s.heap.objs.size + 1) (.ins C s.heap.objs.size []))
    { s with heap := (s.heap.push PySem.W.emptyDict).push (PySem.W.instObj C s.heap.objs.size) } := by
  have e1 : (s.heap.push PySem.W.emptyDict).get? s.heap.objs.size = some PySem.W.emptyDict := Heap.get?_push_size s.heap rfl
  have e2 : ((s.heap.push PySem.W.emptyDict).push (PySem.W.instObj C s.heap.objs.size)).get? (s.heap.objs.size + 1) = some (PySem.W.instObj C s.heap.objs.size) := by
    have := Heap.get?_push_size (s.heap.push PySem.W.emptyDict) (o := PySem.W.instObj C s.heap.objs.size) rfl
    rwa [Heap.size_push] at this
  have e3 : (s.heap.push PySem.W.emptyDict).Ns s.heap.objs.size (fun _ => none) := ⟨PySem.W.emptyDict, #[], _, e1, rfl, (fun e he => absurd he (by simp)), fun _ => rfl⟩
  have I1 := I.laid (a := s.heap.objs.size) (o := .own (s.heap.objs.size + 1)) (h' := s.heap.push PySem.W.emptyDict) (t' := s.toks) (fun b u q => Heap.get?_push_of_some _ q) (Nat.le_refl _) ⟨_, e1⟩
  refine I1.laid (a := s.heap.objs.size + 1) (o := .ins C s.heap.objs.size []) (t' := s.toks) (fun b u q => Heap.get?_push_of_some _ q) (Nat.le_of_eq (Heap.size_push _ _)) ?_
  have ne : s.heap.objs.size ≠ s.heap.objs.size + 1 := Nat.ne_of_lt (Nat.lt_succ_self _)
  refine ⟨by rw [upd_ne ne, upd_same], Nat.zero_le _, ne, e2, fun _ => none, (Heap.Ns1.of_empty e3).at fun o q => Heap.get?_push_of_some _ q, fun _ => True.intro, fun y hy => absurd rfl hy⟩

end
/-! ### readings and rules -/
/-- e.f, an attribute of the instance -/
def tFld (K : PySem.W.Frag) (ta : TE) (f : Str) : TE := fun σ H Q => ta σ H fun x H1 => ∃ a C dx fs v, x = .ref a ∧ H1 a = some (.ins C dx fs) ∧ Cls K C ∧ NoAttr K C f ∧ fs.lookup f = some v ∧ Q v H1
/-- e.f, a constant of the class -/
def tCon (K : PySem.W.Frag) (ta : TE) (f : Str) : TE := fun σ H Q => ta σ H fun x H1 => ∃ a C dx fs v u, x = .ref a ∧ H1 a = some (.ins C dx fs) ∧ Cls K C ∧ Con K C f v u ∧ fs.lookup f = none ∧ Q v H1
/-- e.f = value -/
def sFld (K : PySem.W.Frag) (ta tv : TE) (f : Str) : TS := fun D σ H => tv σ H fun y H1 => ta σ H1 fun x H2 => ∃ a C dx fs, x = .ref a ∧ H2 a = some (.ins C dx fs) ∧ Cls K C ∧ NoAttr K C f ∧ fs.length < 1000 ∧
  D.nx σ (upd H2 a (.ins C dx (putF f y fs)))
/-- an augmented operator on two values -/
def InOp (X : Cx) (op : Operator) (rd : V → V → Hp → VK → Prop) : Prop :=
  ∀ (pins : List (Addr × Obj)) (s : Shared) (σ : St) (H : Hp) (x y : V) (u v : Value) (Q : VK), Inv X pins σ H s → RelV x u → RelV y v → rd x y H Q → wpAny (model X.prog X.w) X.A (inplaceOp op u v) (EP X pins σ Q) X.xe s
/-- e.f op= value -/
def sFldAug (K : PySem.W.Frag) (ta tv : TE) (rd : V → V → Hp → VK → Prop) (f : Str) : TS := fun D σ H => ta σ H fun x H1 => ∃ a C dx fs v, x = .ref a ∧ H1 a = some (.ins C dx fs) ∧ Cls K C ∧ NoAttr K C f ∧ fs.lookup f = some v ∧
  tv σ H1 fun y H2 => rd v y H2 fun z H3 => ∃ dx' fs', H3 a = some (.ins C dx' fs') ∧ fs'.length < 1000 ∧ D.nx σ (upd H3 a (.ins C dx' (putF f z fs')))

section
variable {X : Cx} {o e value : Expr} {f : Str} {pos pos' tpos : Pos} {ta tv : TE}
def rAdd : V → V → Hp → VK → Prop := fun x y H Q => ∃ i j, x = .int i ∧ y = .int j ∧ Q (.int (i + j)) H
def rSub : V → V → Hp → VK → Prop := fun x y H Q => ∃ i j, x = .int i ∧ y = .int j ∧ Q (.int (i - j)) H
end
/-! ### isinstance -/
section
variable {X : Cx} {pins : List (Addr × Obj)} {σ : St} {H : Hp} {s : Shared} {A : Around} {E : Value → Shared → Prop} {Q : Value → Shared → Prop} {c : Value} {b : Bool}
/-- the type of a value, as the fragment's deciders take it; for an instance its class -/
inductive TyOf (K : PySem.W.Frag) (H : Hp) : V → Value → Prop where
  | non : TyOf K H .non (.type "NoneType")
  | bl (x : Bool) : TyOf K H (.bl x) (.type "bool")
  | int (i : Int) : TyOf K H (.int i) (.type "int")
  | str (x : Str) : TyOf K H (.str x) (.type "str")
  | flt (x : UInt64) : TyOf K H (.flt x) (.type "float")
  | lst {a : Addr} {xs : List V} (e : H a = some (.lst xs)) : TyOf K H (.ref a) (.type "list")
  | frz {a : Addr} {o : Obj} {xs : List V} (e : H a = some (.frz o (.lst xs))) : TyOf K H (.ref a) (.type "list")
  | tup {a : Addr} {xs : List V} (e : H a = some (.tup xs)) : TyOf K H (.ref a) (.type "tuple")
  | dK {a : Addr} {kvs : List (Key × V)} (e : H a = some (.dK kvs)) : TyOf K H (.ref a) (.type "dict")
  | dT {a : Addr} {kvs : List (List Key × V)} (e : H a = some (.dT kvs)) : TyOf K H (.ref a) (.type "dict")
  | ins {a C dx : Addr} {fs : List (Str × V)} (e : H a = some (.ins C dx fs)) (cl : Cls K C) (ha : PySem.W.findIn K (.ref C) "__class__" = some (some (.builtin "object.__class__")))
      (hn : PySem.W.specialIn K (.builtin "object.__class__") "__get__" = some (some (.builtin "getset_descriptor.__get__"))) (htk : PySem.W.takesIn K (.builtin "object.__class__") = some true)
      (hm : PySem.W.mroIn K C (.type "object") = some true) : TyOf K H (.ref a) (.ref C)
/-- isinstance(x, c) for one class c, a built-in or an own one: kitOne's answer -/
theorem isinst_ok {x : V} {u t : Value} (I : Inv X pins σ H s) (rx : RelV x u) (ty : TyOf X.K H x t) (e : PySem.W.kitOne X.K t c = some b) (h : ∀ tk, Q (.bool b) { s with toks := tk }) :
    wpAny (model X.prog X.w) A (call (.builtin "isinstance") [u, c]) Q E s := by
  cases ty with
  | non => cases (show u = Value.none from rx); exact PySem.W.kia_one PySem.W.kitx_none I.kIn True.intro e (fun z => nomatch z) h
  | bl y => cases (show u = Value.bool y from rx); exact PySem.W.kia_one PySem.W.kitx_bool I.kIn True.intro e (fun z => nomatch z) h
  | int i => obtain ⟨t, q⟩ := (show ∃ t, u = Value.int i t from rx); cases q; exact PySem.W.kia_one PySem.W.kitx_int I.kIn True.intro e (fun z => nomatch z) h
  | str y => obtain ⟨t, q⟩ := (show ∃ t, u = Value.str y t from rx); cases q; exact PySem.W.kia_one PySem.W.kitx_str I.kIn True.intro e (fun z => nomatch z) h
  | flt y => obtain ⟨t, q⟩ := (show ∃ t, u = Value.float y t from rx); cases q; exact PySem.W.kia_one PySem.W.kitx_float I.kIn True.intro e (fun z => nomatch z) h
  | @lst a xs ea =>
    cases (show u = Value.ref a from rx)
    obtain ⟨_, _, n, _, h1⟩ := (show ObjOk X.prog X.w H s.heap a (.lst xs) from I.hok a _ ea)
    exact PySem.W.kia_one PySem.W.kitx_list I.kIn ⟨_, h1, rfl⟩ e (fun z => nomatch z) h
  | @frz a ob xs ea =>
    cases (show u = Value.ref a from rx)
    obtain ⟨_, _, _, n, _, h1⟩ := (show ObjOk X.prog X.w H s.heap a (.frz ob (.lst xs)) from I.hok a _ ea)
    exact PySem.W.kia_one PySem.W.kitx_list I.kIn ⟨_, h1, rfl⟩ e (fun z => nomatch z) h
  | @tup a xs ea =>
    cases (show u = Value.ref a from rx)
    obtain ⟨_, _, _, p⟩ := (show ObjOk X.prog X.w H s.heap a (.tup xs) from I.hok a _ ea)
    obtain ⟨o, h1, h2, _⟩ := p
    exact PySem.W.kia_one PySem.W.kitx_tuple I.kIn ⟨o, h1, h2⟩ e (fun z => nomatch z) h
  | @dK a kvs ea =>
    cases (show u = Value.ref a from rx)
    obtain ⟨_, _, vs, _, p⟩ := (show ObjOk X.prog X.w H s.heap a (.dK kvs) from I.hok a _ ea)
    obtain ⟨o, es, ep, h1, h2, _⟩ := p
    exact PySem.W.kia_one PySem.W.kitx_dict I.kIn ⟨o, h1, h2.1⟩ e (fun z => nomatch z) h
  | @dT a kvs ea =>
    cases (show u = Value.ref a from rx)
    obtain ⟨_, _, xs, _, o, es, ep, h1, h2, _⟩ := (show ObjOk X.prog X.w H s.heap a (.dT kvs) from I.hok a _ ea)
    exact PySem.W.kia_one PySem.W.kitx_dict I.kIn ⟨o, h1, h2.1⟩ e (fun z => nomatch z) h
  | @ins a C dx fs ea cl ha hn htk hm =>
    cases (show u = Value.ref a from rx)
    obtain ⟨mA, O, _⟩ := ins_get I.hok ea
    obtain ⟨od, J, _⟩ := O.look
    exact PySem.W.kia_one (PySem.W.kitx_own (cl.get _) cl.hd ha hn htk hm) I.kIn J e (fun z => nomatch z) h
end
end L2
namespace L2
open PySem PySem.Spec PyProof.Rows
/-! ### room -/
structure Room (k : Nat) (A : Around) : Prop where
  hd : A.handled = none
  dp : A.depth + 3 * k + 5 < recursionLimit
  un : A.units + 16 * k + 200 < cLine
theorem Room.mono {j k : Nat} {A : Around} (r : Room k A) (h : j ≤ k) : Room j A := ⟨r.hd, by have := r.dp; omega, by have := r.un; omega⟩
theorem Room.deeper {k : Nat} {A : Around} (r : Room (k + 1) A) (env : Env) : Room k (A.deeper env) :=
  ⟨r.hd, by have := r.dp; show A.depth + 1 + 3 * k + 5 < _; omega, by have := r.un; show A.units + 3 + 16 * k + 200 < _; omega⟩
theorem Room.in1 {k : Nat} {A : Around} (r : Room (k + 1) A) : Room k A.in1 :=
  ⟨r.hd, by have := r.dp; show A.depth + 3 * k + 5 < _; omega, by have := r.un; show A.units + 1 + 16 * k + 200 < _; omega⟩
theorem Room.depth {k : Nat} {A : Around} (r : Room k A) : A.depth < recursionLimit := by have := r.dp; omega
theorem Room.units {k : Nat} {A : Around} (r : Room k A) : A.units + 64 < cLine := by have := r.un; omega
theorem Room.units0 {k : Nat} {A : Around} (r : Room k A) : A.units < cLine := by have := r.un; omega

/-! ### argument lists and displays -/
def tNil : TA := fun _ H Q => Q [] H
def tCons (ta : TE) (tr : TA) : TA := fun σ H Q => ta σ H fun x H1 => tr σ H1 fun xs H2 => Q (x :: xs) H2
section
variable {X : Cx} {e : Expr} {es : List Expr} {te : TE} {t : TA} {pos : Pos}
theorem pa_nil : PA X [] tNil := fun _ _ _ _ H Q I h => Calls.spliced_nil ⟨[], H, I, .nil, h⟩
theorem pa_cons (ha : PE X e te) (hr : PA X es t) (hs : starEach (e :: es) X.env = (false, eval e X.env) :: starEach es X.env := by rfl) : PA X (e :: es) (tCons te t) := by
  intro pos pins s σ H Q I h
  rw [hs]
  show wpAny _ _ (spliced ((false, eval e X.env) :: backTo pos (starEach es X.env))) _ _ s
  refine Calls.spliced_cons (thn (ha pins s σ H _ I h) fun u s1 ⟨x, H1, I1, r1, q1⟩ => ?_)
  exact thn (hr pos pins s1 σ H1 _ I1 q1) fun us s2 ⟨xs, H2, I2, r2, q2⟩ => ⟨x :: xs, H2, I2, .cons r1 r2, q2⟩

/-- a tuple, a list of written items -/
def tTup (t : TA) : TE := fun σ H Q => t σ H fun xs H1 => xs.length ≤ sizeLine ∧ ∀ p, H1 p = none → Q (.ref p) (upd H1 p (.tup xs))
def tLst (t : TA) : TE := fun σ H Q => t σ H fun xs H1 => xs.length ≤ sizeLine ∧ ∀ p, H1 p = none → Q (.ref p) (upd H1 p (.lst xs))
theorem pe_tup {x1} (h : PA X es t) : PE X (.Tuple es x1 pos) (tTup t) := by
  intro pins s σ H Q I hq
  refine wpAny_Tuple_spliced (thn (h pos pins s σ H _ I hq) fun us s1 ⟨xs, H1, I1, r, z, q⟩ => ⟨by rw [← r.length]; exact z, ?_⟩)
  have hf : H1 s1.heap.objs.size = none := I1.hok.fresh (Nat.le_refl _)
  refine ⟨.ref s1.heap.objs.size, upd H1 s1.heap.objs.size (.tup xs), I1.laid (t' := s1.toks) (fun b u e => Heap.get?_push_of_some _ e) (Nat.le_refl _) ?_, rfl, q _ hf⟩
  exact ⟨z, us, r, ⟨_, Heap.get?_push_size _ rfl, rfl, _, rfl⟩⟩
theorem pe_lst (h : PA X es t) : PE X (.List es pos) (tLst t) := by
  intro pins s σ H Q I hq
  refine wpAny_List_spliced (thn (h pos pins s σ H _ I hq) fun us s1 ⟨xs, H1, I1, r, z, q⟩ => ⟨by rw [← r.length]; exact z, ?_⟩)
  have hf : H1 s1.heap.objs.size = none := I1.hok.fresh (Nat.le_refl _)
  refine ⟨.ref s1.heap.objs.size, upd H1 s1.heap.objs.size (.lst xs), I1.laid (t' := s1.toks) (fun b u e => Heap.get?_push_of_some _ e) (Nat.le_refl _) ?_, rfl, q _ hf⟩
  exact ⟨z, us, 0, r, Heap.get?_push_size _ rfl⟩
end
/-! ### what a def promises -/
/-- a def's promise: the bound arguments in the parameters' order, the heap, the wanted end, the wanted exception -/
abbrev Sp := List V → Hp → VK → XK → Prop
/-- how an exception lies behind a call (file 08 gives it): the callers' frames, abstract heap and state ahead of the call, the wish, the exception, the state -/
abbrev CXT := List Env → Hp → Shared → XK → Value → Shared → Prop

/-- the state at a call -/
structure Env0 (P : Program) (w : World) (K : PySem.W.Frag) (mg : Str → Option Value) (base : Heap) (A : Around) (outer : List Env) (s : Shared) (H : Hp) : Prop where
  frames : A.frames = some outer
  mod : Mod K mg base
  bs : ∀ b o, base.get? b = some o → s.heap.get? b = some o ∧ H b = none
  bsz : base.objs.size ≤ s.heap.objs.size
  funs : s.heap.FunFrames base outer
  frf : ∀ b ∈ frs outer, H b = none
  hok : HOk P w H s.heap
  bare : AllBare s.gens
/-- a call's end -/
def CE (outer : List Env) (P : Program) (w : World) (H : Hp) (s : Shared) (Q : VK) (u : Value) (s' : Shared) : Prop :=
  ∃ v H', s'.os = s.os ∧ AllBare s'.gens ∧ Un (frs outer) [] H H' s.heap s'.heap ∧ HOk P w H' s'.heap ∧ RelV v u ∧ Q v H'
def CR (CX : CXT) (outer : List Env) (P : Program) (w : World) (H : Hp) (s : Shared) (Q : VK) (E : XK) (r : Result) (s' : Shared) : Prop :=
  match r with
  | .ok (.ret u) => CE outer P w H s Q u s'
  | .ok _ => False
  | .error e => CX outer H s E e s'
structure FnOk (P : Program) (w : World) (K : PySem.W.Frag) (mg : Str → Option Value) (base : Heap) (CX : CXT) (k : Nat) (f : Addr) (fd : FuncData) (ps : List Str) (sp : Sp) : Prop where
  len : ∀ vs H Q E, sp vs H Q E → vs.length = ps.length
  run : ∀ (A : Around) (outer : List Env) (s : Shared) (H : Hp) (args : Args) (us : List Value) (vs : List V) (Q : VK) (E : XK), Room k A → Env0 P w K mg base A outer s H → BindsTo s fd args (ps.zip us) → Vals vs us → sp vs H Q E →
    codeAny (model P w) A (.call (.ref f) args) (CR CX outer P w H s Q E) s
theorem FnOk.mono {P : Program} {w : World} {K : PySem.W.Frag} {mg : Str → Option Value} {base : Heap} {CX : CXT} {j k : Nat} {f : Addr} {fd : FuncData} {ps : List Str} {sp : Sp} (F : FnOk P w K mg base CX j f fd ps sp) (h : j ≤ k) :
    FnOk P w K mg base CX k f fd ps sp := ⟨F.len, fun A outer s H args us vs Q E hr => F.run A outer s H args us vs Q E (hr.mono h)⟩
theorem Env0.in1 {P : Program} {w : World} {K : PySem.W.Frag} {mg : Str → Option Value} {base : Heap} {A : Around} {outer : List Env} {s : Shared} {H : Hp} (e : Env0 P w K mg base A outer s H) :
    Env0 P w K mg base A.in1 outer s H := ⟨e.frames, e.mod, e.bs, e.bsz, e.funs, e.frf, e.hok, e.bare⟩

section
variable {X : Cx} {pins : List (Addr × Obj)} {σ : St} {H : Hp} {s s' : Shared}
/-- from a body: what a callee wants -/
theorem Inv.env0 (I : Inv X pins σ H s) : Env0 X.prog X.w X.K X.mg X.base X.A X.stack s H :=
  ⟨I.ok.frames, I.ok.mod, I.bs, Nat.le_trans I.ok.bsz I.sz, I.stack, I.stkFree, I.hok, I.bare⟩
/-- behind a call -/
theorem Inv.after {Q : VK} {u : Value} (I : Inv X pins σ H s) (h : CE X.stack X.prog X.w H s Q u s') : EP X pins σ Q u s' := by
  obtain ⟨v, H', os, bare, un, hok, r, q⟩ := h
  obtain ⟨hh, g, d, t, os'⟩ := s'
  obtain rfl : os' = s.os := os
  exact ⟨v, H', I.call (h' := hh) (g' := g) (d' := d) (t' := t) (ch := []) un hok bare (fun b z => absurd z (by simp)), r, q⟩
end
/-! ### calls -/
/-- f(..): the written arguments, then the defaults dvs; E: what is wanted of an exception -/
def tCall (sp : Sp) (dvs : List V) (E : XK) (t : TA) : TE := fun σ H Q => t σ H fun vs H1 => sp (vs ++ dvs) H1 Q E
/-- o.m(..) of an instance of the class at C -/
def tMeth (C : Addr) (m : Str) (sp : Sp) (dvs : List V) (E : XK) (ta : TE) (t : TA) : TE := fun σ H Q => ta σ H fun x H1 => ∃ a dx fs, x = .ref a ∧ H1 a = some (.ins C dx fs) ∧ fs.lookup m = none ∧
  t σ H1 fun vs H2 => sp (x :: (vs ++ dvs)) H2 Q E
/-- C(..): a new instance and its dict, then __init__ -/
def tMake (C : Addr) (sp : Sp) (dvs : List V) (E : XK) (t : TA) : TE := fun σ H Q => t σ H fun vs H1 => ∀ x dx, H1 x = none → H1 dx = none → dx ≠ x →
  sp (.ref x :: (vs ++ dvs)) (upd (upd H1 dx (.own x)) x (.ins C dx [])) (fun v H2 => v = .non ∧ Q (.ref x) H2) E

/-- how the parameters are bound: us the positional arguments, kw the keywords' values by name, ds the defaults that fill up -/
def Binds (K : PySem.W.Frag) (fd : FuncData) (ps : List Str) (ds : List Value) : Prop :=
  ∀ (s : Shared) (us : List Value), K.In s.heap → (us ++ ds).length = ps.length → BindsTo s fd ⟨us, []⟩ (ps.zip (us ++ ds))
/-- every parameter is given -/
theorem Binds.all {K : PySem.W.Frag} {fd : FuncData} {ps : List Str} (h : ∀ us : List Value, us.length = ps.length → bindArgs fd ⟨us, []⟩ = pure (ps.zip us)) : Binds K fd ps [] := fun s us _ hl => by
  rw [List.append_nil] at hl ⊢
  exact .of_eq (h us hl)

/-- an exception of a callee reaches what this body wants of exceptions -/
def Passes (CX : CXT) (X : Cx) (E : XK) : Prop := ∀ (pins : List (Addr × Obj)) (σ : St) (H : Hp) (s : Shared) (e : Value) (s' : Shared), Inv X pins σ H s → CX X.stack H s E e s' → X.xe e s'

section
variable {X : Cx} {CX : CXT} {k : Nat} {f C : Addr} {fd : FuncData} {ps : List Str} {sp : Sp} {dvs : List V} {ds : List Value} {E : XK} {x m : Str} {p pos apos : Pos} {e o : Expr} {es : List Expr} {ta : TE} {t : TA}
/-- the callee runs -/
theorem run_fn {pins : List (Addr × Obj)} {σ : St} {H : Hp} {s : Shared} {Q : VK} {us : List Value} {vs : List V} (F : FnOk X.prog X.w X.K X.mg X.base CX k f fd ps sp) (hr : Room k X.A) (hb : Binds X.K fd ps ds) (hd : Vals dvs ds) (hx : Passes CX X E)
    (I : Inv X pins σ H s) (r : Vals vs us) (h : sp (vs ++ dvs) H Q E) : wpAny (model X.prog X.w) X.A (call (.ref f) us) (EP X pins σ Q) X.xe s := by
  have r2 : Vals (vs ++ dvs) (us ++ ds) := r.append hd
  have hl : (us ++ ds).length = ps.length := by rw [← r2.length]; exact F.len _ _ _ _ h
  refine wpAny_call (codeAny_mono (F.run X.A X.stack s H ⟨us, []⟩ (us ++ ds) (vs ++ dvs) Q E hr I.env0 (hb s us I.kIn hl) r2 h) fun r s' hq => ?_)
  cases r with
  | error e => exact hx pins σ H s e s' I hq
  | ok fl =>
    cases fl with
    | ret u => exact I.after hq
    | next => exact False.elim hq
    | brk => exact False.elim hq
    | cont => exact False.elim hq

theorem pe_call (F : FnOk X.prog X.w X.K X.mg X.base CX k f fd ps sp) (hr : Room k X.A) (hg : Gl X x) (hm : X.mg x = some (.ref f)) (hk : PySem.W.keepIn X.K (.ref f) = true) (hb : Binds X.K fd ps ds) (hd : Vals dvs ds) (hx : Passes CX X E)
    (ha : PA X (e :: es) t) (hdb : (x == ("__debug__" : Str)) = false := by decide) (he : starEach (e :: es) X.env = (false, eval e X.env) :: starEach es X.env := by rfl) (hpl : (backTo pos (starEach es X.env)).any (·.1) = false := by rfl) :
    PE X (.Call (.Name x p) (e :: es) [] pos) (tCall sp dvs E t) := by
  intro pins s σ H Q I h
  refine wpAny_Call_Name_kw (ld_glob I hg hm ?_ hdb)
  refine PySem.W.callWith_K (h₀ := X.base) I.ok.mod.kin hk (thn (ha pos pins s σ H _ I h) fun us s1 ⟨vs, H1, I1, r, q⟩ => ⟨I1.kIn, ?_⟩) he hpl
  exact run_fn F hr hb hd hx I1 r q
/-- what a class must have to be made -/
structure Mk (K : PySem.W.Frag) (C f : Addr) : Prop where
  makes : PySem.W.makesIn K C = true
  init : PySem.W.findIn K (.ref C) "__init__" = some (some (.ref f))
  fn : PySem.W.isFn K (.ref f) = true
  kp : PySem.W.keepIn K (.ref C) = true

end
/-! ### keywords -/
/-- the values of the keywords, from the left -/
def PK (X : Cx) (kws : List Keyword) (t : TA) : Prop :=
  ∀ (pos : Pos) (pins : List (Addr × Obj)) (s : Shared) (σ : St) (H : Hp) (Q : List V → Hp → Prop), Inv X pins σ H s → t σ H Q → wpAny (model X.prog X.w) X.A (evalAll ((backToKw pos (keywordEach kws X.env)).map (·.2))) (AP X pins σ Q) X.xe s
section
variable {X : Cx} {CX : CXT} {k : Nat} {f C : Addr} {fd : FuncData} {ps ks : List Str} {sp : Sp} {E : XK} {x m : Str} {p pos apos kpos : Pos} {e o : Expr} {es : List Expr} {kws : List Keyword} {te ta : TE} {t tk : TA} {nm : Option Str}
/-- how a call with keywords binds: g puts the positional values us and the keywords' values ws (names ks) in the parameters' order, defaults among them -/
structure KBinds (K : PySem.W.Frag) (fd : FuncData) (ps ks : List Str) (g : List Value → List Value → List Value) (gV : List V → List V → List V) : Prop where
  to : ∀ (s : Shared) (us ws : List Value), K.In s.heap → (g us ws).length = ps.length → BindsTo s fd ⟨us, ks.zip ws⟩ (ps.zip (g us ws))
  rel : ∀ {vs : List V} {us : List Value} {zs : List V} {ws : List Value}, Vals vs us → Vals zs ws → Vals (gV vs zs) (g us ws)
def tCallK (sp : Sp) (gV : List V → List V → List V) (E : XK) (t tk : TA) : TE := fun σ H Q => t σ H fun vs H1 => tk σ H1 fun zs H2 => sp (gV vs zs) H2 Q E
variable {g : List Value → List Value → List Value} {gV : List V → List V → List V}
end
/-! ### a def's body keeps its promise -/
/-- names: the parameters first -/
structure FnScope (N P : List Str) (sc : Scope) : Prop where
  kind : sc.kind = .function
  co : sc.isCoroutine = false
  gen : sc.isGenerator = false
  nd : N.Nodup
  pre : N.take P.length = P
  par : ∀ x ∈ P, sc.names.lookup x = some .local ∨ sc.names.lookup x = some .cell
  nofree : ∀ y ∈ sc.names, y.2 ≠ .free

theorem bindL_out {kindOf : Str → Option NameKind} {x : Str} : ∀ {binds : List (Str × Value)} {m : Str → Option Value}, (∀ v, (x, v) ∉ binds) → bindL kindOf binds m x = m x
  | [], _, _ => rfl
  | (n, v) :: r, m, h => by
    unfold bindL
    rw [bindL_out fun w hw => h w (List.mem_cons_of_mem _ hw)]
    split
    · have : x ≠ n := by rintro rfl; exact h v List.mem_cons_self
      simp [this]
    · rfl
theorem bindC_out {kindOf : Str → Option NameKind} {x : Str} : ∀ {binds : List (Str × Value)} {m : Str → Option Value}, (∀ v, (x, v) ∉ binds) → bindC kindOf binds m x = m x
  | [], _, _ => rfl
  | (n, v) :: r, m, h => by
    unfold bindC
    rw [bindC_out fun w hw => h w (List.mem_cons_of_mem _ hw)]
    split
    · rfl
    · have : x ≠ n := by rintro rfl; exact h v List.mem_cons_self
      simp [this]
theorem bindL_get {kindOf : Str → Option NameKind} {x : Str} {v : Value} : ∀ {P : List Str} {vs : List Value} {i : Nat} {m : Str → Option Value}, P.Nodup → P[i]? = some x → vs[i]? = some v → kindOf x = some .local →
    bindL kindOf (P.zip vs) m x = some v
  | [], _, _, _, _, h, _, _ => by simp at h
  | _ :: _, [], _, _, _, _, h, _ => by simp at h
  | p :: P, w :: vs, 0, m, nd, h1, h2, hk => by
    simp at h1 h2; subst h1; subst h2
    show bindL kindOf ((p, w) :: P.zip vs) m p = _
    unfold bindL
    rw [bindL_out fun v hv => (List.nodup_cons.mp nd).1 (List.of_mem_zip hv).1, if_pos hk]
    simp
  | p :: P, w :: vs, i + 1, m, nd, h1, h2, hk => by
    show bindL kindOf ((p, w) :: P.zip vs) m x = _
    unfold bindL
    exact bindL_get (i := i) (List.nodup_cons.mp nd).2 (by simpa using h1) (by simpa using h2) hk
theorem bindC_get {kindOf : Str → Option NameKind} {x : Str} {v : Value} : ∀ {P : List Str} {vs : List Value} {i : Nat} {m : Str → Option Value}, P.Nodup → P[i]? = some x → vs[i]? = some v → kindOf x ≠ some .local →
    bindC kindOf (P.zip vs) m x = some v
  | [], _, _, _, _, h, _, _ => by simp at h
  | _ :: _, [], _, _, _, _, h, _ => by simp at h
  | p :: P, w :: vs, 0, m, nd, h1, h2, hk => by
    simp at h1 h2; subst h1; subst h2
    show bindC kindOf ((p, w) :: P.zip vs) m p = _
    unfold bindC
    rw [bindC_out fun v hv => (List.nodup_cons.mp nd).1 (List.of_mem_zip hv).1, if_neg hk]
    simp
  | p :: P, w :: vs, i + 1, m, nd, h1, h2, hk => by
    show bindC kindOf ((p, w) :: P.zip vs) m x = _
    unfold bindC
    exact bindC_get (i := i) (List.nodup_cons.mp nd).2 (by simpa using h1) (by simpa using h2) hk

/-- the names' values at the entry -/
def start (N : List Str) (vs : List V) : St := vs.map some ++ List.replicate (N.length - vs.length) none

/-- the context of a def's body, at its entry; an exception leaves the frame, then lies as CX says -/
def cxOf (CX : CXT) (P : Program) (w : World) (K : PySem.W.Frag) (mg : Str → Option Value) (base : Heap) (N : List Str) (qual : Str) (scope : Scope) (f : Addr) (cd : Value) (A : Around) (outer : List Env) (s : Shared) (H : Hp) (E : XK) : Cx where
  prog := P
  w := w
  K := K
  mg := mg
  base := base
  A := A.deeper (envOfC qual scope s.heap.objs.size f cd)
  N := N
  s₀ := s
  H₀ := H
  env := envOfC qual scope s.heap.objs.size f cd
  outer := outer
  stack := envOfC qual scope s.heap.objs.size f cd :: outer
  ex := []
  calm := true
  fn := fun _ => true
  pn := []
  xe := fun e s' => wpAny (model P w) (A.deeper (envOfC qual scope s.heap.objs.size f cd)) (leaving (envOfC qual scope s.heap.objs.size f cd) e) (fun _ s'' => CX outer H s E e s'') (fun e' s'' => CX outer H s E e' s'') s'

theorem cell_has {sc : Scope} {n : Nat} {x : Str} (h : sc.names.lookup x = some .cell) : ∃ c, (cellsFrom n sc.names []).lookup x = some c := by
  have q := PySem.W.cellsFrom_some sc.names n [] (.inl h)
  exact Option.isSome_iff_exists.mp q

theorem inv_start {CX : CXT} {P : Program} {w : World} {K : PySem.W.Frag} {mg : Str → Option Value} {base : Heap} {N ps : List Str} {qual : Str} {scope : Scope} {f : Addr} {cd : Value} {A : Around} {outer : List Env} {s s1 : Shared} {H : Hp} {E : XK} {us : List Value} {vs : List V}
    (S : FnScope N ps scope) (hd : A.handled = none) (e0 : Env0 P w K mg base A outer s H) (hl : vs.length = ps.length) (r : Vals vs us)
    (x : InCallC s s.heap.objs.size (bindL (envOfC qual scope s.heap.objs.size f cd).kindOf (ps.zip us) fun _ => none) (cellsFrom (s.heap.objs.size + 1) scope.names []) (bindC (envOfC qual scope s.heap.objs.size f cd).kindOf (ps.zip us) fun _ => none) s1) :
    Inv (cxOf CX P w K mg base N qual scope f cd A outer s H E) [] (start N vs) H s1 := by
  have hpl : ps.length ≤ N.length := by have := congrArg List.length S.pre; rw [List.length_take] at this; omega
  obtain ⟨h1, tk, rfl, hk⟩ := x.done
  have noA : ∀ b : Addr, b ∉ (cxOf CX P w K mg base N qual scope f cd A outer s H E).ex := fun b z => absurd (show b ∈ ([] : List Addr) from z) (by simp)
  refine ⟨⟨e0.mod, S.kind, rfl, rfl, Nat.le_refl _, fun y z c h1 h2 => ?_, fun y hy => ?_, fun y c _ h => ?_, fun _ => hd, Around.frames_deeper e0.frames, .inr ⟨rfl, rfl⟩, fun b z => absurd z (noA b), e0.bs, e0.bsz, fun b _ _ => noA b, fun b z => absurd z (noA b), e0.funs, e0.frf⟩,
    rfl, e0.bare, Un.kept hk, ⟨_, x.toInCall.ns, fun i y v h1 h2 h3 => ?_⟩, fun y c h => ⟨_, x.cell y c h⟩, e0.hok.fresh (Nat.le_refl _), fun y c h => ?_, fun p hp => absurd (show p ∈ ([] : List (Addr × Obj)) from hp) (by simp), e0.hok.kept hk, ?_⟩
  · exact name_of_addr x.apart (PySem.mem_of_lookup h1) (PySem.mem_of_lookup h2)
  · have hy : scope.names.lookup y = some .cell ∨ scope.names.lookup y = some .free := hy
    rcases hy with hy | hy
    · exact cell_has hy
    · exact absurd rfl (S.nofree _ (PySem.mem_of_lookup hy))
  · exact Nat.le_of_lt (x.above y c (PySem.mem_of_lookup h))
  · have hi : i < vs.length := by
      unfold start at h2
      by_cases hi : i < vs.length
      · exact hi
      · rw [List.getElem?_append_right (by simpa using hi)] at h2
        rw [List.getElem?_replicate] at h2
        split at h2 <;> cases h2
    have ha : vs[i]? = some v := by
      unfold start at h2
      rw [List.getElem?_append_left (by simpa using hi), List.getElem?_map] at h2
      cases e : vs[i]? with
      | none => rw [e] at h2; cases h2
      | some a => rw [e] at h2; cases h2; rfl
    obtain ⟨u, hu, rv⟩ := r.get ha
    have hp : ps[i]? = some y := by
      rw [← S.pre, List.getElem?_take_of_lt (by omega)]; exact h1
    have ndP : ps.Nodup := by rw [← S.pre]; exact S.nd.sublist (List.take_sublist _ _)
    refine ⟨u, rv, ?_⟩
    rcases S.par y (List.mem_of_getElem? hp) with k | k
    · exact .inl ⟨k, bindL_get ndP hp hu k⟩
    · obtain ⟨c, e⟩ := cell_has (n := s.heap.objs.size + 1) k
      refine .inr ⟨.inl k, c, e, ?_⟩
      have q := x.cell y c e
      rw [bindC_get ndP hp hu (by show scope.names.lookup y ≠ _; rw [k]; decide)] at q
      exact q
  · exact e0.hok.fresh (Nat.le_of_lt (x.above y c (PySem.mem_of_lookup h)))
  · unfold start
    show _ = N.length
    rw [List.length_append, List.length_map, List.length_replicate]
    omega

/-- THE RULE: a def (or a method) of the text, by its body. The body's reading t is chosen for each entry; it is run at the parameters' values -/
theorem fn_of {CX : CXT} {P : Program} {w : World} {K : PySem.W.Frag} {mg : Str → Option Value} {base : Heap} {k : Nat} {f : Addr} {name qual : Str} {params : Arguments} {body : List Stmt} {scope : Scope} {dV kV doc pm cdv ct oc : Value} {an od : Option Addr}
    {osl : Array (Option Value)} {N ps : List Str} {sp : Sp} (lk : K.lookup f = some ⟨oc, od, .func (PySem.W.fnOf name qual params body scope dV kV doc pm an cdv ct), osl⟩) (hcd : PySem.W.codeIn K cdv qual = true) (S : FnScope N ps scope)
    (len : ∀ vs H Q E, sp vs H Q E → vs.length = ps.length)
    (hbody : ∀ (A : Around) (outer : List Env) (s : Shared) (H : Hp) (vs : List V) (Q : VK) (E : XK), Room k (A.deeper (envOfC qual scope s.heap.objs.size f cdv)) → sp vs H Q E →
      ∃ t, PSs (cxOf CX P w K mg base N qual scope f cdv A outer s H E) body t ∧ t { nx := fun _ H' => Q .non H', rt := Q } (start N vs) H) :
    FnOk P w K mg base CX (k + 1) f (PySem.W.fnOf name qual params body scope dV kV doc pm an cdv ct) ps sp := by
  refine ⟨len, fun A outer s H args us vs Q E hr e0 hb r hsp => ?_⟩
  have hl := len _ _ _ _ hsp
  have KX : K.In s.heap := e0.mod.kin.keeps fun b o e => (e0.bs b o e).1
  have lim : s.heap.NoLimit := e0.mod.nolimit.keeps fun b o e => (e0.bs b o e).1
  have hkind : ∀ y ∈ ps.zip us, scope.names.lookup y.1 = some .local ∨ (scope.names.lookup y.1 = some .cell ∧ ((cellsFrom (s.heap.objs.size + 1) scope.names []).lookup y.1).isSome = true) := fun ⟨n, v⟩ hy => by
    rcases S.par n (List.of_mem_zip hy).1 with q | q
    · exact .inl q
    · exact .inr ⟨q, PySem.W.cellsFrom_some _ _ _ (.inl q)⟩
  refine codeAny_call_function hr.depth (KX _ _ lk) rfl S.co S.gen rfl (PySem.W.codeRec_of KX hcd) (hb _ _ _ _ ?_)
  refine wpAny_newFunctionEnv_cells S.kind hkind fun env he s1 x => ?_
  subst he
  refine ⟨lim.keeps x.toInCall.keep, codeAny_func ?_⟩
  obtain ⟨t, ht, hq⟩ := hbody A outer s H vs Q E (hr.deeper _) hsp
  have I : Inv (cxOf CX P w K mg base N qual scope f cdv A outer s H E) [] (start N vs) H s1 := inv_start S hr.hd e0 hl r x
  refine wpAny_mono (ht [] s1 (start N vs) H _ I hq) (fun fl s' hs => ?_) fun e s' hs => hs
  have fin : ∀ {σ' : St} {H' : Hp} {v : V} {u : Value}, Inv (cxOf CX P w K mg base N qual scope f cdv A outer s H E) [] σ' H' s' → RelV v u → Q v H' → CE outer P w H s Q u s' :=
    fun {σ' H' v u} J rv q => ⟨v, H', J.os, J.bare, J.base, J.hok, rv, q⟩
  cases fl with
  | ret u =>
    obtain ⟨v, σ', H', J, rv, q⟩ := hs
    exact fin J rv q
  | next =>
    obtain ⟨σ', H', J, q⟩ := hs
    exact fin (v := V.non) (u := Value.none) J rfl q
  | brk =>
    obtain ⟨_, _, _, q⟩ := hs
    exact False.elim q
  | cont =>
    obtain ⟨_, _, _, q⟩ := hs
    exact False.elim q
end L2
namespace L2
open PySem PySem.Spec PyProof.Rows
section
variable {X : Cx} {x : Str} {p pos : Pos} {e : Expr} {es : List Expr} {t : TA} {id T : String} {r : List V → Hp → VK → Prop}
def tCB (r : List V → Hp → VK → Prop) (t : TA) : TE := fun σ H Q => t σ H fun vs H1 => r vs H1 Q
/-- f(e, ..), f a built-in function -/
theorem pe_callB (hc : CallR X (.builtin id) r) (hg : Gl X x) (hm : X.mg x = none) (hv : bootBuiltins x = some (.builtin id)) (ha : PA X (e :: es) t) (hn : x ≠ "__name__" := by decide) (hdb : (x == ("__debug__" : Str)) = false := by decide)
    (he : starEach (e :: es) X.env = (false, eval e X.env) :: starEach es X.env := by rfl) (hpl : (backTo pos (starEach es X.env)).any (·.1) = false := by rfl) : PE X (.Call (.Name x p) (e :: es) [] pos) (tCB r t) := by
  intro pins s σ H Q I h
  refine wpAny_Call_Name_kw (ld_blt I hg hm hv ?_ hn hdb)
  exact PyProof.Rows.callWith_builtin1 (thn (ha pos pins s σ H _ I h) fun us s1 ⟨vs, H1, I1, r1, q1⟩ => hc pins s1 σ H1 vs us Q I1 r1 q1) he hpl
/-- T(e, ..), T a built-in type -/
theorem pe_callTy (hc : CallR X (.type T) r) (hg : Gl X x) (hm : X.mg x = none) (hv : bootBuiltins x = some (.type T)) (ha : PA X (e :: es) t) (hn : x ≠ "__name__" := by decide) (hdb : (x == ("__debug__" : Str)) = false := by decide)
    (he : starEach (e :: es) X.env = (false, eval e X.env) :: starEach es X.env := by rfl) (hpl : (backTo pos (starEach es X.env)).any (·.1) = false := by rfl) : PE X (.Call (.Name x p) (e :: es) [] pos) (tCB r t) := by
  intro pins s σ H Q I h
  refine wpAny_Call_Name_kw (ld_blt I hg hm hv ?_ hn hdb)
  exact PyProof.Rows.callWith_type1 (thn (ha pos pins s σ H _ I h) fun us s1 ⟨vs, H1, I1, r1, q1⟩ => hc pins s1 σ H1 vs us Q I1 r1 q1) he hpl
end
end L2
namespace HT
open PySem PyProof.Rows
/-- t < u of tuples of ints -/
def lexLt : List Int → List Int → Bool
  | [], [] => false
  | [], _ :: _ => true
  | _ :: _, [] => false
  | x :: xs, y :: ys => if x = y then lexLt xs ys else decide (x < y)
section
open PySem.SeqAt
open PySem.AutoSeq1 (wpAny_loadPart')
open PySem.MeetsSeq PySem.MeetsSeq2 PySem.MeetsSeq3
end
section
variable {prog : Program} {w : World} {A : Around} {E : Value → Shared → Prop} {s : Shared}
/-! ### t[a:b], not the whole -/
/-- a slice's bound as a place among n (d where it is left out) -/
def sIx (n d : Nat) : Option Int → Nat
  | none => d
  | some v => if v < 0 then (v + (n : Int)).toNat else min v.toNat n
theorem sIx_none (n d : Nat) : sIx n d none = d := rfl
theorem sIx_nat (n d k : Nat) : sIx n d (some (k : Int)) = min k n := by
  show (if (k : Int) < 0 then ((k : Int) + (n : Int)).toNat else min (k : Int).toNat n) = min k n
  rw [if_neg (by omega), Int.toNat_natCast]
end
end HT
namespace L2
open PySem PySem.Spec PyProof.Rows
/-! ### the parts of a slice -/
abbrev TO := St → Hp → (Option Int → Hp → Prop) → Prop
/-- a slice's part (left out, or an int) -/
def PO (X : Cx) (e : Option Expr) (t : TO) : Prop :=
  ∀ (pins : List (Addr × Obj)) (s : Shared) (σ : St) (H : Hp) (Q : Option Int → Hp → Prop), Inv X pins σ H s → t σ H Q →
    wpAny (model X.prog X.w) X.A (evalPart e X.env) (fun u s' => ∃ o H', Inv X pins σ H' s' ∧ IsPart u o ∧ Q o H') X.xe s
def tNoPart : TO := fun _ H Q => Q none H
def tPart (t : TE) : TO := fun σ H Q => t σ H fun x H1 => ∃ i, x = .int i ∧ Q (some i) H1

theorem intsAre_of {ns : List Int} : ∀ {us : List Value}, Vals (ns.map V.int) us → IntsAre us ns := by
  induction ns with
  | nil => intro us r; rw [List.map_nil] at r; cases r; exact .nil
  | cons n ns ih =>
    intro us r
    rw [List.map_cons] at r
    cases r with
    | cons r1 r2 =>
      obtain ⟨t, e⟩ := r1
      subst e
      exact .cons n t (ih r2)

section
variable {X : Cx} {e : Expr} {te : TE} {lo hi : Option Expr} {tl th : TO} {pos p2 : Pos}
theorem po_none : PO X none tNoPart := by
  intro pins s σ H Q I h
  rw [evalPart_none]
  exact wpAny_pure ⟨none, H, I, .none, h⟩
theorem po_some (h : PE X e te) : PO X (some e) (tPart te) := by
  intro pins s σ H Q I hw
  rw [evalPart_some]
  refine thn (h pins s σ H _ I hw) fun u s1 ⟨x, H1, I1, r1, q1⟩ => ?_
  obtain ⟨i, rfl, q⟩ := q1
  obtain ⟨t, rfl⟩ := r1
  exact ⟨some i, H1, I1, .int i t, q⟩

/-- what a slice of a value is, by values: the slice object stands at sl -/
def SlR (X : Cx) (r : V → Option Int → Option Int → Hp → VK → Prop) : Prop :=
  ∀ (pins : List (Addr × Obj)) (s : Shared) (σ : St) (H : Hp) (x : V) (v vl vu : Value) (lo hi : Option Int) (sl : Addr) (Q : VK), Inv X pins σ H s → RelV x v → s.heap.IsSliceOf sl vl vu .none → IsPart vl lo → IsPart vu hi → r x lo hi H Q →
    ∃ T id, typeLookup (.type T) "__getitem__" = pure (some (.builtin id)) ∧ s.TypeIs v T ∧ wpAny (model X.prog X.w) X.A (getItem v (.ref sl)) (EP X pins σ Q) X.xe s
theorem SlR.or {r r' : V → Option Int → Option Int → Hp → VK → Prop} (h : SlR X r) (h' : SlR X r') : SlR X (fun x lo hi H Q => r x lo hi H Q ∨ r' x lo hi H Q) := by
  intro pins s σ H x v vl vu lo hi sl Q I rx hs pl pu q
  rcases q with q | q
  · exact h pins s σ H x v vl vu lo hi sl Q I rx hs pl pu q
  · exact h' pins s σ H x v vl vu lo hi sl Q I rx hs pl pu q
def tSl (r : V → Option Int → Option Int → Hp → VK → Prop) (te : TE) (tl th : TO) : TE := fun σ H Q => te σ H fun x H1 => tl σ H1 fun l H2 => th σ H2 fun u H3 => r x l u H3 Q
/-- a[lo:hi], any a -/
theorem pe_slice {r : V → Option Int → Option Int → Hp → VK → Prop} (hr : SlR X r) (he : PE X e te) (hl : PO X lo tl) (hu : PO X hi th) : PE X (.Subscript e (.Slice lo hi none p2) pos) (tSl r te tl th) := by
  intro pins s σ H Q I h
  refine Subscript_ (thn (he pins s σ H _ I h) fun v s1 ⟨x, H1, I1, r1, q1⟩ => ?_)
  refine wpAny_Slice (thn (hl pins s1 σ H1 _ I1 q1) fun vl s2 ⟨l, H2, I2, pl, q2⟩ => thn (hu pins s2 σ H2 _ I2 q2) fun vu s3 ⟨u, H3, I3, pu, q3⟩ => ?_)
  rw [evalPart_none]
  refine wpAny_pure ?_
  have I4 : Inv X pins σ H3 { s3 with heap := s3.heap.push { cls := .type "slice", data := .fields #[vl, vu, .none] } } := I3.kept (t' := s3.toks) fun b ob q => Heap.get?_push_of_some _ q
  obtain ⟨T, id, hT, ht, hg⟩ := hr pins { s3 with heap := s3.heap.push { cls := .type "slice", data := .fields #[vl, vu, .none] } } σ H3 x v vl vu l u s3.heap.objs.size Q I4 r1 (Heap.IsSliceOf.new ..) pl pu q3
  show wpAny (model X.prog X.w) X.A (subscriptTail e (.Slice lo hi none p2) v (.ref s3.heap.objs.size)) (EP X pins σ Q) X.xe { s3 with heap := s3.heap.push { cls := .type "slice", data := .fields #[vl, vu, .none] } }
  exact tail_any (ops := [.ref s3.heap.objs.size, v]) ht hT hg (by with_unfolding_all rfl)

/-- the items of xs[lo:hi] -/
def cutV (xs : List V) (lo hi : Option Int) : List V := (xs.drop (HT.sIx xs.length 0 lo)).take (HT.sIx xs.length xs.length hi - HT.sIx xs.length 0 lo)
theorem cutV_length (xs : List V) (lo hi : Option Int) : (cutV xs lo hi).length ≤ xs.length := by
  unfold cutV
  rw [List.length_take, List.length_drop]
  omega
/-- t[lo:hi], not the whole of it (the whole would be t itself) -/
def rSlT (K : PySem.W.Frag) : V → Option Int → Option Int → Hp → VK → Prop := fun x lo hi H Q => ∃ a xs, x = .ref a ∧ SqT K H a xs ∧
  ¬ (HT.sIx xs.length 0 lo = 0 ∧ HT.sIx xs.length xs.length hi = xs.length) ∧ ∀ p, H p = none → Q (.ref p) (upd H p (.tup (cutV xs lo hi)))
/-! ### t < u, t + u -/
def rLtT (K : PySem.W.Frag) : R2 := fun x y H Q => ∃ a b ns ms, x = .ref a ∧ y = .ref b ∧ SqT K H a (ns.map V.int) ∧ SqT K H b (ms.map V.int) ∧ Q (.bl (HT.lexLt ns ms)) H
/-- t + u, t not empty: u empty gives t itself -/
def rCatT (K : PySem.W.Frag) : R2 := fun x y H Q => ∃ a b xs ys, x = .ref a ∧ y = .ref b ∧ SqT K H a xs ∧ SqT K H b ys ∧ xs ≠ [] ∧ xs.length + ys.length ≤ sizeLine ∧
  (ys = [] → Q (.ref a) H) ∧ (ys ≠ [] → ∀ p, H p = none → Q (.ref p) (upd H p (.tup (xs ++ ys))))
end
end L2
namespace L2
open PySem PySem.Spec PyProof.Rows
/-! ### places -/
/-- the place that an index of any sign means -/
def ixN (n : Nat) (i : Int) : Option Nat := if 0 ≤ i then (if i < n then some i.toNat else none) else if -(n : Int) ≤ i then some (i + n).toNat else none
def atI {α : Type} (xs : List α) (i : Int) : Option α := (ixN xs.length i).bind fun j => xs[j]?
theorem ixN_seq {n : Nat} {i : Int} {j : Nat} (h : ixN n i = some j) : seqIndex? i n = some j ∧ j < n ∧ -(n : Int) ≤ i ∧ i < n := by
  unfold ixN at h
  by_cases h0 : 0 ≤ i
  · rw [if_pos h0] at h
    by_cases h1 : i < n
    · rw [if_pos h1] at h
      have e : i.toNat = j := Option.some.inj h
      exact ⟨by rw [seqIndex_of h0 h1, e], by omega, by omega, h1⟩
    · rw [if_neg h1] at h; cases h
  · rw [if_neg h0] at h
    by_cases h1 : -(n : Int) ≤ i
    · rw [if_pos h1] at h
      have e : (i + n).toNat = j := Option.some.inj h
      exact ⟨by rw [seqIndex_neg (by omega) h1, e], by omega, h1, by omega⟩
    · rw [if_neg h1] at h; cases h
theorem atI_get {α : Type} {xs : List α} {i : Int} {v : α} (h : atI xs i = some v) : ∃ j, seqIndex? i xs.length = some j ∧ xs[j]? = some v ∧ j < xs.length ∧ -(xs.length : Int) ≤ i ∧ i < xs.length := by
  unfold atI at h
  cases e : ixN xs.length i with
  | none => rw [e] at h; cases h
  | some j =>
    rw [e] at h
    obtain ⟨h1, h2, h3, h4⟩ := ixN_seq e
    exact ⟨j, h1, h, h2, h3, h4⟩
theorem atI_nat {α : Type} {xs : List α} {j : Nat} {v : α} (h : xs[j]? = some v) : atI xs (j : Int) = some v := by
  have hj : j < xs.length := (List.getElem?_eq_some_iff.mp h).1
  have e : ixN xs.length (j : Int) = some j := by
    unfold ixN
    rw [if_pos (by omega), if_pos (by omega)]; simp
  unfold atI; rw [e]; exact h
/-! ### what may be subscripted -/
/-- what stands as an index of a plain subscript -/
def PlainIx (b : Expr) : Prop := ∀ o i, subscripted b false o i = operate [o, i] (getItem o i)
/-- a subscript by values -/
def IxR (X : Cx) (r : R2) : Prop :=
  ∀ (value slice : Expr) (pins : List (Addr × Obj)) (s : Shared) (σ : St) (H : Hp) (x y : V) (v u : Value) (Q : VK), Inv X pins σ H s → RelV x v → RelV y u → r x y H Q →
    subscripted slice false v u = operate [v, u] (getItem v u) → wpAny (model X.prog X.w) X.A (subscriptTail value slice v u) (EP X pins σ Q) X.xe s
/-- a call of a builtin's method by values: the receiver, the arguments -/
def MtR (X : Cx) (id : String) (r : V → List V → Hp → VK → Prop) : Prop :=
  ∀ (pins : List (Addr × Obj)) (s : Shared) (σ : St) (H : Hp) (x : V) (xs : List V) (v : Value) (us : List Value) (Q : VK), Inv X pins σ H s → RelV x v → Vals xs us → r x xs H Q →
    wpAny (model X.prog X.w) X.A (call (.builtin id) (v :: us)) (EP X pins σ Q) X.xe s
section
variable {X : Cx} {a b : Expr} {ta tb : TE} {pos : Pos}
theorem IxR.or {r r' : R2} (h : IxR X r) (h' : IxR X r') : IxR X (fun x y H Q => r x y H Q ∨ r' x y H Q) := by
  intro value slice pins s σ H x y v u Q I rx ry q hs
  rcases q with q | q
  · exact h value slice pins s σ H x y v u Q I rx ry q hs
  · exact h' value slice pins s σ H x y v u Q I rx ry q hs
theorem MtR.or {id : String} {r r' : V → List V → Hp → VK → Prop} (h : MtR X id r) (h' : MtR X id r') : MtR X id (fun x xs H Q => r x xs H Q ∨ r' x xs H Q) := by
  intro pins s σ H x xs v us Q I rx rs q
  rcases q with q | q
  · exact h pins s σ H x xs v us Q I rx rs q
  · exact h' pins s σ H x xs v us Q I rx rs q
/-- a[b] -/
theorem pe_ix {r : R2} (hr : IxR X r) (ha : PE X a ta) (hb : PE X b tb) (hs : PlainIx b) : PE X (.Subscript a b pos) (tOp r ta tb) := by
  intro pins s σ H Q I h
  exact Subscript_ (binT ha hb I h fun v u s2 x y H2 I2 rx ry q => hr a b pins s2 σ H2 x y v u Q I2 rx ry q (hs _ _))

def rIxL (K : PySem.W.Frag) : R2 := fun x y H Q => ∃ p xs i v, x = .ref p ∧ y = .int i ∧ SqL K H p xs ∧ atI xs i = some v ∧ Q v H
def rIxT (K : PySem.W.Frag) : R2 := fun x y H Q => ∃ p xs i v, x = .ref p ∧ y = .int i ∧ SqT K H p xs ∧ atI xs i = some v ∧ Q v H
def rIxS : R2 := fun x y H Q => ∃ z i c, x = .str z ∧ y = .int i ∧ z.length ≤ sizeLine ∧ atI z.cps.toList i = some c ∧ Q (.str ⟨#[c]⟩) H
theorem ix_list : IxR X (rIxL X.K) := by
  intro value slice pins s σ H x y v u Q I rx ry h hs
  obtain ⟨p, xs, i, z, rfl, rfl, hq, he, q⟩ := h
  cases rx
  obtain ⟨t, rfl⟩ := ry
  obtain ⟨its, r, pl, hz⟩ := I.list hq
  obtain ⟨j, h1, h2, h3, h4, h5⟩ := atI_get he
  obtain ⟨w, ew, rw'⟩ := r.get h2
  have hl := r.length
  have hn := line63
  have fin : EP X pins σ Q w s := ⟨z, H, I, rw', q⟩
  by_cases h0 : 0 ≤ i
  · have hj : i.toNat = j := by
      rw [seqIndex_of h0 h5] at h1
      exact Option.some.inj h1
    exact item_listR pl.isList h0 (by omega) (by rw [hj]; simpa using ew) fin hs
  · have hj : (i + (its.toArray.size : Int)).toNat = j := by
      rw [seqIndex_neg (by omega) h4] at h1
      rw [List.size_toArray, ← hl]
      exact Option.some.inj h1
    exact subscriptTail_builtinR (x := w) pl.isList.typeIs slot_list_getitem.lookup
      (wpAny_getItem_list_neg (Q := fun r s' => r = w ∧ EP X pins σ Q r s') pl.isList (by omega) (by rw [List.size_toArray] <;> omega) (by omega) (by rw [hj]; simpa using ew) ⟨rfl, fin⟩) hs
/-- list, tuple or str -/
def rIx (K : PySem.W.Frag) : R2 := fun x y H Q => rIxL K x y H Q ∨ rIxT K x y H Q ∨ rIxS x y H Q
/-! ### xs[i] = v, any sign -/
/-- the list's object behind a store -/
theorem mapSeq_set (its : List Value) (n j : Nat) (u : Value) : Obj.mapSeq (·.setIfInBounds j u) { cls := .type "list", data := .seq its.toArray n } = { cls := .type "list", data := .seq (its.set j u).toArray n } := by
  simp [Obj.mapSeq]
theorem Inv.lst {pins : List (Addr × Obj)} {σ : St} {H : Hp} {s : Shared} {p : Addr} {xs : List V} (I : Inv X pins σ H s) (h : H p = some (.lst xs)) :
    ∃ (its : List Value) (n : Nat), Vals xs its ∧ s.heap.get? p = some { cls := .type "list", data := .seq its.toArray n } ∧ xs.length ≤ sizeLine := by
  obtain ⟨z, its, n, r, e⟩ := I.hok p _ h
  exact ⟨its, n, r, e, z⟩
/-- the list at p is written by an update of its object -/
theorem Inv.lstUpd {pins : List (Addr × Obj)} {σ : St} {H : Hp} {s : Shared} {p : Addr} {xs ys : List V} {its its' : List Value} {n n' : Nat} {f : Obj → Obj} (I : Inv X pins σ H s) (h : H p = some (.lst xs))
    (ho : s.heap.get? p = some { cls := .type "list", data := .seq its.toArray n }) (hf : f { cls := .type "list", data := .seq its.toArray n } = { cls := .type "list", data := .seq its'.toArray n' }) (r : Vals ys its') (hz : ys.length ≤ sizeLine) (t : Nat) :
    Inv X pins σ (upd H p (.lst ys)) { s with heap := s.heap.update p f, toks := t } := by
  have e : (s.heap.update p f).get? p = some { cls := .type "list", data := .seq its'.toArray n' } := by
    rw [Heap.get?_update_self f ho (by rw [hf] <;> rfl), hf]
  refine I.write (x := p) (e := p) (by rw [h]; trivial) (.inl rfl) (fun b u hb q => (Heap.get?_update_other _ _ (Ne.symm hb)).trans q) ⟨_, e⟩ ?_
  exact ⟨hz, its', n', r, e⟩
def rSetL : V → V → V → Hp → (Hp → Prop) → Prop := fun o i v H Q => ∃ p xs k j, o = .ref p ∧ i = .int k ∧ H p = some (.lst xs) ∧ ixN xs.length k = some j ∧ Q (upd H p (.lst (xs.set j v)))
theorem set_list : PSet X rSetL := by
  intro pins s σ H o i v ov iv u Q I ro ri rv h
  obtain ⟨p, xs, k, j, rfl, rfl, hp, hj, q⟩ := h
  cases ro
  obtain ⟨t, rfl⟩ := ri
  obtain ⟨its, n, r, ho, hz⟩ := I.lst hp
  obtain ⟨h1, h2, h3, h4⟩ := ixN_seq hj
  have hl := r.length
  have hn := line63
  have I' : Inv X pins σ (upd H p (.lst (xs.set j v))) { s with heap := s.heap.update p (Obj.mapSeq (·.setIfInBounds j u)) } :=
    I.lstUpd hp ho (mapSeq_set its n j u) (r.set rv j) (by rw [List.length_set]; exact hz) s.toks
  by_cases h0 : 0 ≤ k
  · have hk : k.toNat = j := by
      rw [seqIndex_of h0 h4] at h1
      exact Option.some.inj h1
    exact PySem.W.ki_setAt ho h0 (by omega) (by rw [List.size_toArray, ← hl]; exact h4) (by rw [hk]; exact ⟨_, I', q⟩)
  · have hk : (k + (its.toArray.size : Int)).toNat = j := by
      rw [seqIndex_neg (by omega) h3] at h1
      rw [List.size_toArray, ← hl]
      exact Option.some.inj h1
    exact PySem.W.ki_setBack ho (by omega) (by rw [List.size_toArray, ← hl]; exact h3) (by omega) (by rw [hk]; exact ⟨_, I', q⟩)

/-! ### slices -/
theorem slice_bounds (lo hi : Option Int) (n : Nat) : (sliceBounds lo hi none n).1 = ((HT.sIx n 0 lo : Nat) : Int) ∧ (sliceBounds lo hi none n).2.1 = ((HT.sIx n n hi : Nat) : Int) ∧ (sliceBounds lo hi none n).2.2 = 1 := by
  refine ⟨?_, ?_, rfl⟩
  · cases lo with
    | none => simp [sliceBounds, HT.sIx]
    | some i =>
      simp only [sliceBounds, HT.sIx, Option.getD_none, show (1 : Int) > 0 by decide, if_true]
      by_cases h : i < 0
      · simp only [h, if_true] <;> omega
      · simp only [h, if_false] <;> omega
  · cases hi with
    | none => simp [sliceBounds, HT.sIx]
    | some i =>
      simp only [sliceBounds, HT.sIx, Option.getD_none, show (1 : Int) > 0 by decide, if_true]
      by_cases h : i < 0
      · simp only [h, if_true] <;> omega
      · simp only [h, if_false] <;> omega
theorem slicePick_cut (its : List Value) (lo hi : Option Int) : slicePick its.toArray lo hi none = ((its.drop (HT.sIx its.length 0 lo)).take (HT.sIx its.length its.length hi - HT.sIx its.length 0 lo)).toArray := by
  obtain ⟨h1, h2, h3⟩ := slice_bounds lo hi its.toArray.size
  unfold slicePick
  rw [h1, h2, h3]
  simp only [sliceRange_one, pick_run, List.size_toArray] <;> rfl
/-- xs[lo:hi] of a list: a new list -/
def rSlL (K : PySem.W.Frag) : V → Option Int → Option Int → Hp → VK → Prop := fun x lo hi H Q => ∃ a xs, x = .ref a ∧ SqL K H a xs ∧ ∀ p, H p = none → Q (.ref p) (upd H p (.lst (cutV xs lo hi)))
theorem sl_list : SlR X (rSlL X.K) := by
  intro pins s σ H x v vl vu lo hi sl Q I rx hs pl pu h
  obtain ⟨a, xs, rfl, hx, q⟩ := h
  cases rx
  obtain ⟨its, r, ht, hz⟩ := I.list hx
  have hlen := r.length
  refine ⟨"list", _, slot_list_getitem.lookup, ht.isList.typeIs, ?_⟩
  refine wpAny_getItem_list_slice ht.isList hs pl pu .none (by simp) ?_ (by rw [List.size_toArray] <;> omega)
  rw [slicePick_cut, ← hlen]
  refine ⟨.ref s.heap.objs.size, _, I.laid (t' := s.toks) (o := .lst (cutV xs lo hi)) (fun b ob q => Heap.get?_push_of_some _ q) (Nat.le_refl _) ?_, rfl, q _ (I.hok.fresh (Nat.le_refl _))⟩
  exact ⟨Nat.le_trans (cutV_length xs lo hi) hz, _, 0, (r.drop (HT.sIx xs.length 0 lo)).take (HT.sIx xs.length xs.length hi - HT.sIx xs.length 0 lo), Heap.get?_push_size _ rfl⟩

/-! ### in, not in: flat items -/
def flatV : V → Bool
  | .non => true
  | .bl _ => true
  | .int _ => true
  | .str _ => true
  | _ => false
/-- == of flat values -/
def eqV : V → V → Bool
  | .non, .non => true
  | .bl a, .bl b => a == b
  | .bl a, .int b => (if a then 1 else 0) == b
  | .int a, .bl b => a == (if b then 1 else 0)
  | .int a, .int b => a == b
  | .str a, .str b => a == b
  | _, _ => false
theorem eqAt_V {A : Around} {s : Shared} {y x : V} {u v : Value} (ry : RelV y u) (rx : RelV x v) (fy : flatV y = true) (fx : flatV x = true) : SeqAt.EqAt A s u v (eqV y x) := by
  cases y with
  | non =>
    cases ry
    cases x with
    | non => cases rx; exact SeqAt.EqAt.same _
    | bl b => cases rx; exact SeqAt.EqAt.none_bool b
    | int b => obtain ⟨t, rfl⟩ := rx; exact SeqAt.EqAt.none_int b t
    | str b => obtain ⟨t, rfl⟩ := rx; exact SeqAt.EqAt.none_str b t
    | _ => exact absurd (show false = true from fx) Bool.false_ne_true
  | bl a =>
    cases ry
    cases x with
    | non => cases rx; exact SeqAt.EqAt.bool_none a
    | bl b => cases rx; exact SeqAt.EqAt.bool_bool a b
    | int b => obtain ⟨t, rfl⟩ := rx; exact SeqAt.EqAt.bool_int a b t
    | str b => obtain ⟨t, rfl⟩ := rx; exact SeqAt.EqAt.bool_str a b t
    | _ => exact absurd (show false = true from fx) Bool.false_ne_true
  | int a =>
    obtain ⟨t', rfl⟩ := ry
    cases x with
    | non => cases rx; exact SeqAt.EqAt.int_none a t'
    | bl b => cases rx; exact SeqAt.EqAt.int_bool a t' b
    | int b => obtain ⟨t, rfl⟩ := rx; exact SeqAt.EqAt.int_int a t' b t
    | str b => obtain ⟨t, rfl⟩ := rx; exact SeqAt.EqAt.int_str a t' b t
    | _ => exact absurd (show false = true from fx) Bool.false_ne_true
  | str a =>
    obtain ⟨t', rfl⟩ := ry
    cases x with
    | non => cases rx; exact SeqAt.EqAt.str_none a t'
    | bl b => cases rx; exact SeqAt.EqAt.str_bool a t' b
    | int b => obtain ⟨t, rfl⟩ := rx; exact SeqAt.EqAt.str_int a t' b t
    | str b => obtain ⟨t, rfl⟩ := rx; exact SeqAt.EqAt.str_str a t' b t
    | _ => exact absurd (show false = true from fx) Bool.false_ne_true
  | _ => exact absurd (show false = true from fy) Bool.false_ne_true
/-- the items' answers, read off the values (a value's own answer does not lean on its token) -/
def eqU (x : V) (u : Value) : Bool := match u with
  | .none => eqV .non x
  | .bool b => eqV (.bl b) x
  | .int i _ => eqV (.int i) x
  | .str z _ => eqV (.str z) x
  | _ => false
def inV (x : V) (xs : List V) : Bool := xs.any fun y => eqV y x
/-- x in a list or tuple of flat items -/
def rIn (K : PySem.W.Frag) (neg : Bool) : R2 := fun x y H Q => ∃ p xs, y = .ref p ∧ (SqL K H p xs ∨ SqT K H p xs) ∧ flatV x = true ∧ xs.all flatV = true ∧ Q (.bl (if neg then !inV x xs else inV x xs)) H
/-! ### len, list(x), tuple(x) of any list or tuple that is read -/
theorem call_len_seq : CallR X (.builtin "len") (fun xs H Q => ∃ p ys, xs = [.ref p] ∧ (SqL X.K H p ys ∨ SqT X.K H p ys) ∧ Q (.int ys.length) H) := by
  intro pins s σ H xs us Q I r h
  obtain ⟨p, ys, rfl, hq, q⟩ := h
  obtain ⟨u, rfl, rx⟩ := vals1 r
  cases rx
  have hn := line63
  rcases hq with hq | hq
  · obtain ⟨its, r', pl, hz⟩ := I.list hq
    have hlen := r'.length
    exact Calls.call_len_list pl.isList (by simp only [List.size_toArray] <;> omega) ⟨.int ys.length, H, I.tok _, ⟨s.toks + 1, by rw [List.size_toArray, hlen]⟩, q⟩
  · obtain ⟨its, r', pl, hz⟩ := I.tuple hq
    have hlen := r'.length
    exact len_tuple pl (by simp only [List.size_toArray] <;> omega) ⟨.int ys.length, H, I.tok _, ⟨s.toks + 1, by rw [List.size_toArray, hlen]⟩, q⟩
theorem call_len_str : CallR X (.builtin "len") (fun xs H Q => ∃ z, xs = [.str z] ∧ z.length ≤ sizeLine ∧ Q (.int z.length) H) := by
  intro pins s σ H xs us Q I r h
  obtain ⟨z, rfl, hz, q⟩ := h
  obtain ⟨u, rfl, t, rfl⟩ := vals1 r
  have hn := line63
  exact len_str (by omega) ⟨.int z.length, H, I.tok _, ⟨_, rfl⟩, q⟩
theorem CallR.or {f : Value} {r r' : List V → Hp → VK → Prop} (h : CallR X f r) (h' : CallR X f r') : CallR X f (fun xs H Q => r xs H Q ∨ r' xs H Q) := by
  intro pins s σ H xs us Q I rs q
  rcases q with q | q
  · exact h pins s σ H xs us Q I rs q
  · exact h' pins s σ H xs us Q I rs q
theorem call_tuple_of : CallR X (.type "tuple") (fun xs H Q => ∃ p ys, xs = [.ref p] ∧ ((SqL X.K H p ys ∧ ∀ l, H l = none → Q (.ref l) (upd H l (.tup ys))) ∨ (SqT X.K H p ys ∧ Q (.ref p) H))) := by
  intro pins s σ H xs us Q I r h
  obtain ⟨p, ys, rfl, h⟩ := h
  obtain ⟨u, rfl, rx⟩ := vals1 r
  cases rx
  rcases h with ⟨hq, q⟩ | ⟨hq, q⟩
  · obtain ⟨its, r', pl, hz⟩ := I.list hq
    have hlen := r'.length
    refine call_tuple_list pl.isList (fun h' kp => ?_) (by simp only [List.size_toArray] <;> omega)
    have I1 : Inv X pins σ H { s with heap := h' } := I.kept (t' := s.toks) kp
    have I2 : Inv X pins σ (upd H h'.objs.size (.tup ys)) { s with heap := h'.push { cls := .type "tuple", data := .seq its.toArray } } :=
      I1.laid (t' := s.toks) (fun b o e => Heap.get?_push_of_some _ e) (Nat.le_refl _) (show ObjOk X.prog X.w _ _ _ (.tup ys) from ⟨hz, its, r', IsTup.new _ _⟩)
    exact ⟨.ref h'.objs.size, _, I2, rfl, q _ (I1.hok.fresh (Nat.le_refl _))⟩
  · obtain ⟨its, r', pl, hz⟩ := I.tuple hq
    exact call_tuple_same pl ⟨.ref p, H, I, rfl, q⟩

/-! ### the call of a builtin's method: o.m(..) -/
/-- the value is of that builtin type -/
def tyV (K : PySem.W.Frag) (T : String) (x : V) (H : Hp) : Prop := match x with
  | .str _ => T = "str"
  | .int _ => T = "int"
  | .ref p => (T = "list" ∧ ∃ xs, SqL K H p xs) ∨ (T = "tuple" ∧ ∃ o, K.lookup p = some o ∧ o.cls = .type "tuple" ∧ o.dict = none) ∨
      (T = "dict" ∧ ((∃ kvs, H p = some (.dK kvs)) ∨ ∃ kvs, H p = some (.dT kvs))) ∨ (T = "set" ∧ ∃ S n, H p = some (.set S n))
  | _ => False
theorem tyV_is {pins : List (Addr × Obj)} {σ : St} {H : Hp} {s : Shared} {T : String} {x : V} {v : Value} (I : Inv X pins σ H s) (r : RelV x v) (ty : tyV X.K T x H) :
    s.TypeIs v T ∧ ∀ a, v = .ref a → ∃ ob, s.heap.get? a = some ob ∧ ob.dict = none := by
  cases x with
  | str z =>
    obtain ⟨t, rfl⟩ := r
    cases (show T = "str" from ty)
    exact ⟨typeIs_str s z t, fun _ e => nomatch e⟩
  | int i =>
    obtain ⟨t, rfl⟩ := r
    cases (show T = "int" from ty)
    exact ⟨typeIs_int s i t, fun _ e => nomatch e⟩
  | ref p =>
    cases r
    rcases ty with ⟨rfl, xs, hq⟩ | ⟨rfl, o, hk, hc, hd⟩ | ⟨rfl, hk⟩ | ⟨rfl, S, n, hk⟩
    · obtain ⟨its, _, pl, _⟩ := I.list hq
      refine ⟨pl.isList.typeIs, fun a e => ?_⟩
      cases e
      obtain ⟨o, n, e, c, hd, _⟩ := pl
      exact ⟨o, e, hd⟩
    · refine ⟨⟨o, I.kIn p o hk, hc⟩, fun a e => ?_⟩
      cases e
      exact ⟨o, I.kIn _ o hk, hd⟩
    · have z : ∃ o, s.heap.get? p = some o ∧ o.ExactDict := by
        rcases hk with ⟨kvs, hk⟩ | ⟨kvs, hk⟩
        · obtain ⟨_, _, _, _, o, _, _, e, ex, _⟩ := I.hok p _ hk
          exact ⟨o, e, ex⟩
        · obtain ⟨_, _, _, _, o, _, _, e, ex, _⟩ := I.hok p _ hk
          exact ⟨o, e, ex⟩
      obtain ⟨o, e, ex⟩ := z
      refine ⟨⟨o, e, ex.1⟩, fun a e2 => ?_⟩
      cases e2
      exact ⟨o, e, ex.2.1⟩
    · obtain ⟨o, _, _, _, e, ex, _⟩ := I.hok p _ hk
      refine ⟨⟨o, e, ex.1⟩, fun a e2 => ?_⟩
      cases e2
      exact ⟨o, e, ex.2.1⟩
  | _ => exact False.elim ty
def tBM0 (K : PySem.W.Frag) (T : String) (r : V → List V → Hp → VK → Prop) (to : TE) : TE := fun σ H Q => to σ H fun x H1 => tyV K T x H1 ∧ r x [] H1 Q
def tBM (K : PySem.W.Frag) (T : String) (r : V → List V → Hp → VK → Prop) (to : TE) (t : TA) : TE := fun σ H Q => to σ H fun x H1 => tyV K T x H1 ∧ t σ H1 fun xs H2 => r x xs H2 Q
variable {o e : Expr} {es : List Expr} {to : TE} {t : TA} {name : Str} {apos cpos : Pos} {T id : String} {r : V → List V → Hp → VK → Prop}
theorem pe_bm (pa : PlainAttrs T) (slot : Slot T name id) (hty : typeOf (.builtin id) = pure (.type "method_descriptor")) (hm : MtR X id r) (ho : PE X o to) (ha : PA X (e :: es) t)
    (hbase : attributeBase o name X.env (eval o X.env) = eval o X.env := by rfl)
    (hfew : ((backTo cpos (starEach (e :: es) X.env)).all (fun x => !x.1) && (backToKw cpos (keywordEach [] X.env)).all (fun x => x.1.isSome)
      && decide ((e :: es).length + ([] : List Keyword).length + (if ([] : List Keyword).isEmpty then 0 else 1) < 30)) = true := by rfl)
    (hline : (apos.endLine == cpos.line) = true := by rfl) (hs : starEach (e :: es) X.env = (false, eval e X.env) :: starEach es X.env := by rfl) (hplain : (backTo cpos (starEach es X.env)).any (·.1) = false := by rfl) :
    PE X (.Call (.Attribute o name apos) (e :: es) [] cpos) (tBM X.K T r to t) := by
  intro pins s σ H Q I h
  refine wpAny_Call_method_late hbase hfew hline rfl (thn (ho pins s σ H _ I h) fun v s1 ⟨x, H1, I1, r1, ty, q1⟩ => ?_)
  obtain ⟨h1, h2⟩ := tyV_is I1 r1 ty
  refine ⟨T, id, pa, slot, hty, h1, h2, ?_⟩
  have hA := ha cpos pins s1 σ H1 _ I1 q1
  rw [hs] at hA ⊢
  refine Calls.callWith_builtin (by show (false || (backTo cpos (starEach es X.env)).any (·.1)) = false; rw [hplain] <;> rfl) (Calls.evalArgs_plain ?_)
  exact thn hA fun us s2 ⟨vs, H2, I2, r2, q2⟩ => hm pins s2 σ H2 x vs v us Q I2 r1 r2 q2
/- xs.append(e), list.index on a module's tuple .. are MtR facts of 06m -/
end
end L2
namespace L2
open PySem PySem.Spec PyProof.Rows
def MtM (X : Cx) (id : String) (r : V → List V → Hp → VK → Prop) : Prop :=
  ∀ (pins : List (Addr × Obj)) (s : Shared) (σ : St) (H : Hp) (x : V) (xs : List V) (v : Value) (us : List Value) (Q : VK), Inv X pins σ H s → RelV x v → Vals xs us → r x xs H Q →
    wpAny (model X.prog X.w) X.A (call (.builtin id) (v :: us)) (EP X pins σ Q) X.xe s

/-! ### lists of values -/
theorem Vals.one : ∀ {x : V} {us : List Value}, Vals [x] us → ∃ u, us = [u] ∧ RelV x u
  | _, _, .cons r .nil => ⟨_, rfl, r⟩
theorem Vals.two : ∀ {x y : V} {us : List Value}, Vals [x, y] us → ∃ u v, us = [u, v] ∧ RelV x u ∧ RelV y v
  | _, _, _, .cons r (.cons q .nil) => ⟨_, _, rfl, r, q⟩
theorem Vals.zero : ∀ {us : List Value}, Vals [] us → us = []
  | _, .nil => rfl
theorem Vals.dropLast {xs : List V} {us : List Value} (h : Vals xs us) : Vals xs.dropLast us.dropLast := by
  induction h with
  | nil => exact .nil
  | cons r t ih =>
    cases t with
    | nil => exact .nil
    | cons q t' => exact .cons r ih
theorem Vals.eraseIdx : ∀ {xs : List V} {us : List Value} (i : Nat), Vals xs us → Vals (xs.eraseIdx i) (us.eraseIdx i)
  | _, _, _, .nil => .nil
  | _, _, 0, .cons _ t => t
  | _, _, i + 1, .cons r t => .cons r (Vals.eraseIdx i t)
theorem Vals.reverse {xs : List V} {us : List Value} (h : Vals xs us) : Vals xs.reverse us.reverse := by
  induction h with
  | nil => exact .nil
  | cons r t ih => rw [List.reverse_cons, List.reverse_cons]; exact Vals.append ih (.cons r .nil)
theorem Vals.rep {xs : List V} {us : List Value} (h : Vals xs us) : ∀ k : Nat, Vals (List.replicate k xs).flatten (List.replicate k us).flatten
  | 0 => .nil
  | k + 1 => by
    rw [List.replicate_succ, List.replicate_succ, List.flatten_cons, List.flatten_cons]
    exact Vals.append h (Vals.rep h k)
theorem foldl_rep (its : List Value) : ∀ (k : Nat) (acc : List Value),
    List.foldl (fun x1 x2 => x1 ++ x2) acc.toArray (List.replicate k its.toArray) = (acc ++ (List.replicate k its).flatten).toArray
  | 0, acc => by simp
  | k + 1, acc => by
    have e : acc.toArray ++ its.toArray = (acc ++ its).toArray := by simp
    have e2 : (acc ++ its) ++ (List.replicate k its).flatten = acc ++ (List.replicate (k + 1) its).flatten := by
      rw [List.replicate_succ, List.flatten_cons, List.append_assoc]
    rw [← e2, ← foldl_rep its k (acc ++ its), ← e, List.replicate_succ, List.foldl_cons]

section
variable {X : Cx} {pins : List (Addr × Obj)} {σ : St} {H : Hp} {s : Shared} {l b : Addr} {xs ys zs : List V}
/-! ### the two steps: a tracked list is rewritten, a new list is laid -/
theorem Inv.lset {its its' : List Value} {n : Nat} {f : Array Value → Array Value} {t' : Nat} (I : Inv X pins σ H s) (hH : H l = some (.lst xs))
    (e : s.heap.get? l = some { cls := .type "list", data := .seq its.toArray n }) (hf : f its.toArray = its'.toArray) (hv : Vals ys its') (hz : ys.length ≤ sizeLine) :
    Inv X pins σ (upd H l (.lst ys)) { s with heap := s.heap.update l (Obj.mapSeq f), toks := t' } := by
  have q := PySem.IsL.update e f
  rw [hf] at q
  refine I.write (x := l) (e := l) (by rw [hH]; exact trivial) (.inl rfl) (fun b' u hb hu => (Heap.get?_update_other s.heap (Obj.mapSeq f) (Ne.symm hb)).trans hu) ⟨_, q⟩ ?_
  exact ⟨hz, its', _, hv, q⟩
theorem Inv.lnew {its : List Value} {t' : Nat} (I : Inv X pins σ H s) (hv : Vals ys its) (hz : ys.length ≤ sizeLine) :
    Inv X pins σ (upd H s.heap.objs.size (.lst ys)) { s with heap := s.heap.push { cls := .type "list", data := .seq its.toArray }, toks := t' } :=
  I.laid (fun _ _ q => Heap.get?_push_of_some _ q) (Nat.le_refl _) ⟨hz, its, 0, hv, Heap.get?_push_size _ rfl⟩
theorem Inv.fresh (I : Inv X pins σ H s) : H s.heap.objs.size = none := I.hok.fresh (Nat.le_refl _)
theorem Inv.lstM (I : Inv X pins σ H s) (hH : H l = some (.lst xs)) : xs.length ≤ sizeLine ∧ ∃ (its : List Value) (n : Nat), Vals xs its ∧ xs.length = its.length ∧ s.heap.get? l = some { cls := .type "list", data := .seq its.toArray n } := by
  obtain ⟨z, its, n, r, e⟩ := I.hok l _ hH
  exact ⟨z, its, n, r, r.length, e⟩

theorem notLongL {n : Nat} (h : n ≤ sizeLine) : Builtin.List.listTooLong n = false := by
  unfold Builtin.List.listTooLong
  exact decide_eq_false (by omega)
end
section
variable {X : Cx}
/-! ### methods -/
def rAppend : V → List V → Hp → VK → Prop := fun x vs H Q => ∃ l xs y, x = .ref l ∧ vs = [y] ∧ H l = some (.lst xs) ∧ xs.length < sizeLine ∧ Q .non (upd H l (.lst (xs ++ [y])))
theorem mt_append : MtM X "list.append" rAppend := by
  intro pins s σ H x vs v us Q I rx rv h
  obtain ⟨l, xs, y, rfl, rfl, hH, hz, q⟩ := h
  cases rx
  obtain ⟨u, rfl, ru⟩ := rv.one
  obtain ⟨z, its, n, r, hl, e⟩ := I.lstM hH
  refine call_meets F.slot_list_append ⟨_, e, rfl⟩ F.entry_list_append (F.args_list_append_2 _ _) (PySem.list_append l its.toArray n u (by rw [List.size_toArray]; omega)) ⟨e, ?_⟩
  refine ⟨.non, _, I.lset (its' := its ++ [u]) hH e (by simp) (r.append (.cons ru .nil)) ?_, rfl, q⟩
  rw [List.length_append, List.length_singleton]
  omega

def rExtend : V → List V → Hp → VK → Prop := fun x vs H Q => ∃ l b xs zs, x = .ref l ∧ vs = [.ref b] ∧ H l = some (.lst xs) ∧ H b = some (.lst zs) ∧ xs.length + zs.length ≤ sizeLine ∧ Q .non (upd H l (.lst (xs ++ zs)))
theorem mt_extend : MtM X "list.extend" rExtend := by
  intro pins s σ H x vs v us Q I rx rv h
  obtain ⟨l, b, xs, zs, rfl, rfl, hH, hB, hz, q⟩ := h
  cases rx
  obtain ⟨u, rfl, ru⟩ := rv.one
  cases ru
  obtain ⟨z, its, n, r, hl, e⟩ := I.lstM hH
  obtain ⟨z2, its2, n2, r2, hl2, e2⟩ := I.lstM hB
  have hsz : its.toArray.size + its2.toArray.size ≤ sizeLine := by rw [List.size_toArray, List.size_toArray]; omega
  have hlong : ¬ (!its.toArray.isEmpty && Builtin.List.listTooLong (its.toArray.size + its2.toArray.size)) = true := by
    rw [notLongL hsz, Bool.and_false]
    exact Bool.false_ne_true
  refine call_meets F.slot_list_extend ⟨_, e, rfl⟩ F.entry_list_extend (F.args_list_extend_2 _ _)
    (AutoSeq1.list_extend_list_list_0 l its.toArray n b its2.toArray n2 hlong (by rw [List.size_toArray]; omega) (by omega)) ⟨e, e2, ?_⟩
  refine ⟨.non, _, I.lset (its' := its ++ its2) hH e (by simp) (r.append r2) ?_, rfl, q⟩
  rw [List.length_append]
  omega

def rPop : V → List V → Hp → VK → Prop := fun x vs H Q => ∃ l xs y, x = .ref l ∧ vs = [] ∧ H l = some (.lst xs) ∧ xs[xs.length - 1]? = some y ∧ Q y (upd H l (.lst xs.dropLast))
def rPopAt : V → List V → Hp → VK → Prop := fun x vs H Q => ∃ l xs i k y, x = .ref l ∧ vs = [.int i] ∧ H l = some (.lst xs) ∧ -(2 ^ 63) ≤ i ∧ i < 2 ^ 63 ∧ seqIndex? i xs.length = some k ∧ xs[k]? = some y ∧ Q y (upd H l (.lst (xs.eraseIdx k)))
def rReverse : V → List V → Hp → VK → Prop := fun x vs H Q => ∃ l xs, x = .ref l ∧ vs = [] ∧ H l = some (.lst xs) ∧ Q .non (upd H l (.lst xs.reverse))
def rClear : V → List V → Hp → VK → Prop := fun x vs H Q => ∃ l xs, x = .ref l ∧ vs = [] ∧ H l = some (.lst xs) ∧ Q .non (upd H l (.lst []))
/-! ### list + list, list += list, list * int -/
def rCat : R2 := fun x y H Q => ∃ l b xs zs, x = .ref l ∧ y = .ref b ∧ H l = some (.lst xs) ∧ H b = some (.lst zs) ∧ xs.length + zs.length ≤ sizeLine ∧ ∀ p, H p = none → Q (.ref p) (upd H p (.lst (xs ++ zs)))
theorem op_cat : OpR X (binaryOp .Add) rCat := by
  intro pins s σ H x y v u Q I rx ry h
  obtain ⟨l, b, xs, zs, rfl, rfl, hH, hB, hz, q⟩ := h
  cases rx
  cases ry
  obtain ⟨z, its, n, r, hl, e⟩ := I.lstM hH
  obtain ⟨z2, its2, n2, r2, hl2, e2⟩ := I.lstM hB
  refine PySem.P.add_list e e2 ?_ (by rw [List.size_toArray, List.size_toArray]; omega)
  have ea : its.toArray ++ its2.toArray = (its ++ its2).toArray := by simp
  rw [ea]
  exact ⟨.ref _, _, I.lnew (t' := s.toks) (r.append r2) (by rw [List.length_append]; omega), rfl, q _ I.fresh⟩
/-- a list times an int (a negative one is nothing) -/
def rRep : R2 := fun x y H Q => ∃ l k xs, x = .ref l ∧ y = .int k ∧ H l = some (.lst xs) ∧ -(2 ^ 63) ≤ k ∧ k < 2 ^ 63 ∧ xs.length * k.toNat ≤ sizeLine ∧
  ∀ p, H p = none → Q (.ref p) (upd H p (.lst (List.replicate k.toNat xs).flatten))
theorem len_rep {α : Type} (xs : List α) (k : Nat) : (List.replicate k xs).flatten.length = k * xs.length := by
  induction k with
  | zero => simp
  | succ k ih => rw [List.replicate_succ, List.flatten_cons, List.length_append, ih, Nat.succ_mul, Nat.add_comm]
theorem op_rep : OpR X (binaryOp .Mult) rRep := by
  intro pins s σ H x y v u Q I rx ry h
  obtain ⟨l, k, xs, rfl, rfl, hH, h1, h2, hz, q⟩ := h
  cases rx
  obtain ⟨t, rfl⟩ := ry
  obtain ⟨z, its, n, r, hl, e⟩ := I.lstM hH
  have hlen : its.toArray.size * k.toNat ≤ sizeLine := by rw [List.size_toArray, ← hl]; exact hz
  have hcap : ¬ its.toArray.size * k.toNat > (2 ^ 63 - 1) / 8 := by
    have : (sizeLine : Nat) ≤ (2 ^ 63 - 1) / 8 := by decide
    omega
  have hfit : ¬ (!Builtin.List.listFitsIndex k) = true := by
    rw [fitsIndex_both h1 h2]
    exact Bool.false_ne_true
  have hlong : ¬ Builtin.List.listTooLong (its.toArray.size * k.toNat) = true := by
    rw [notLongL hlen]
    exact Bool.false_ne_true
  have hnew : List.foldl (fun x1 x2 => x1 ++ x2) #[] (List.replicate (if its.toArray.isEmpty = true then 0 else k.toNat) its.toArray) = (List.replicate k.toNat its).flatten.toArray := by
    have f0 : ∀ m : Nat, List.foldl (fun x1 x2 => x1 ++ x2) #[] (List.replicate m its.toArray) = (List.replicate m its).flatten.toArray := fun m => by
      have := foldl_rep its m []
      rw [List.nil_append] at this
      exact this
    rw [f0]
    cases its with
    | nil => simp
    | cons a r' => rw [if_neg (by simp)]
  refine wpAny_binaryOp_repeat_ref (T := "list") (U := "int") (by decide) ⟨_, e, rfl⟩ (fun s' => typeIs_int s' k t) noFill_list_mul F.fills_int_mul F.slot_int_rmul repeat_list F.slot_int_index.lookup
    (call_meets F.slot_int_rmul (typeIs_int s k t) F.entry_int_rmul (F.args_int_rmul_2 _ _) (int___rmul___int_list k t l its.toArray n)
      ⟨e, rfl, ⟨_, e, rfl⟩, call_meets F.slot_list_mul ⟨_, e, rfl⟩ F.entry_list_mul (F.args_list_mul_2 _ _) (AutoListH.list___mul___list_int_3 l its.toArray n k t hfit hcap hlong) ⟨e, ?_⟩⟩)
  rw [hnew]
  exact ⟨.ref _, _, I.lnew (t' := s.toks) (r.rep k.toNat) (by rw [len_rep, Nat.mul_comm]; exact hz), rfl, q _ I.fresh⟩

end
/-! ### xs[a:b] = ys -/
section
variable {prog : Program} {w : World} {A : Around} {E : Value → Shared → Prop} {s : Shared}
end
section
variable {X : Cx}
end
end L2
namespace Att
open PySem PySem.W PySem.Calls PyProof.Rows
/-! ### the script -/
theorem ints_of_wellAll {P : Params} {h : Heap} : ∀ (ns : List Int) (vs : List Value), WellAll P h vs (ns.map WData.int) → IntsAre vs ns := by
  intro ns
  induction ns with
  | nil =>
    intro vs w
    rw [List.map_nil] at w
    cases w
    exact .nil
  | cons n ns ih =>
    intro vs w
    rw [List.map_cons] at w
    cases w with
    | cons a b =>
      cases a
      exact .cons _ _ (ih _ b)

theorem script_of {l : OpenLaw} {n : Nat} (hn : l.most = some n) {P : Params} {h : Heap} {args : List WData} {vals : List Value}
    (hpre : l.row.toRowW.claim.pre args = true) (hwl : WellAll P h vals args) :
    ∃ a vs ns, vals = [Value.ref a] ∧ args = [WData.list (ns.map WData.int)] ∧ h.get? a = some { cls := .type "list", data := .seq vs.toArray } ∧ IntsAre vs ns ∧ ns.length ≤ n := by
  have hsh : WShape.hasAll [] args [.list .int] = true := (pre_splitW hpre).1
  have hc : l.pre.holds [] { args := args } = true := (pre_splitW hpre).2
  obtain ⟨d, r, rfl, h1, h2⟩ := hasAllW_cons hsh
  obtain rfl := hasAllW_nil h2
  obtain ⟨xs, rfl, h3⟩ := hasW_list h1
  obtain ⟨ns, rfl⟩ := items_int h3
  have hlen : ns.length ≤ n := by
    unfold OpenLaw.pre at hc
    have h4 : (WTm.not (.lt (.lit (.int (n : Int))) (.len (.arg 0)))).holds [] { args := [.list (ns.map .int)] } = true := by
      have h4 := (holds_andW hc).1
      rw [hn] at h4
      exact h4
    have h5 := condW_of h4 (w_not (w_lt w_lit (w_len_list (w_arg rfl))))
    rw [List.length_map] at h5
    refine Nat.le_of_not_lt fun q => ?_
    have q' : (n : Int) < ((ns.length : Nat) : Int) := by omega
    first
      | (rw [decide_eq_true q'] at h5; exact absurd h5 (by decide))
      | (simp at h5; omega)
  cases hwl with
  | cons w1 w2 =>
    cases w2
    cases w1 with
    | list ho hall => exact ⟨_, _, ns, rfl, rfl, ho, ints_of_wellAll ns _ hall, hlen⟩

theorem post_true (l : OpenLaw) (args : List WData) : l.row.toRowW.claim.post args (.bool true) args = true :=
  postW_of (r := l.row.toRowW) (X := (true == true))
    (show WShape.has [] (.bool true) .bool = true by first | rfl | decide | simp [WShape.has, WShape.arms, WShape.armsAll])
    (show (WTm.eq .res (.lit (.bool true))).value [] { args := args, res := some (.bool true), after := args } = some (.bool (true == true)) from w_eq_bool (w_res rfl) w_lit) rfl

/-- the same from a codeAny of the CALL (for a layer whose function contracts speak of calls) -/
theorem attach_call {l : OpenLaw} {n : Nat} {q : Program} {loose : List Str} {XP : (Str → Option Value) → Heap → Prop} {YP : World → Heap → Prop} {d : DefRec}
    (hn : l.most = some n) (hdf : d.params.defaults = [])
    (call : ∀ (w : World) (s₀ s₁ : Shared) (mg mb : Str → Option Value) (fa : Addr) (o : Obj) (pm cd doc : Value) (a : Addr) (vs : List Value) (ns : List Int),
      Ground q loose [] XP w s₀ mg mb s₁.heap → YP w s₁.heap →
      s₁.heap.get? fa = some o → o.data = .func (docDef d.name d.params d.body d.scope pm cd doc) → s₁.heap.CodeRec cd d.name → mg d.name = some (.ref fa) →
      s₁.heap.get? a = some { cls := .type "list", data := .seq vs.toArray } → IntsAre vs ns → ns.length ≤ n → s₁.gens = #[] →
      codeAny (model l.prog w) callerA (.call (.ref fa) ⟨[.ref a], []⟩) (fun r s' => r = .ok (.ret (.bool true)) ∧ OldK s₁.heap s'.heap ∧ s'.os = s₁.os ∧ AllBare s'.gens) s₁) :
    WalkO q loose XP YP l.row.toRowW d [] (fun f vs => PySem.call f vs) := by
  intro w s₀ s₁ mg mb G Y fa o pm cd doc dV kV ho hd hcd hD hmg hg args vals as hpre hlay hrd hwl hlo
  obtain rfl : dV = .none := Dflts.none hD hdf
  obtain rfl : kV = .none := Dflts.noKw hD
  obtain ⟨a, vs, ns, rfl, rfl, hobj, hints, hlen⟩ := script_of hn hpre hwl
  refine enter_call (codeAny_mono (call w s₀ s₁ mg mb fa o pm cd doc a vs ns G Y ho (fd_plain hd) hcd hmg hobj hints hlen hg) fun r s' hq => ?_)
  obtain ⟨rfl, h2, h3, h4⟩ := hq
  exact ⟨.inl ⟨.bool true, .bool true, [], rfl, fun _ => rfl, .bool true, post_true l _, fun _ => ⟨List.Pairwise.nil, fun _ hm => (nomatch hm)⟩⟩, h2, h3, h4⟩

/-! ### rules over ANY heap (no ledger) from facts about the written part K: the library's own take a ledger (News) for what they write -/
section
variable {prog : Program} {w : World} {A : Around} {E : Value → Shared → Prop} {s : Shared} {K : Frag}
/-! the whole heap as the ledger: makes every rule that writes through a ledger a rule over any heap -/
def noObjs (h : Heap) : Heap := { h with objs := #[] }
def ledger (h : Heap) (L d : Addr) : List (Addr × Obj) := (List.range h.objs.size).filterMap fun a => if a = L ∨ a = d then none else (h.get? a).map fun o => (a, o)
end
end Att
namespace L2
open PySem PySem.Spec PyProof.Rows
theorem vals_ints : ∀ {vs : List Value} {ns : List Int}, IntsAre vs ns → Vals (ns.map V.int) vs
  | _, _, .nil => .nil
  | _, _, .cons n t h => .cons ⟨t, rfl⟩ (vals_ints h)

/-- nothing is tracked but the script, known to the object (or it is an object of the module) -/
def Only (H : Hp) : Prop := ∀ b, H b = none ∨ ∃ o xs, H b = some (.frz o (.lst xs))

/-- THE HEAD: the law's promise, at the heap behind the top. F, the promise of the law's def, may use that base is part of the heap (so K.In base, base.Ns mainGlobals mg stand in Mod) -/
theorem law_call {P : Program} {w : World} {K : PySem.W.Frag} {mg mb : Str → Option Value} {CX : CXT} {k : Nat} {fa a : Addr} {fd : FuncData} {x : Str} {sp : Sp} {s₁ : Shared} {vs : List Value} {ns : List Int}
    (KX : K.In s₁.heap) (hns : s₁.heap.Ns mainGlobals mg) (hb : s₁.heap.Ns builtinsNs mb) (hbb : ∀ x : Str, x ≠ "__name__" → mb x = bootBuiltins x) (hlim : s₁.heap.NoLimit) (hg : s₁.gens = #[])
    (ha : s₁.heap.get? a = some { cls := .type "list", data := .seq vs.toArray }) (hi : IntsAre vs ns) (hl : ns.length ≤ sizeLine) (hr : Room k callerA)
    (F : ∀ base : Heap, K.In base → base.Ns mainGlobals mg → FnOk P w K mg base CX k fa fd [x] sp) (hbind : ∀ (s : Shared) (u : Value), BindsTo s fd ⟨[u], []⟩ [(x, u)])
    (hsp : ∀ H : Hp, Only H → SqL K H a (ns.map V.int) → sp [.ref a] H (fun v _ => v = .bl true) fun _ _ _ => False)
    (hCX : ∀ H e s', CX [] H s₁ (fun _ _ _ => False) e s' → False) :
    codeAny (model P w) callerA (.call (.ref fa) ⟨[.ref a], []⟩) (fun r s' => r = .ok (.ret (.bool true)) ∧ OldK s₁.heap s'.heap ∧ s'.os = s₁.os ∧ AllBare s'.gens) s₁ := by
  have rv := vals_ints hi
  have lenV := hi.length
  -- from an abstract heap in which nothing but the script may be tracked
  have core : ∀ H : Hp, Only H → SqL K H a (ns.map V.int) → HOk P w H s₁.heap → (∀ b, H b ≠ none → b = a) → (H a ≠ none → K.lookup a = none) →
      codeAny (model P w) callerA (.call (.ref fa) ⟨[.ref a], []⟩) (fun r s' => r = .ok (.ret (.bool true)) ∧ OldK s₁.heap s'.heap ∧ s'.os = s₁.os ∧ AllBare s'.gens) s₁ := by
    intro H hO hS hok hA hK
    have base_of : ∀ {b : Addr} {o : Obj}, s₁.heap.get? b = some o → H b = none → (hidT s₁.heap H).get? b = some o := fun e n => hidT_get e n
    have noA : ∀ {b : Addr} {o : Obj} {es : Array DictEntry} {ep : Nat}, s₁.heap.get? b = some o → o.data = .dict es ep → H b = none := fun {b o es ep} e d => by
      cases q : H b with
      | none => rfl
      | some u =>
        have e' : b = a := hA b (by rw [q]; simp)
        subst e'
        rw [ha] at e; cases e
        have d' : Data.seq vs.toArray _ = Data.dict es ep := d
        cases d'
    have nsK : ∀ {b : Addr} {m : Str → Option Value}, s₁.heap.Ns b m → (hidT s₁.heap H).Ns b m := fun {b m} ⟨o, es, ep, e, d, r⟩ => ⟨o, es, ep, base_of e (noA e d), d, r⟩
    have hKb : K.In (hidT s₁.heap H) := fun b o e => base_of (KX b o e) (by
      cases q : H b with
      | none => rfl
      | some u =>
        have e' : b = a := hA b (by rw [q]; simp)
        subst e'
        rw [hK (by rw [q]; simp)] at e; cases e)
    have hM : Mod K mg (hidT s₁.heap H) := ⟨hKb, nsK hns, ⟨mb, nsK hb, hbb⟩, let ⟨mc, h1, h2⟩ := hlim; ⟨mc, nsK h1, h2⟩⟩
    have e0 : Env0 P w K mg (hidT s₁.heap H) callerA [] s₁ H := ⟨rfl, hM, fun b o e => of_hidT e, Nat.le_of_eq (hidT_size _ _), trivial, fun b hb => absurd (show b ∈ ([] : List Addr) from hb) (by simp), hok, .of_eq hg⟩
    refine codeAny_mono ((F _ hKb (nsK hns)).run callerA [] s₁ H ⟨[.ref a], []⟩ [.ref a] [.ref a] _ _ hr e0 (hbind s₁ (.ref a)) (.cons rfl .nil) (hsp H hO hS)) fun r s' h => ?_
    cases r with
    | error e => exact (hCX H e s' h).elim
    | ok fl =>
      cases fl with
      | next => exact False.elim h
      | brk => exact False.elim h
      | cont => exact False.elim h
      | ret u =>
        obtain ⟨v, H', os, bare, un, hok', r', q⟩ := h
        have q' : v = .bl true := q
        subst q'
        obtain rfl : u = Value.bool true := r'
        refine ⟨rfl, OldK.of_keep fun b o e => ?_, os, bare⟩
        cases q : H b with
        | none => exact un.keep b o e q (by intro z; exact absurd (show b ∈ ([] : List Addr) from z) (by simp)) (by simp)
        | some u =>
          rcases hO b with z | ⟨ob, xs, z⟩
          · rw [q] at z; cases z
          · have z2 := un.frzs b ob _ z
            obtain ⟨e1, _⟩ := hok b _ z
            obtain ⟨e2, _⟩ := hok' b _ z2
            rw [e] at e1; cases e1
            exact e2
  cases hk : K.lookup a with
  | some o =>
    -- the script is one of the module's own objects
    have e := KX a o hk
    rw [ha] at e
    cases e
    refine core (fun _ => none) (fun _ => .inl rfl) (.inr ⟨_, vs.toArray, _, hk, rfl, rfl, rfl, by rw [List.size_toArray, lenV]; exact hl, by simpa using rv⟩) (fun b u z => by have z' : (none : Option HO) = some u := z; cases z') (fun b z => absurd rfl z) fun z => absurd rfl z
  | none =>
    refine core (fun b => if b = a then some (.frz { cls := .type "list", data := .seq vs.toArray } (.lst (ns.map V.int))) else none) (fun b => ?_) (.inl (.inr ⟨{ cls := .type "list", data := .seq vs.toArray }, if_pos rfl⟩)) (fun b u z => ?_) (fun b z => ?_) fun _ => hk
    · by_cases hb : b = a
      · exact .inr ⟨_, _, if_pos hb⟩
      · exact .inl (if_neg hb)
    · by_cases hb : b = a
      · have z' := (if_pos hb).symm.trans z
        cases z'
        subst hb
        exact ⟨ha, by rw [List.length_map]; exact hl, vs, _, rv, ha⟩
      · have z' := (if_neg hb).symm.trans z
        cases z'
    · by_cases hb : b = a
      · exact hb
      · exact absurd (if_neg hb) z
end L2
namespace L2
open PySem PySem.Spec PyProof.Rows
abbrev KOf {K : PySem.W.Frag} {h : Heap} (_ : K.In h) : PySem.W.Frag := K

/-- the goal that k_head leaves (case hc), from the law's promise. F gives the function object fd (K's own) once, then the promise over every base -/
theorem walk_of {l : PySem.W.OpenLaw} {n k : Nat} {q : Program} {loose : List Str} {XP : (Str → Option Value) → Heap → Prop} {YP : World → Heap → Prop} {d : DefRec} {K : Params → PySem.W.Frag} {CX : World → CXT} {sp : World → Sp} {x : Str}
    (hn : l.most = some n) (hn2 : n ≤ sizeLine) (hdf : d.params.defaults = []) (hr : Room k callerA)
    (hY : ∀ (w : World) (h : Heap), YP w h → (K w.params).In h)
    (F : ∀ (w : World) (mg : Str → Option Value) (fa : Addr) (h : Heap), (K w.params).In h → h.Ns mainGlobals mg → mg d.name = some (.ref fa) →
      ∃ fd : FuncData, (∀ (s : Shared) (u : Value), BindsTo s fd ⟨[u], []⟩ [(x, u)]) ∧
        ∀ base : Heap, (K w.params).In base → base.Ns mainGlobals mg → FnOk l.prog w (K w.params) mg base (CX w) k fa fd [x] (sp w))
    (hsp : ∀ (w : World) (H : Hp) (a : Addr) (ns : List Int), ns.length ≤ n → Only H → SqL (K w.params) H a (ns.map V.int) → sp w [.ref a] H (fun v _ => v = .bl true) fun _ _ _ => False)
    (hCX : ∀ (w : World) (H : Hp) (s : Shared) (e : Value) (s' : Shared), CX w [] H s (fun _ _ _ => False) e s' → False) :
    PySem.W.WalkO q loose XP YP l.row.toRowW d [] (fun f vs => PySem.call f vs) := by
  refine Att.attach_call hn hdf fun w s₀ s₁ mg mb fa o pm cd doc a vs ns G Y ho hd hcd hmg hobj hints hlen hg => ?_
  have KX := hY w _ Y
  obtain ⟨fd, hb, hF⟩ := F w mg fa _ KX G.T.g hmg
  exact law_call KX G.T.g G.T.b G.T.builtins G.T.nolimit hg hobj hints (Nat.le_trans hlen hn2) hr hF hb (fun H hO hS => hsp w H a ns hlen hO hS) fun H e s' => hCX w H s₁ e s'
end L2
/- THE LAST THEOREM (shape; LID, My.* are yours):
   My.Adr: a structure of the addresses that your layer names (classes, functions); My.Txt K t: a structure (Prop) of the equations over K;
   My.txt_mk : {K} {implicit addresses ..} (e1 : nsIn K mainGlobals "law" = some (some (.ref f))) (e2 : K.lookup f = some ⟨oc, od, .func (fnOf "law" "law" params body scope dV kV doc pm an cdv ct), sl⟩) (e3 : codeIn K cdv "law" = true) .. : ∃ t, My.Txt K t

set_option maxRecDepth 100000 in
set_option maxHeartbeats 0 in
theorem PySem.Challenge.cw_LID_holds : PySem.Challenge.rw_LID.Holds := by
  w_on; o_law; k_head; (case hw => w_witness2)
  k_fill
  refine L2.walk_of (l := PySem.Challenge.rw_LID) (n := 63) (k := 40) (x := "script") (CX := fun w => ..) (sp := fun _ => My.sp_law) rfl (by decide) rfl ⟨rfl, by decide, by decide⟩ (fun w h Y => PySem.W.kIn_of Y) ?F ?S ?C
  case F =>
    intro w mg fa h KX G hmg
    have T : ∃ t, My.Txt (L2.KOf KX) t := by
      dsimp only [L2.KOf]                          -- K must stand as «<heap const> w.params» for k_is
      refine' My.txt_mk ?e1 ?e2 ?e3 ..
      (case e1 => PySem.W.k_is)                    -- in the order: a name -> its address -> its object -> its parts
      (case e2 => PySem.W.k_is)
      ..
    obtain ⟨t, T⟩ := T
    have e0 := hmg.symm.trans (PySem.W.mg_of KX G T.law)
    cases e0                                       -- fa is the law's own address
    exact ⟨_, fun s u => .of_eq rfl, fun base kb nb => My.law_fn T kb nb⟩     -- if «.of_eq rfl» comes too early: refine' ⟨_, ?b, fun base kb nb => My.law_fn T kb nb⟩; exact fun s u => .of_eq rfl
  case S => exact fun w H a ns hl hO hS => ..
  case C => exact ..
(the tactic k_is has no namespace: write k_is) -/
/-! SHORT WORDS over the layer: a def of the text, its body, what a loop and a test want. -/
namespace L2
open PySem PySem.Spec PyProof.Rows
/-! ### the text by places -/
/-- the j-th statement of a class's body -/
def inClass (s : Stmt) (j : Nat) : Stmt := match s with
  | .ClassDef _ _ _ body _ _ _ _ _ _ _ => body.getD j (.Pass ⟨0, 0, 0, 0⟩)
  | _ => .Pass ⟨0, 0, 0, 0⟩
def defArgs (s : Stmt) : Arguments := match s with
  | .FunctionDef _ a _ _ _ _ _ _ _ _ => a
  | _ => { posonlyargs := [], args := [], vararg := none, kwonlyargs := [], kw_defaults := [], kwarg := none, defaults := [] }
def defBody (s : Stmt) : List Stmt := match s with
  | .FunctionDef _ _ b _ _ _ _ _ _ _ => b
  | _ => []
def defScope (s : Stmt) : Scope := match s with
  | .FunctionDef _ _ _ _ _ _ sc _ _ _ => sc
  | _ => { kind := .function, names := [], isGenerator := false, isCoroutine := false }

/-! ### no exception leaves a def -/
abbrev CX0 : CXT := fun _ _ _ _ _ _ => False
abbrev E0 : XK := fun _ _ _ => False
theorem pass0 {X : Cx} : Passes CX0 X E0 := fun _ _ _ _ _ _ _ h => h.elim

/-! ### a def (or method) of the text as it stands behind the top -/
structure Fun (K : PySem.W.Frag) (x qual : Str) (st : Stmt) (f : Addr) (fd : FuncData) : Prop where
  ex : ∃ (oc : Value) (od : Option Addr) (kV doc pm : Value) (an : Option Addr) (cdv ct : Value) (osl : Array (Option Value)),
    fd = PySem.W.fnOf x qual (defArgs st) (defBody st) (defScope st) .none kV doc pm an cdv ct ∧ K.lookup f = some ⟨oc, od, .func fd, osl⟩ ∧ PySem.W.codeIn K cdv qual = true
  kp : PySem.W.keepIn K (.ref f) = true
section
variable {P : Program} {w : World} {K : PySem.W.Frag} {mg : Str → Option Value} {base : Heap}
/-- THE RULE for a def: its body as a term of rules, and the reading of that term -/
theorem Fun.ok {x qual : Str} {st : Stmt} {f : Addr} {fd : FuncData} {N ps : List Str} {k : Nat} {sp : Sp} (F : Fun K x qual st f fd) (S : FnScope N ps (defScope st)) (len : ∀ vs H Q E, sp vs H Q E → vs.length = ps.length)
    (hbody : ∀ (cdv : Value) (A : Around) (outer : List Env) (s : Shared) (H : Hp) (vs : List V) (Q : VK) (E : XK), Room k (A.deeper (envOfC qual (defScope st) s.heap.objs.size f cdv)) → sp vs H Q E →
      ∃ t, PSs (cxOf CX0 P w K mg base N qual (defScope st) f cdv A outer s H E).nox (defBody st) t ∧ t { nx := fun _ H' => Q .non H', rt := Q } (start N vs) H) : FnOk P w K mg base CX0 (k + 1) f fd ps sp := by
  obtain ⟨oc, od, kV, doc, pm, an, cdv, ct, osl, rfl, lk, hcd⟩ := F.ex
  refine fn_of lk hcd S len fun A outer s H vs Q E hr hsp => ?_
  obtain ⟨t, h, q⟩ := hbody cdv A outer s H vs Q E hr hsp
  exact ⟨t, h.nox, q⟩
/-- how its arguments bind (no defaults): h is «fun _ _ _ _ _ _ us hl => match us, hl with | [_, _], _ => rfl», one _ a parameter -/
theorem Fun.binds {x qual : Str} {st : Stmt} {f : Addr} {fd : FuncData} {ps : List Str} (F : Fun K x qual st f fd)
    (h : ∀ (kV doc pm : Value) (an : Option Addr) (cdv ct : Value) (us : List Value), us.length = ps.length → bindArgs (PySem.W.fnOf x qual (defArgs st) (defBody st) (defScope st) .none kV doc pm an cdv ct) ⟨us, []⟩ = pure (ps.zip us)) : Binds K fd ps [] := by
  obtain ⟨oc, od, kV, doc, pm, an, cdv, ct, osl, rfl, lk, hcd⟩ := F.ex
  exact .all (h kV doc pm an cdv ct)
theorem fun_mk {x qual : Str} {st : Stmt} {f : Addr} {oc : Value} {od an : Option Addr} {osl : Array (Option Value)} {kV doc pm cdv ct : Value} (l : K.lookup f = some ⟨oc, od, .func (PySem.W.fnOf x qual (defArgs st) (defBody st) (defScope st) .none kV doc pm an cdv ct), osl⟩)
    (c : PySem.W.codeIn K cdv qual = true) (k : PySem.W.keepIn K (.ref f) = true) : Fun K x qual st f (PySem.W.fnOf x qual (defArgs st) (defBody st) (defScope st) .none kV doc pm an cdv ct) := ⟨⟨oc, od, kV, doc, pm, an, cdv, ct, osl, rfl, l, c⟩, k⟩
end
theorem hu_of {A : Around} {k : Nat} (hr : Room k A) : A.units + 1 < cLine := Nat.lt_of_le_of_lt (Nat.add_le_add_left (by decide : 1 ≤ 64) _) hr.units
theorem small1000 {n : Nat} (h : n ≤ 1000) : n < sizeLine := Nat.lt_of_le_of_lt h (by decide)

/-! ### expressions in short: the name that stands in the i-th slot -/
section
variable {X : Cx}
theorem pv (i : Nat) {x : Str} {pos : Pos} (hN : X.N[i]? = some x := by rfl) (hv : Vis X.env.scope x := by first | exact Or.inl rfl | exact Or.inr (Or.inl rfl) | exact Or.inr (Or.inr rfl)) (hd : (x == ("__debug__" : Str)) = false := by decide)
    (hcd : (x == ("__classdict__" : Str)) = false := by decide) : PE X (.Name x pos) (tVar i) := pe_var hN hv hd hcd
end
/-! ### tests -/
theorem iteF {A B : Prop} (h : B) : if false = true then A else B := by
  rw [if_neg Bool.false_ne_true]
  exact h
theorem iteT {A B : Prop} (h : A) : if true = true then A else B := by
  rw [if_pos rfl]
  exact h
theorem ite2 {c A B : Prop} [Decidable c] (h1 : c → A) (h2 : ¬ c → B) : if c then A else B := by
  by_cases h : c
  · rw [if_pos h]
    exact h1 h
  · rw [if_neg h]
    exact h2 h
theorem iteNS {c A B : Prop} [Decidable c] (hc : c) (h : B) : if (!decide c) = true then A else B := by
  rw [decide_eq_true hc]
  exact iteF h

/-! ### heaps -/
/-- all that was tracked is as it was -/
def Same (H H' : Hp) : Prop := ∀ b o, H b = some o → H' b = some o
theorem Same.refl (H : Hp) : Same H H := fun _ _ h => h
theorem Same.trans {H H1 H2 : Hp} (a : Same H H1) (b : Same H1 H2) : Same H H2 := fun c o h => b c o (a c o h)
theorem Same.free {H H' : Hp} (e : Same H H') {l : Addr} (h : H' l = Option.none) : H l = Option.none := by
  cases q : H l with
  | none => rfl
  | some o =>
    rw [e l o q] at h
    cases h
theorem Same.seq {K : PySem.W.Frag} {H H' : Hp} {a : Addr} {xs : List V} (e : Same H H') (h : SqL K H a xs) : SqL K H' a xs := by
  rcases h with (h | ⟨o, h⟩) | h
  · exact .inl (.inl (e _ _ h))
  · exact .inl (.inr ⟨o, e _ _ h⟩)
  · exact .inr h

end L2
namespace Ts
open PySem PyProof.Rows
/-! the model's sort beyond its first 63 items: two runs and one merge -/
abbrev SM := StateT SortSt Sem
def gal : Bool → Keyed → Array Keyed → Nat → Nat → Nat → SM (Option Nat) := sortPriv% PySem.Builtin.gallop

section
variable {P : Program} {w : World} {A : Around} {E : Value → Shared → Prop} {s : Shared}
/-- a key that is an int -/
def IsI (p : Keyed) : Prop := ∃ n t, p.1 = .int n t
theorem IsI.eq {p : Keyed} (h : IsI p) : ∃ t, p = (.int (numOf p.1) t, p.2) := by
  obtain ⟨n, t, e⟩ := h
  exact ⟨t, Prod.ext (by rw [e]; rfl) rfl⟩

theorem wp_lt {st : SortSt} {x y : Keyed} {Q : Option Bool → SortSt → Prop} (hk : kindOf st = oneType') (hx : IsI x) (hy : IsI y) (h : Q (some (decide (numOf x.1 < numOf y.1))) st) :
    wpS (model P w) A E s (lt' x y) Q st := by
  obtain ⟨n, t, e1⟩ := hx
  obtain ⟨n', t', e2⟩ := hy
  rw [lt'_eq]
  refine wpS_bind (wpS_get ?_)
  rw [hk, keyLt'_oneType, e1, e2]
  refine wpS_bind (wpS_lift (wpAny_attempt (oneLt_int ⟨rfl, ?_⟩)))
  rw [e1, e2] at h
  exact wpS_pure h
theorem wp_elem {st : SortSt} {ar : Array Keyed} {i : Nat} {Q : Keyed → SortSt → Prop} (hi : i < ar.size) (h : Q ar[i] st) : wpS (model P w) A E s (elem' ar i) Q st := by
  rw [elem'_eq, getElem?_pos ar i hi]
  exact wpS_pure h

/-- the test of a gallop -/
def farB (le : Bool) (ky : Keyed) (ar : Array Keyed) (ba i : Nat) : Bool := if le then decide (K ar (ba + i) < numOf ky.1) else !decide (numOf ky.1 < K ar (ba + i))

theorem wp_far {st : SortSt} {le : Bool} {ky : Keyed} {ar : Array Keyed} {ba i : Nat} {Q : Option Bool → SortSt → Prop} (hk : kindOf st = oneType') (hy : IsI ky) (ha : ∀ j (h : j < ar.size), IsI ar[j]) (hi : ba + i < ar.size)
    (h : Q (some (farB le ky ar ba i)) st) : wpS (model P w) A E s (do
      let x ← elem' ar (ba + i)
      if le then lt' x ky else return (← lt' ky x).map (!·)) Q st := by
  refine wpS_bind (wp_elem hi ?_)
  have eK : numOf ar[ba + i].1 = K ar (ba + i) := by unfold K; rw [getElem?_pos ar _ hi]
  cases le with
  | true =>
    simp only [if_true]
    refine wp_lt hk (ha _ hi) hy ?_
    rw [eK]
    exact h
  | false =>
    simp only [Bool.false_eq_true, if_false]
    refine wpS_bind (wp_lt hk hy (ha _ hi) ?_)
    rw [eK]
    exact wpS_pure h

theorem wp_gal {st : SortSt} {le : Bool} {ky : Keyed} {ar : Array Keyed} {ba m hn : Nat} {Q : Option Nat → SortSt → Prop} (hk : kindOf st = oneType') (hy : IsI ky) (ha : ∀ j (h : j < ar.size), IsI ar[j]) (hm : ba + m ≤ ar.size) (hh : hn < m)
    (mono : ∀ i j, i ≤ j → j < m → farB le ky ar ba j = true → farB le ky ar ba i = true)
    (h : ∀ k, k ≤ m → (∀ i, i < k → farB le ky ar ba i = true) → (∀ i, k ≤ i → i < m → farB le ky ar ba i = false) → Q (some k) st) :
    wpS (model P w) A E s (gal le ky ar ba m hn) Q st := by
  have antm : ∀ i j, i ≤ j → j < m → farB le ky ar ba i = false → farB le ky ar ba j = false := fun i j hij hj e => by
    cases q : farB le ky ar ba j with
    | false => rfl
    | true => rw [mono i j hij hj q] at e; cases e
  refine wpS_bind (wp_far hk hy ha (by omega) ?_)
  dsimp only
  cases q0 : farB le ky ar ba hn with
  | true =>
    simp only [if_true]
    refine wpS_bind (wpS_mono (wpS_forRange (I := fun x c st' => st' = st ∧ ∃ p o, c = (none, p, o) ∧ x ≤ p ∧ p < o ∧ hn + p < m ∧ farB le ky ar ba (hn + p) = true)
      (Q := fun c st' => st' = st ∧ ∃ p o, c = (none, p, o) ∧ p < o ∧ hn + p < m ∧ farB le ky ar ba (hn + p) = true ∧ (m ≤ hn + o ∨ farB le ky ar ba (hn + o) = false)) ?step ?fin ?init) ?post)
    case init => exact ⟨rfl, 0, 1, rfl, by omega, by omega, by omega, q0⟩
    case fin =>
      rintro c st' ⟨e, p, o, rfl, a1, a2, a3, a4⟩
      exact ⟨e, p, o, rfl, a2, a3, a4, .inl (by omega)⟩
    case step =>
      rintro x c st' _ hx ⟨rfl, p, o, rfl, a1, a2, a3, a4⟩
      dsimp only
      by_cases hge : o ≥ m - hn
      · rw [if_pos hge]
        exact wpS_pure ⟨rfl, p, o, rfl, a2, a3, a4, .inl (by omega)⟩
      · rw [if_neg hge]
        refine wpS_bind (wp_far hk hy ha (by omega) ?_)
        dsimp only
        cases q : farB le ky ar ba (hn + o) with
        | true =>
          simp only [Bool.not_true, Bool.false_eq_true, if_false]
          exact wpS_pure ⟨rfl, _, _, rfl, by omega, by omega, by omega, q⟩
        | false =>
          simp only [Bool.not_false, if_true]
          exact wpS_pure ⟨rfl, p, o, rfl, a2, a3, a4, .inr q⟩
    case post =>
      rintro c st' ⟨rfl, p, o, rfl, a2, a3, a4, a5⟩
      dsimp only
      refine wpS_bind (wpS_mono (wpS_forRange (I := fun x c s2 => s2 = st' ∧ ∃ u v, c = (none, u, v) ∧ u ≤ v ∧ v ≤ m ∧ v - u ≤ m - x ∧ (∀ i, i < u → farB le ky ar ba i = true) ∧ (∀ i, v ≤ i → i < m → farB le ky ar ba i = false))
        (Q := fun c s2 => s2 = st' ∧ ∃ v, c = (none, v, v) ∧ v ≤ m ∧ (∀ i, i < v → farB le ky ar ba i = true) ∧ (∀ i, v ≤ i → i < m → farB le ky ar ba i = false)) ?step2 ?fin2 ?init2) ?post2)
      case init2 =>
        refine ⟨rfl, hn + p + 1, hn + min o (m - hn), rfl, by omega, by omega, by omega, fun i hi => ?_, fun i h1 h2 => ?_⟩
        · exact mono i (hn + p) (by omega) a3 a4
        · rcases a5 with a5 | a5
          · omega
          · exact antm (hn + o) i (by omega) h2 a5
      case fin2 =>
        rintro c st' ⟨e, u, v, rfl, b1, b2, b3, b4, b5⟩
        have : u = v := by omega
        subst this
        exact ⟨e, u, rfl, b2, b4, b5⟩
      case post2 =>
        rintro c st' ⟨rfl, v, rfl, b2, b4, b5⟩
        exact wpS_pure (h v b2 b4 b5)
      case step2 =>
        rintro x c st' _ hx ⟨rfl, u, v, rfl, b1, b2, b3, b4, b5⟩
        dsimp only
        by_cases hge : u ≥ v
        · rw [if_pos hge]
          have : u = v := by omega
          subst this
          exact wpS_pure ⟨rfl, u, rfl, b2, b4, b5⟩
        · rw [if_neg hge]
          refine wpS_bind (wp_far hk hy ha (by omega) ?_)
          dsimp only
          cases q : farB le ky ar ba (u + (v - u) / 2) with
          | true =>
            simp only [if_true]
            exact wpS_pure ⟨rfl, _, _, rfl, by omega, b2, by omega, fun i hi => mono i (u + (v - u) / 2) (by omega) (by omega) q, b5⟩
          | false =>
            simp only [Bool.false_eq_true, if_false]
            exact wpS_pure ⟨rfl, _, _, rfl, by omega, by omega, by omega, b4, fun i h1 h2 => antm _ i h1 h2 q⟩
  | false =>
    simp only [Bool.false_eq_true, if_false]
    refine wpS_bind (wpS_mono (wpS_forRange (I := fun x c st' => st' = st ∧ ∃ p o, c = (none, p, o) ∧ x ≤ p ∧ p < o ∧ p ≤ hn ∧ farB le ky ar ba (hn - p) = false)
      (Q := fun c st' => st' = st ∧ ∃ p o, c = (none, p, o) ∧ p < o ∧ p ≤ hn ∧ farB le ky ar ba (hn - p) = false ∧ (hn + 1 ≤ o ∨ farB le ky ar ba (hn - o) = true)) ?step ?fin ?init) ?post)
    case init => exact ⟨rfl, 0, 1, rfl, by omega, by omega, by omega, q0⟩
    case fin =>
      rintro c st' ⟨e, p, o, rfl, a1, a2, a3, a4⟩
      exact ⟨e, p, o, rfl, a2, a3, a4, .inl (by omega)⟩
    case step =>
      rintro x c st' _ hx ⟨rfl, p, o, rfl, a1, a2, a3, a4⟩
      dsimp only
      by_cases hge : o ≥ hn + 1
      · rw [if_pos hge]
        exact wpS_pure ⟨rfl, p, o, rfl, a2, a3, a4, .inl (by omega)⟩
      · rw [if_neg hge]
        refine wpS_bind (wp_far hk hy ha (by omega) ?_)
        dsimp only
        cases q : farB le ky ar ba (hn - o) with
        | false =>
          simp only [Bool.false_eq_true, if_false]
          exact wpS_pure ⟨rfl, _, _, rfl, by omega, by omega, by omega, q⟩
        | true =>
          simp only [if_true]
          exact wpS_pure ⟨rfl, p, o, rfl, a2, a3, a4, .inr q⟩
    case post =>
      rintro c st' ⟨rfl, p, o, rfl, a2, a3, a4, a5⟩
      dsimp only
      refine wpS_bind (wpS_mono (wpS_forRange (I := fun x c s2 => s2 = st' ∧ ∃ u v, c = (none, u, v) ∧ u ≤ v ∧ v ≤ m ∧ v - u ≤ m - x ∧ (∀ i, i < u → farB le ky ar ba i = true) ∧ (∀ i, v ≤ i → i < m → farB le ky ar ba i = false))
        (Q := fun c s2 => s2 = st' ∧ ∃ v, c = (none, v, v) ∧ v ≤ m ∧ (∀ i, i < v → farB le ky ar ba i = true) ∧ (∀ i, v ≤ i → i < m → farB le ky ar ba i = false)) ?step2 ?fin2 ?init2) ?post2)
      case init2 =>
        refine ⟨rfl, hn + 1 - min o (hn + 1), hn - p, rfl, by omega, by omega, by omega, fun i hi => ?_, fun i h1 h2 => ?_⟩
        · rcases a5 with a5 | a5
          · omega
          · exact mono i (hn - o) (by omega) (by omega) a5
        · exact antm (hn - p) i h1 h2 a4
      case fin2 =>
        rintro c st' ⟨e, u, v, rfl, b1, b2, b3, b4, b5⟩
        have : u = v := by omega
        subst this
        exact ⟨e, u, rfl, b2, b4, b5⟩
      case post2 =>
        rintro c st' ⟨rfl, v, rfl, b2, b4, b5⟩
        exact wpS_pure (h v b2 b4 b5)
      case step2 =>
        rintro x c st' _ hx ⟨rfl, u, v, rfl, b1, b2, b3, b4, b5⟩
        dsimp only
        by_cases hge : u ≥ v
        · rw [if_pos hge]
          have : u = v := by omega
          subst this
          exact wpS_pure ⟨rfl, u, rfl, b2, b4, b5⟩
        · rw [if_neg hge]
          refine wpS_bind (wp_far hk hy ha (by omega) ?_)
          dsimp only
          cases q : farB le ky ar ba (u + (v - u) / 2) with
          | true =>
            simp only [if_true]
            exact wpS_pure ⟨rfl, _, _, rfl, by omega, b2, by omega, fun i hi => mono i (u + (v - u) / 2) (by omega) (by omega) q, b5⟩
          | false =>
            simp only [Bool.false_eq_true, if_false]
            exact wpS_pure ⟨rfl, _, _, rfl, by omega, by omega, by omega, b4, fun i h1 h2 => antm _ i h1 h2 q⟩
end
end Ts
namespace Ts
open PySem PyProof.Rows
def mLo : Array Keyed → Array Keyed → SM (Array Keyed) := sortPriv% PySem.Builtin.mergeLo
def mHi : Array Keyed → Array Keyed → SM (Array Keyed) := sortPriv% PySem.Builtin.mergeHi
def setG (g : Nat) : SM Unit := modify fun st => SortSt.mk' (kindOf st) (arrOf st) (pendingOf st) g (failedOf st)


/-! the mathematics of a merge, over lists -/
def le (x y : Keyed) : Prop := numOf x.1 ≤ numOf y.1
theorem le.trans {x y z : Keyed} (a : le x y) (b : le y z) : le x z := Int.le_trans a b

structure MI (a b o : List Keyed) (i j : Nat) : Prop where
  hi : i ≤ a.length
  hj : j ≤ b.length
  perm : o.Perm (a.take i ++ b.take j)
  up : o.Pairwise le
  oa : ∀ x ∈ o, ∀ y ∈ a.drop i, le x y
  ob : ∀ x ∈ o, ∀ y ∈ b.drop j, le x y
theorem MI.swap {a b o : List Keyed} {i j : Nat} (h : MI a b o i j) : MI b a o j i := ⟨h.hj, h.hi, h.perm.trans List.perm_append_comm, h.up, h.ob, h.oa⟩
theorem take_more (a : List Keyed) (i k : Nat) : a.take (i + k) = a.take i ++ (a.drop i).take k := by rw [List.take_add]
theorem MI.blockA {a b o : List Keyed} {i j : Nat} (h : MI a b o i j) (ua : a.Pairwise le) (k : Nat) (hk : i + k ≤ a.length) (c : ∀ x ∈ (a.drop i).take k, ∀ y ∈ b.drop j, le x y) :
    MI a b (o ++ (a.drop i).take k) (i + k) j := by
  have hd : (a.drop i).take k ++ a.drop (i + k) = a.drop i := by rw [← List.drop_drop]; exact List.take_append_drop k (a.drop i)
  have ud : (a.drop i).Pairwise le := ua.sublist (List.drop_sublist i a)
  rw [← hd, List.pairwise_append] at ud
  refine ⟨hk, h.hj, ?_, ?_, ?_, ?_⟩
  · rw [take_more, List.append_assoc]
    have := h.perm.append_right ((a.drop i).take k)
    refine this.trans ?_
    rw [List.append_assoc]
    exact List.Perm.append_left _ List.perm_append_comm
  · rw [List.pairwise_append]
    exact ⟨h.up, ud.1, fun x hx y hy => h.oa x hx y (List.mem_of_mem_take hy)⟩
  · intro x hx y hy
    rcases List.mem_append.mp hx with hx | hx
    · exact h.oa x hx y (by rw [← hd]; exact List.mem_append_right _ hy)
    · exact ud.2.2 x hx y hy
  · intro x hx y hy
    rcases List.mem_append.mp hx with hx | hx
    · exact h.ob x hx y hy
    · exact c x hx y hy
theorem MI.blockB {a b o : List Keyed} {i j : Nat} (h : MI a b o i j) (ub : b.Pairwise le) (k : Nat) (hk : j + k ≤ b.length) (c : ∀ x ∈ (b.drop j).take k, ∀ y ∈ a.drop i, le x y) :
    MI a b (o ++ (b.drop j).take k) i (j + k) := (h.swap.blockA ub k hk c).swap
theorem MI.fin {a b o : List Keyed} {i j : Nat} (h : MI a b o i j) (ua : a.Pairwise le) (ub : b.Pairwise le) (c : ∀ x ∈ a.drop i, ∀ y ∈ b.drop j, le x y) :
    (o ++ a.drop i ++ b.drop j).Perm (a ++ b) ∧ (o ++ a.drop i ++ b.drop j).Pairwise le := by
  constructor
  · have h1 : (o ++ (a.drop i ++ b.drop j)).Perm (a.take i ++ b.take j ++ (a.drop i ++ b.drop j)) := h.perm.append_right _
    have h2 : (a.take i ++ b.take j ++ (a.drop i ++ b.drop j)).Perm ((a.take i ++ a.drop i) ++ (b.take j ++ b.drop j)) := by
      rw [List.append_assoc, List.append_assoc]
      refine List.Perm.append_left _ ?_
      rw [← List.append_assoc, ← List.append_assoc]
      exact List.Perm.append_right _ List.perm_append_comm
    rw [List.take_append_drop, List.take_append_drop] at h2
    rw [List.append_assoc]
    exact h1.trans h2
  · rw [List.append_assoc, List.pairwise_append, List.pairwise_append]
    refine ⟨h.up, ⟨ua.sublist (List.drop_sublist i a), ub.sublist (List.drop_sublist j b), c⟩, fun x hx y hy => ?_⟩
    rcases List.mem_append.mp hy with hy | hy
    · exact h.oa x hx y hy
    · exact h.ob x hx y hy
theorem MI.fla {a b o : List Keyed} {i j : Nat} (h : MI a b o i j) (ua : a.Pairwise le) (ub : b.Pairwise le) (c : ∀ x ∈ b.drop j, ∀ y ∈ a.drop i, le x y) :
    (o ++ b.drop j ++ a.drop i).Perm (a ++ b) ∧ (o ++ b.drop j ++ a.drop i).Pairwise le := by
  obtain ⟨h1, h2⟩ := h.swap.fin ub ua c
  exact ⟨h1.trans List.perm_append_comm, h2⟩

/-! arrays -/
def Up (a : Array Keyed) : Prop := ∀ i j, i ≤ j → j < a.size → K a i ≤ K a j
theorem K_at {a : Array Keyed} {i : Nat} (h : i < a.size) : K a i = numOf a[i].1 := by unfold K; rw [getElem?_pos a i h]
theorem Up.list {a : Array Keyed} (h : Up a) : a.toList.Pairwise le := by
  rw [List.pairwise_iff_getElem]
  intro i j hi hj hij
  have hi' : i < a.size := by simpa using hi
  have hj' : j < a.size := by simpa using hj
  have := h i j (Nat.le_of_lt hij) hj'
  rw [K_at hi', K_at hj'] at this
  simpa [le] using this
theorem mem_dropA {a : Array Keyed} {i : Nat} {x : Keyed} (h : x ∈ a.toList.drop i) : ∃ t, i ≤ t ∧ t < a.size ∧ numOf x.1 = K a t := by
  obtain ⟨t, ht, e⟩ := List.mem_iff_getElem.mp h
  rw [List.getElem_drop] at e
  have h2 : i + t < a.size := by rw [List.length_drop] at ht; simp at ht; omega
  refine ⟨i + t, by omega, h2, ?_⟩
  rw [K_at h2, ← e]
  simp
theorem mem_cutA {a : Array Keyed} {i k : Nat} {x : Keyed} (h : x ∈ (a.toList.drop i).take k) : ∃ t, i ≤ t ∧ t < i + k ∧ t < a.size ∧ numOf x.1 = K a t := by
  obtain ⟨t, ht, e⟩ := List.mem_iff_getElem.mp h
  rw [List.getElem_take, List.getElem_drop] at e
  have h2 : i + t < a.size := by rw [List.length_take, List.length_drop] at ht; simp at ht; omega
  have h3 : t < k := by rw [List.length_take] at ht; omega
  refine ⟨i + t, by omega, by omega, h2, ?_⟩
  rw [K_at h2, ← e]
  simp
theorem extr (a : Array Keyed) (i k : Nat) : (a.extract i (i + k)).toList = (a.toList.drop i).take k := by
  rw [Array.toList_extract, List.extract_eq_take_drop]
  congr 1
  omega
theorem extr_end (a : Array Keyed) (i : Nat) : (a.extract i a.size).toList = a.toList.drop i := by
  rw [Array.toList_extract, List.extract_eq_take_drop]
  refine List.take_of_length_le ?_
  rw [List.length_drop]
  simp
theorem one_cut (a : Array Keyed) {i : Nat} (h : i < a.size) : [a[i]] = (a.toList.drop i).take 1 := by
  rw [List.drop_eq_getElem_cons (by simpa using h)]
  simp
/-- the merged part so far -/
abbrev M (a b o : Array Keyed) (i j : Nat) : Prop := MI a.toList b.toList o.toList i j
def Good (a b r : Array Keyed) : Prop := r.toList.Perm (a.toList ++ b.toList) ∧ r.toList.Pairwise le
theorem M.fin {a b o : Array Keyed} {i j : Nat} (h : M a b o i j) (ua : Up a) (ub : Up b) (c : i = a.size ∨ j = b.size) : Good a b (o ++ a.extract i a.size ++ b.extract j b.size) := by
  unfold Good
  rw [Array.toList_append, Array.toList_append, extr_end, extr_end]
  refine MI.fin h ua.list ub.list fun x hx y hy => ?_
  rcases c with c | c
  · rw [c, List.drop_of_length_le (by simp)] at hx; cases hx
  · rw [c, List.drop_of_length_le (by simp)] at hy; cases hy
theorem M.fla {a b o : Array Keyed} {i j : Nat} (h : M a b o i j) (ua : Up a) (ub : Up b) (hi : i + 1 = a.size) (c : ∀ t, t < b.size → K b t ≤ K a (a.size - 1)) : Good a b (o ++ b.extract j b.size ++ a.extract i a.size) := by
  unfold Good
  rw [Array.toList_append, Array.toList_append, extr_end, extr_end]
  refine MI.fla h ua.list ub.list fun x hx y hy => ?_
  obtain ⟨t, t1, t2, t3⟩ := mem_dropA hx
  obtain ⟨u, u1, u2, u3⟩ := mem_dropA hy
  unfold le
  rw [t3, u3, show u = a.size - 1 by omega]
  exact c t t2
theorem M.blockA {a b o : Array Keyed} {i j : Nat} (h : M a b o i j) (ua : Up a) (k : Nat) (hk : i + k ≤ a.size) (c : ∀ t u, i ≤ t → t < i + k → j ≤ u → u < b.size → K a t ≤ K b u) : M a b (o ++ a.extract i (i + k)) (i + k) j := by
  unfold M
  rw [Array.toList_append, extr]
  refine MI.blockA h ua.list k (by simpa using hk) fun x hx y hy => ?_
  obtain ⟨t, t1, t2, t3, t4⟩ := mem_cutA hx
  obtain ⟨u, u1, u2, u3⟩ := mem_dropA hy
  unfold le
  rw [t4, u3]
  exact c t u t1 t2 u1 u2
theorem M.blockB {a b o : Array Keyed} {i j : Nat} (h : M a b o i j) (ub : Up b) (k : Nat) (hk : j + k ≤ b.size) (c : ∀ t u, j ≤ t → t < j + k → i ≤ u → u < a.size → K b t ≤ K a u) : M a b (o ++ b.extract j (j + k)) i (j + k) :=
  MI.swap (M.blockA (MI.swap h) ub k hk c)
theorem M.oneA {a b o : Array Keyed} {i j : Nat} (h : M a b o i j) (ua : Up a) (hk : i < a.size) (c : ∀ u, j ≤ u → u < b.size → K a i ≤ K b u) : M a b (o.push a[i]) (i + 1) j := by
  have := h.blockA ua 1 (by omega) fun t u t1 t2 u1 u2 => by rw [show t = i by omega]; exact c u u1 u2
  unfold M at this ⊢
  rw [Array.toList_append, extr, ← one_cut a hk] at this
  rw [Array.toList_push]
  exact this
theorem M.oneB {a b o : Array Keyed} {i j : Nat} (h : M a b o i j) (ub : Up b) (hk : j < b.size) (c : ∀ u, i ≤ u → u < a.size → K b j ≤ K a u) : M a b (o.push b[j]) i (j + 1) :=
  MI.swap (M.oneA (MI.swap h) ub hk c)

/-- the state, but for the gallop's bound -/
def Alike (st st' : SortSt) : Prop := ∃ g, st' = SortSt.mk' (kindOf st) (arrOf st) (pendingOf st) g (failedOf st)
theorem Alike.refl (st : SortSt) : Alike st st := ⟨gallopOf st, rfl⟩
theorem Alike.set {st st' : SortSt} (h : Alike st st') (g : Nat) : Alike st (SortSt.mk' (kindOf st') (arrOf st') (pendingOf st') g (failedOf st')) := by
  obtain ⟨g0, rfl⟩ := h
  exact ⟨g, rfl⟩
theorem Alike.kind {st st' : SortSt} (h : Alike st st') : kindOf st' = kindOf st := by
  obtain ⟨g0, rfl⟩ := h
  rfl

section
variable {P : Program} {w : World} {A : Around} {E : Value → Shared → Prop} {s : Shared}
theorem wp_setG {st : SortSt} {g : Nat} {Q : Unit → SortSt → Prop} (h : Q () (SortSt.mk' (kindOf st) (arrOf st) (pendingOf st) g (failedOf st))) : wpS (model P w) A E s (setG g) Q st := wpS_modify h
theorem far_right {ky : Keyed} {ar : Array Keyed} {ba i : Nat} : farB false ky ar ba i = true ↔ K ar (ba + i) ≤ numOf ky.1 := by
  unfold farB
  simp
theorem far_left {ky : Keyed} {ar : Array Keyed} {ba i : Nat} : farB true ky ar ba i = true ↔ K ar (ba + i) < numOf ky.1 := by
  unfold farB
  simp
theorem gal_right {st : SortSt} {ky : Keyed} {ar : Array Keyed} {ba m hn : Nat} {Q : Option Nat → SortSt → Prop} (hk : kindOf st = oneType') (hy : IsI ky) (ha : ∀ j (h : j < ar.size), IsI ar[j]) (ua : Up ar) (hm : ba + m ≤ ar.size) (hh : hn < m)
    (h : ∀ k, k ≤ m → (∀ t, ba ≤ t → t < ba + k → K ar t ≤ numOf ky.1) → (∀ t, ba + k ≤ t → t < ba + m → numOf ky.1 < K ar t) → Q (some k) st) : wpS (model P w) A E s (gal false ky ar ba m hn) Q st := by
  refine wp_gal hk hy ha hm hh (fun i j hij hj e => ?_) fun k k1 k2 k3 => h k k1 (fun t t1 t2 => ?_) fun t t1 t2 => ?_
  · rw [far_right] at e ⊢
    exact Int.le_trans (ua _ _ (by omega) (by omega)) e
  · have := k2 (t - ba) (by omega)
    rw [far_right, show ba + (t - ba) = t by omega] at this
    exact this
  · have := k3 (t - ba) (by omega) (by omega)
    rcases Int.lt_or_le (numOf ky.1) (K ar t) with z | z
    · exact z
    · rw [far_right.mpr (by rw [show ba + (t - ba) = t by omega]; exact z)] at this
      cases this
theorem gal_left {st : SortSt} {ky : Keyed} {ar : Array Keyed} {ba m hn : Nat} {Q : Option Nat → SortSt → Prop} (hk : kindOf st = oneType') (hy : IsI ky) (ha : ∀ j (h : j < ar.size), IsI ar[j]) (ua : Up ar) (hm : ba + m ≤ ar.size) (hh : hn < m)
    (h : ∀ k, k ≤ m → (∀ t, ba ≤ t → t < ba + k → K ar t < numOf ky.1) → (∀ t, ba + k ≤ t → t < ba + m → numOf ky.1 ≤ K ar t) → Q (some k) st) : wpS (model P w) A E s (gal true ky ar ba m hn) Q st := by
  refine wp_gal hk hy ha hm hh (fun i j hij hj e => ?_) fun k k1 k2 k3 => h k k1 (fun t t1 t2 => ?_) fun t t1 t2 => ?_
  · rw [far_left] at e ⊢
    exact Int.lt_of_le_of_lt (ua _ _ (by omega) (by omega)) e
  · have := k2 (t - ba) (by omega)
    rw [far_left, show ba + (t - ba) = t by omega] at this
    exact this
  · have := k3 (t - ba) (by omega) (by omega)
    rcases Int.lt_or_le (K ar t) (numOf ky.1) with z | z
    · rw [far_left.mpr (by rw [show ba + (t - ba) = t by omega]; exact z)] at this
      cases this
    · exact z

theorem wp_mLo {st : SortSt} {a b : Array Keyed} {Q : Array Keyed → SortSt → Prop} (hk : kindOf st = oneType') (ia : ∀ j (h : j < a.size), IsI a[j]) (ib : ∀ j (h : j < b.size), IsI b[j]) (ua : Up a) (ub : Up b)
    (na : 1 ≤ a.size) (nb : 1 ≤ b.size) (h0 : K b 0 ≤ K a 0) (hl : ∀ t, t < b.size → K b t ≤ K a (a.size - 1)) (h : ∀ r st', Alike st st' → Good a b r → Q r st') : wpS (model P w) A E s (mLo a b) Q st := by
  refine wpS_bind (wpS_lift (wpAny_rule ⟨rfl, ?_⟩))
  dsimp only
  refine wpS_bind (wp_elem nb ?_)
  have m0 : M a b #[] 0 0 := ⟨Nat.zero_le _, Nat.zero_le _, by simp, .nil, fun x hx => (by cases hx), fun x hx => (by cases hx)⟩
  have m1 : M a b #[b[0]] 0 1 := m0.oneB ub nb fun u _ u2 => Int.le_trans h0 (ua 0 u (Nat.zero_le _) u2)
  by_cases c1 : 1 = b.size
  · rw [if_pos (by rw [← c1]; rfl)]
    exact wpS_pure (h _ _ (Alike.refl st) (m1.fin ua ub (.inr c1)))
  rw [if_neg (by simpa using c1)]
  by_cases c2 : 0 + 1 = a.size
  · rw [if_pos (by rw [← c2]; rfl)]
    exact wpS_pure (h _ _ (Alike.refl st) (m1.fla ua ub c2 hl))
  rw [if_neg (by simpa using c2)]
  refine wpS_bind (wpS_get ?_)
  refine wpS_bind (wpS_mono (wpS_forRange (I := fun x c st' => Alike st st' ∧ ∃ o i j g, c = (none, o, i, j, g) ∧ M a b o i j ∧ i + 1 < a.size ∧ j < b.size ∧ 1 + x ≤ i + j)
    (Q := fun c st' => Alike st st' ∧ ∃ r, c.1 = some r ∧ Good a b r) ?step ?fin ?init) ?post)
  case init => exact ⟨Alike.refl st, _, _, _, _, rfl, m1, by omega, by omega, by omega⟩
  case fin =>
    rintro c st' ⟨_, o, i, j, g, rfl, _, b1, b2, b3⟩
    exfalso
    omega
  case post =>
    rintro ⟨c1, c⟩ st' ⟨al, r, e, gd⟩
    dsimp only at e
    subst e
    exact wpS_pure (h r st' al gd)
  case step =>
    rintro x c s1 _ hx ⟨al, o, i, j, g, rfl, mm, b1, b2, b3⟩
    dsimp only
    -- one by one
    refine wpS_bind (wpS_mono (wpS_forRange (I := fun y c st' => st' = s1 ∧ ∃ o i j ac bc, c = (none, o, i, j, ac, bc) ∧ M a b o i j ∧ i + 1 < a.size ∧ j < b.size ∧ 1 + x + y ≤ i + j)
      (Q := fun c st' => st' = s1 ∧ ((∃ r, c.1 = some r ∧ Good a b r) ∨ ∃ o i j ac bc, c = (none, o, i, j, ac, bc) ∧ M a b o i j ∧ i + 1 < a.size ∧ j < b.size ∧ 1 + x + 1 ≤ i + j)) ?step1 ?fin1 ?init1) ?post1)
    case init1 => exact ⟨rfl, _, _, _, _, _, rfl, mm, b1, b2, b3⟩
    case fin1 =>
      rintro c st' ⟨e, o, i, j, ac, bc, rfl, b0, b1, b2, b3⟩
      exact ⟨e, .inr ⟨_, _, _, _, _, rfl, b0, b1, b2, by omega⟩⟩
    case step1 =>
      rintro y c st' _ hy ⟨rfl, o, i, j, ac, bc, rfl, mm, b1, b2, b3⟩
      dsimp only
      refine wpS_bind (wp_elem b2 ?_)
      refine wpS_bind (wp_elem (by omega) ?_)
      refine wpS_bind (wp_lt (al.kind.trans hk) (ib _ b2) (ia _ (by omega)) ?_)
      dsimp only
      rw [← K_at b2, ← K_at (show i < a.size by omega)]
      by_cases q : K b j < K a i
      · rw [if_pos (decide_eq_true q)]
        refine wpS_bind (wp_elem b2 ?_)
        have m2 := mm.oneB ub b2 fun u u1 u2 => Int.le_trans (Int.le_of_lt q) (ua i u u1 u2)
        by_cases e : j + 1 = b.size
        · rw [if_pos (by rw [← e]; simp)]
          exact wpS_pure ⟨rfl, .inl ⟨_, rfl, m2.fin ua ub (.inr e)⟩⟩
        rw [if_neg (by simpa using e)]
        split
        · exact wpS_pure ⟨rfl, .inr ⟨_, _, _, _, _, rfl, m2, b1, by omega, by omega⟩⟩
        · exact wpS_pure ⟨rfl, _, _, _, _, _, rfl, m2, b1, by omega, by omega⟩
      · rw [if_neg (by simpa using q)]
        refine wpS_bind (wp_elem (by omega) ?_)
        have m2 := mm.oneA ua (by omega) fun u u1 u2 => Int.le_trans (Int.not_lt.mp q) (ub j u u1 u2)
        by_cases e : i + 1 + 1 = a.size
        · rw [if_pos (by rw [← e]; simp)]
          exact wpS_pure ⟨rfl, .inl ⟨_, rfl, m2.fla ua ub e hl⟩⟩
        rw [if_neg (by simpa using e)]
        split
        · exact wpS_pure ⟨rfl, .inr ⟨_, _, _, _, _, rfl, m2, by omega, b2, by omega⟩⟩
        · exact wpS_pure ⟨rfl, _, _, _, _, _, rfl, m2, by omega, b2, by omega⟩
    case post1 =>
      rintro ⟨c1, c⟩ st' ⟨rfl, h1⟩
      rcases h1 with ⟨r, e, gd⟩ | ⟨o, i, j, ac, bc, e, mm, b1, b2, b3⟩
      · dsimp only at e
        subst e
        exact wpS_pure ⟨al, r, rfl, gd⟩
      cases e
      dsimp only
      refine wpS_bind (wpS_lift (wpAny_rule ⟨rfl, ?_⟩))
      -- by gallops
      refine wpS_bind (wpS_mono (wpS_forRange (I := fun y c st' => Alike st st' ∧ ∃ o i j g ac bc, c = (none, o, i, j, g, ac, bc) ∧ M a b o i j ∧ i + 1 < a.size ∧ j < b.size ∧ 1 + x + 1 ≤ i + j)
        (Q := fun c st' => Alike st st' ∧ ((∃ r, c.1 = some r ∧ Good a b r) ∨ ∃ o i j g ac bc, c = (none, o, i, j, g, ac, bc) ∧ M a b o i j ∧ i + 1 < a.size ∧ j < b.size ∧ 1 + x + 1 ≤ i + j)) ?step2 ?fin2 ?init2) ?post2)
      case init2 => exact ⟨al, _, _, _, _, _, _, rfl, mm, b1, b2, b3⟩
      case fin2 =>
        rintro c st' ⟨al, o, i, j, g, ac, bc, rfl, b0, b1, b2, b3⟩
        exact ⟨al, .inr ⟨_, _, _, _, _, _, rfl, b0, b1, b2, b3⟩⟩
      case post2 =>
        rintro ⟨c1, c⟩ st' ⟨al, h1⟩
        rcases h1 with ⟨r, e, gd⟩ | ⟨o, i, j, g, ac, bc, e, mm, b1, b2, b3⟩
        · dsimp only at e
          subst e
          exact wpS_pure ⟨al, r, rfl, gd⟩
        cases e
        dsimp only
        exact wpS_bind (wp_setG (wpS_pure ⟨al.set _, _, _, _, _, rfl, mm, b1, b2, by omega⟩))
      case step2 =>
        rintro y c st' _ hy ⟨al, o, i, j, g, ac, bc, rfl, mm, b1, b2, b3⟩
        dsimp only
        by_cases hg : g > 1
        all_goals first | rw [if_pos hg] | rw [if_neg hg]
        all_goals
          refine wpS_bind (wp_setG ?_)
          refine wpS_bind (wp_elem b2 ?_)
          refine wpS_bind (gal_right ((al.set _).kind.trans hk) (ib _ b2) ia ua (by omega) (by omega) fun k k1 k2 k3 => ?_)
          rw [← K_at b2] at k2 k3
          dsimp only
          have m2 := mm.blockA ua k (by omega) fun t u t1 t2 u1 u2 => Int.le_trans (k2 t t1 t2) (ub j u u1 u2)
          by_cases hk0 : k > 0
          rw [if_pos hk0]
          by_cases e1 : i + k + 1 = a.size
          · rw [if_pos (by rw [← e1]; simp)]
            exact wpS_pure ⟨al.set _, .inl ⟨_, rfl, m2.fla ua ub e1 hl⟩⟩
          rw [if_neg (by simpa using e1)]
          by_cases e2 : i + k = a.size
          · rw [if_pos (by rw [← e2]; simp)]
            exact wpS_pure ⟨al.set _, .inl ⟨_, rfl, m2.fin ua ub (.inl e2)⟩⟩
          rw [if_neg (by simpa using e2)]
          have bi : i + k + 1 < a.size := by omega
          have kk : ∀ u, i + k ≤ u → u < a.size → K b j ≤ K a u := fun u u1 u2 => Int.le_of_lt (k3 u u1 (by omega))
          rotate_left
          rw [if_neg hk0]
          have k0 : k = 0 := by omega
          subst k0
          clear m2
          have m2 := mm
          have bi : i + 1 < a.size := b1
          have kk : ∀ u, i ≤ u → u < a.size → K b j ≤ K a u := fun u u1 u2 => Int.le_of_lt (k3 u u1 (by omega))
          all_goals
            refine wpS_bind (wp_elem b2 ?_)
            have m3 := m2.oneB ub b2 kk
            by_cases e3 : j + 1 = b.size
            · rw [if_pos (by rw [← e3]; simp)]
              exact wpS_pure ⟨al.set _, .inl ⟨_, rfl, m3.fin ua ub (.inr e3)⟩⟩
            rw [if_neg (by simpa using e3)]
            refine wpS_bind (wp_elem (by omega) ?_)
            refine wpS_bind (gal_left ((al.set _).kind.trans hk) (ia _ (by omega)) ib ub (by omega) (by omega) fun k' l1 l2 l3 => ?_)
            rw [← K_at (by omega)] at l2 l3
            dsimp only
            have m4 := m3.blockB ub k' (by omega) fun t u t1 t2 u1 u2 => Int.le_trans (Int.le_of_lt (l2 t t1 t2)) (ua _ u u1 u2)
            by_cases hk1 : k' > 0
            rw [if_pos hk1]
            by_cases e4 : j + 1 + k' = b.size
            · rw [if_pos (by rw [← e4]; simp)]
              exact wpS_pure ⟨al.set _, .inl ⟨_, rfl, m4.fin ua ub (.inr e4)⟩⟩
            rw [if_neg (by simpa using e4)]
            have bj : j + 1 + k' < b.size := by omega
            have ll := fun u u1 (u2 : u < b.size) => l3 u u1 (by omega)
            rotate_left
            rw [if_neg hk1]
            have k0 : k' = 0 := by omega
            subst k0
            clear m4
            have m4 := m3
            have bj : j + 1 < b.size := by omega
            have ll := fun u u1 (u2 : u < b.size) => l3 u u1 (by omega)
            all_goals
              refine wpS_bind (wp_elem (by omega) ?_)
              have m5 := m4.oneA ua (by omega) ll
              split
              · rename_i e5
                exact wpS_pure ⟨al.set _, .inl ⟨_, rfl, m5.fla ua ub (by simpa using e5) hl⟩⟩
              · rename_i e5
                simp only [beq_iff_eq] at e5
                split
                · exact wpS_pure ⟨al.set _, .inr ⟨_, _, _, _, _, _, rfl, m5, by omega, bj, by omega⟩⟩
                · exact wpS_pure ⟨al.set _, _, _, _, _, _, _, rfl, m5, by omega, bj, by omega⟩
end
end Ts
namespace Ts
open PySem PyProof.Rows
structure HI (a b r : List Keyed) (i j : Nat) : Prop where
  hi : i ≤ a.length
  hj : j ≤ b.length
  perm : r.Perm (a.drop i ++ b.drop j)
  up : r.Pairwise le
  ra : ∀ x ∈ a.take i, ∀ y ∈ r, le x y
  rb : ∀ x ∈ b.take j, ∀ y ∈ r, le x y
theorem HI.swap {a b r : List Keyed} {i j : Nat} (h : HI a b r i j) : HI b a r j i := ⟨h.hj, h.hi, h.perm.trans List.perm_append_comm, h.up, h.rb, h.ra⟩
theorem HI.blockA {a b r : List Keyed} {i j : Nat} (h : HI a b r i j) (ua : a.Pairwise le) (z : Nat) (hz : z ≤ i) (c : ∀ x ∈ b.take j, ∀ y ∈ (a.take i).drop z, le x y) : HI a b ((a.take i).drop z ++ r) z j := by
  have ht : a.take z ++ (a.take i).drop z = a.take i := by
    have := List.take_append_drop z (a.take i)
    rwa [List.take_take, Nat.min_eq_left hz] at this
  have hd : (a.take i).drop z ++ a.drop i = a.drop z := by
    have h1 := List.take_append_drop i a
    have h2 := List.take_append_drop z a
    rw [← ht, List.append_assoc] at h1
    exact List.append_cancel_left (h1.trans h2.symm)
  have ut : (a.take i).Pairwise le := ua.sublist (List.take_sublist i a)
  rw [← ht, List.pairwise_append] at ut
  refine ⟨Nat.le_trans hz h.hi, h.hj, ?_, ?_, ?_, ?_⟩
  · have := h.perm.append_left ((a.take i).drop z)
    rw [← List.append_assoc, hd] at this
    exact this
  · rw [List.pairwise_append]
    exact ⟨ut.2.1, h.up, fun x hx y hy => h.ra x (List.mem_of_mem_drop hx) y hy⟩
  · intro x hx y hy
    rcases List.mem_append.mp hy with hy | hy
    · exact ut.2.2 x hx y hy
    · exact h.ra x (by rw [← ht]; exact List.mem_append_left _ hx) y hy
  · intro x hx y hy
    rcases List.mem_append.mp hy with hy | hy
    · exact c x hx y hy
    · exact h.rb x hx y hy
theorem HI.fin {a b r : List Keyed} {i j : Nat} (h : HI a b r i j) (ua : a.Pairwise le) (ub : b.Pairwise le) (c : ∀ x ∈ a.take i, ∀ y ∈ b.take j, le x y) : (a.take i ++ b.take j ++ r).Perm (a ++ b) ∧ (a.take i ++ b.take j ++ r).Pairwise le := by
  constructor
  · have h1 := h.perm.append_left (a.take i ++ b.take j)
    have h2 : (a.take i ++ b.take j ++ (a.drop i ++ b.drop j)).Perm ((a.take i ++ a.drop i) ++ (b.take j ++ b.drop j)) := by
      rw [List.append_assoc, List.append_assoc]
      refine List.Perm.append_left _ ?_
      rw [← List.append_assoc, ← List.append_assoc]
      exact List.Perm.append_right _ List.perm_append_comm
    rw [List.take_append_drop, List.take_append_drop] at h2
    exact h1.trans h2
  · rw [List.pairwise_append, List.pairwise_append]
    refine ⟨⟨ua.sublist (List.take_sublist i a), ub.sublist (List.take_sublist j b), c⟩, h.up, fun x hx y hy => ?_⟩
    rcases List.mem_append.mp hx with hx | hx
    · exact h.ra x hx y hy
    · exact h.rb x hx y hy

theorem mem_takeA {a : Array Keyed} {i : Nat} {x : Keyed} (h : x ∈ a.toList.take i) : ∃ t, t < i ∧ t < a.size ∧ numOf x.1 = K a t := by
  have h' : x ∈ (a.toList.drop 0).take i := h
  obtain ⟨t, _, t2, t3, t4⟩ := mem_cutA h'
  exact ⟨t, by omega, t3, t4⟩
theorem mem_midA {a : Array Keyed} {i z : Nat} {x : Keyed} (h : x ∈ (a.toList.take i).drop z) : ∃ t, z ≤ t ∧ t < i ∧ t < a.size ∧ numOf x.1 = K a t := by
  rw [List.drop_take] at h
  obtain ⟨t, t1, t2, t3, t4⟩ := mem_cutA h
  exact ⟨t, t1, by omega, t3, t4⟩
theorem extr_mid (a : Array Keyed) (z i : Nat) : (a.extract z i).toList = (a.toList.take i).drop z := by
  rw [Array.toList_extract, List.extract_eq_take_drop, List.drop_take]
theorem extr_0 (a : Array Keyed) (i : Nat) : (a.extract 0 i).toList = a.toList.take i := by
  rw [Array.toList_extract, List.extract_eq_take_drop]
  rfl
abbrev Hh (a b o : Array Keyed) (i j : Nat) : Prop := HI a.toList b.toList o.toList.reverse i j
theorem Hh.fin {a b o : Array Keyed} {i j : Nat} (h : Hh a b o i j) (ua : Up a) (ub : Up b) (c : i = 0 ∨ j = 0) : Good a b (a.extract 0 i ++ b.extract 0 j ++ o.reverse) := by
  unfold Good
  rw [Array.toList_append, Array.toList_append, extr_0, extr_0, Array.toList_reverse]
  refine HI.fin h ua.list ub.list fun x hx y hy => ?_
  rcases c with c | c
  · rw [c] at hx; cases hx
  · rw [c] at hy; cases hy
theorem Hh.ffb {a b o : Array Keyed} {i j : Nat} (h : Hh a b o i j) (ua : Up a) (ub : Up b) (hj : j = 1) (c : ∀ t, t < a.size → K b 0 ≤ K a t) : Good a b (b.extract 0 j ++ a.extract 0 i ++ o.reverse) := by
  unfold Good
  rw [Array.toList_append, Array.toList_append, extr_0, extr_0, Array.toList_reverse]
  obtain ⟨h1, h2⟩ := HI.fin h.swap ub.list ua.list fun x hx y hy => (by
    obtain ⟨t, t1, t2, t3⟩ := mem_takeA hx
    obtain ⟨u, u1, u2, u3⟩ := mem_takeA hy
    unfold le
    rw [t3, u3, show t = 0 by omega]
    exact c u u2)
  exact ⟨h1.trans List.perm_append_comm, h2⟩
theorem Hh.blockA {a b o : Array Keyed} {i j : Nat} (h : Hh a b o i j) (ua : Up a) (z : Nat) (hz : z ≤ i) (c : ∀ t u, z ≤ t → t < i → t < a.size → u < j → u < b.size → K b u ≤ K a t) : Hh a b (o ++ (a.extract z i).reverse) z j := by
  unfold Hh
  rw [Array.toList_append, Array.toList_reverse, List.reverse_append, List.reverse_reverse, extr_mid]
  refine HI.blockA h ua.list z hz fun x hx y hy => ?_
  obtain ⟨u, u1, u2, u3⟩ := mem_takeA hx
  obtain ⟨t, t1, t2, t3, t4⟩ := mem_midA hy
  unfold le
  rw [u3, t4]
  exact c t u t1 t2 t3 u1 u2
theorem Hh.blockB {a b o : Array Keyed} {i j : Nat} (h : Hh a b o i j) (ub : Up b) (z : Nat) (hz : z ≤ j) (c : ∀ t u, z ≤ t → t < j → t < b.size → u < i → u < a.size → K a u ≤ K b t) : Hh a b (o ++ (b.extract z j).reverse) i z :=
  HI.swap (Hh.blockA (HI.swap h) ub z hz c)
theorem Hh.oneA {a b o : Array Keyed} {i j : Nat} (h : Hh a b o i j) (ua : Up a) (hi : 0 < i) (hk : i - 1 < a.size) (c : ∀ u, u < j → u < b.size → K b u ≤ K a (i - 1)) : Hh a b (o.push a[i - 1]) (i - 1) j := by
  have := h.blockA ua (i - 1) (by omega) fun t u t1 t2 t3 u1 u2 => by rw [show t = i - 1 by omega]; exact c u u1 u2
  have e : (a.extract (i - 1) i).toList = [a[i - 1]] := by
    have := extr a (i - 1) 1
    rw [show i - 1 + 1 = i by omega, ← one_cut a hk] at this
    exact this
  unfold Hh at this ⊢
  rw [Array.toList_append, Array.toList_reverse, e] at this
  rw [Array.toList_push]
  exact this
theorem Hh.oneB {a b o : Array Keyed} {i j : Nat} (h : Hh a b o i j) (ub : Up b) (hj : 0 < j) (hk : j - 1 < b.size) (c : ∀ u, u < i → u < a.size → K a u ≤ K b (j - 1)) : Hh a b (o.push b[j - 1]) i (j - 1) :=
  HI.swap (Hh.oneA (HI.swap h) ub hj hk c)

section
variable {P : Program} {w : World} {A : Around} {E : Value → Shared → Prop} {s : Shared}
theorem wp_mHi {st : SortSt} {a b : Array Keyed} {Q : Array Keyed → SortSt → Prop} (hk : kindOf st = oneType') (ia : ∀ j (h : j < a.size), IsI a[j]) (ib : ∀ j (h : j < b.size), IsI b[j]) (ua : Up a) (ub : Up b)
    (na : 1 ≤ a.size) (nb : 1 ≤ b.size) (h0 : ∀ t, t < a.size → K b 0 ≤ K a t) (hl : ∀ t, t < b.size → K b t ≤ K a (a.size - 1)) (h : ∀ r st', Alike st st' → Good a b r → Q r st') : wpS (model P w) A E s (mHi a b) Q st := by
  refine wpS_bind (wpS_lift (wpAny_rule ⟨rfl, ?_⟩))
  dsimp only
  refine wpS_bind (wp_elem (by omega) ?_)
  have m0 : Hh a b #[] a.size b.size := ⟨by simp, by simp, by simp, .nil, fun x _ y hy => (by cases hy), fun x _ y hy => (by cases hy)⟩
  have m1 : Hh a b #[a[a.size - 1]] (a.size - 1) b.size := m0.oneA ua na (by omega) fun u _ u2 => hl u u2
  by_cases c1 : a.size - 1 = 0
  · rw [if_pos (by rw [c1]; rfl)]
    exact wpS_pure (h _ _ (Alike.refl st) (m1.fin ua ub (.inl c1)))
  rw [if_neg (by simpa using c1)]
  by_cases c2 : b.size = 1
  · rw [if_pos (by rw [c2]; rfl)]
    exact wpS_pure (h _ _ (Alike.refl st) (m1.ffb ua ub c2 h0))
  rw [if_neg (by simpa using c2)]
  refine wpS_bind (wpS_get ?_)
  refine wpS_bind (wpS_mono (wpS_forRange (I := fun x c st' => Alike st st' ∧ ∃ i j o g, c = (none, i, j, o, g) ∧ Hh a b o i j ∧ 0 < i ∧ 1 < j ∧ i ≤ a.size ∧ j ≤ b.size ∧ i + j + x + 1 ≤ a.size + b.size)
    (Q := fun c st' => Alike st st' ∧ ∃ r, c.1 = some r ∧ Good a b r) ?step ?fin ?init) ?post)
  case init => exact ⟨Alike.refl st, _, _, _, _, rfl, m1, by omega, by omega, by omega, by omega, by omega⟩
  case fin =>
    rintro c st' ⟨_, i, j, o, g, rfl, _, b1, b2, _, _, b3⟩
    exfalso
    omega
  case post =>
    rintro ⟨c1, c⟩ st' ⟨al, r, e, gd⟩
    dsimp only at e
    subst e
    exact wpS_pure (h r st' al gd)
  case step =>
    rintro x c s1 _ hx ⟨al, i, j, o, g, rfl, mm, b1, b2, ai, bj, b3⟩
    dsimp only
    refine wpS_bind (wpS_mono (wpS_forRange (I := fun y c st' => st' = s1 ∧ ∃ i j o ac bc, c = (none, i, j, o, ac, bc) ∧ Hh a b o i j ∧ 0 < i ∧ 1 < j ∧ i ≤ a.size ∧ j ≤ b.size ∧ i + j + x + y + 1 ≤ a.size + b.size)
      (Q := fun c st' => st' = s1 ∧ ((∃ r, c.1 = some r ∧ Good a b r) ∨ ∃ i j o ac bc, c = (none, i, j, o, ac, bc) ∧ Hh a b o i j ∧ 0 < i ∧ 1 < j ∧ i ≤ a.size ∧ j ≤ b.size ∧ i + j + x + 2 ≤ a.size + b.size)) ?step1 ?fin1 ?init1) ?post1)
    case init1 => exact ⟨rfl, _, _, _, _, _, rfl, mm, b1, b2, ai, bj, b3⟩
    case fin1 =>
      rintro c st' ⟨e, i, j, o, ac, bc, rfl, b0, b1, b2, ai, bj, b3⟩
      exact ⟨e, .inr ⟨_, _, _, _, _, rfl, b0, b1, b2, ai, bj, by omega⟩⟩
    case step1 =>
      rintro y c st' _ hy ⟨rfl, i, j, o, ac, bc, rfl, mm, b1, b2, ai, bj, b3⟩
      dsimp only
      refine wpS_bind (wp_elem (by omega) ?_)
      refine wpS_bind (wp_elem (by omega) ?_)
      refine wpS_bind (wp_lt (al.kind.trans hk) (ib _ (by omega)) (ia _ (by omega)) ?_)
      dsimp only
      rw [← K_at (show j - 1 < b.size by omega), ← K_at (show i - 1 < a.size by omega)]
      by_cases q : K b (j - 1) < K a (i - 1)
      · rw [if_pos (decide_eq_true q)]
        refine wpS_bind (wp_elem (by omega) ?_)
        have m2 := mm.oneA ua b1 (by omega) fun u u1 u2 => Int.le_trans (ub u (j - 1) (by omega) (by omega)) (Int.le_of_lt q)
        by_cases e : i - 1 = 0
        · rw [if_pos (by rw [e]; rfl)]
          exact wpS_pure ⟨rfl, .inl ⟨_, rfl, m2.fin ua ub (.inl e)⟩⟩
        rw [if_neg (by simpa using e)]
        split
        · exact wpS_pure ⟨rfl, .inr ⟨_, _, _, _, _, rfl, m2, by omega, b2, by omega, bj, by omega⟩⟩
        · exact wpS_pure ⟨rfl, _, _, _, _, _, rfl, m2, by omega, b2, by omega, bj, by omega⟩
      · rw [if_neg (by simpa using q)]
        refine wpS_bind (wp_elem (by omega) ?_)
        have m2 := mm.oneB ub (by omega) (by omega) fun u u1 u2 => Int.le_trans (ua u (i - 1) (by omega) (by omega)) (Int.not_lt.mp q)
        by_cases e : j - 1 = 1
        · rw [if_pos (by rw [e]; rfl)]
          exact wpS_pure ⟨rfl, .inl ⟨_, rfl, m2.ffb ua ub e h0⟩⟩
        rw [if_neg (by simpa using e)]
        split
        · exact wpS_pure ⟨rfl, .inr ⟨_, _, _, _, _, rfl, m2, b1, by omega, ai, by omega, by omega⟩⟩
        · exact wpS_pure ⟨rfl, _, _, _, _, _, rfl, m2, b1, by omega, ai, by omega, by omega⟩
    case post1 =>
      rintro ⟨c1, c⟩ st' ⟨rfl, h1⟩
      rcases h1 with ⟨r, e, gd⟩ | ⟨i, j, o, ac, bc, e, mm, b1, b2, ai, bj, b3⟩
      · dsimp only at e
        subst e
        exact wpS_pure ⟨al, r, rfl, gd⟩
      cases e
      dsimp only
      refine wpS_bind (wpS_lift (wpAny_rule ⟨rfl, ?_⟩))
      refine wpS_bind (wpS_mono (wpS_forRange (I := fun y c st' => Alike st st' ∧ ∃ i j o g ac bc, c = (none, i, j, o, g, ac, bc) ∧ Hh a b o i j ∧ 0 < i ∧ 1 < j ∧ i ≤ a.size ∧ j ≤ b.size ∧ i + j + x + 2 ≤ a.size + b.size)
        (Q := fun c st' => Alike st st' ∧ ((∃ r, c.1 = some r ∧ Good a b r) ∨ ∃ i j o g ac bc, c = (none, i, j, o, g, ac, bc) ∧ Hh a b o i j ∧ 0 < i ∧ 1 < j ∧ i ≤ a.size ∧ j ≤ b.size ∧ i + j + x + 2 ≤ a.size + b.size)) ?step2 ?fin2 ?init2) ?post2)
      case init2 => exact ⟨al, _, _, _, _, _, _, rfl, mm, b1, b2, ai, bj, b3⟩
      case fin2 =>
        rintro c st' ⟨al, i, j, o, g, ac, bc, rfl, b0, b1, b2, ai, bj, b3⟩
        exact ⟨al, .inr ⟨_, _, _, _, _, _, rfl, b0, b1, b2, ai, bj, b3⟩⟩
      case post2 =>
        rintro ⟨c1, c⟩ st' ⟨al, h1⟩
        rcases h1 with ⟨r, e, gd⟩ | ⟨i, j, o, g, ac, bc, e, mm, b1, b2, ai, bj, b3⟩
        · dsimp only at e
          subst e
          exact wpS_pure ⟨al, r, rfl, gd⟩
        cases e
        dsimp only
        exact wpS_bind (wp_setG (wpS_pure ⟨al.set _, _, _, _, _, rfl, mm, b1, b2, ai, bj, by omega⟩))
      case step2 =>
        rintro y c st' _ hy ⟨al, i, j, o, g, ac, bc, rfl, mm, b1, b2, ai, bj, b3⟩
        dsimp only
        by_cases hg : g > 1
        all_goals first | rw [if_pos hg] | rw [if_neg hg]
        all_goals
          refine wpS_bind (wp_setG ?_)
          refine wpS_bind (wp_elem (by omega) ?_)
          refine wpS_bind (gal_right ((al.set _).kind.trans hk) (ib _ (by omega)) ia ua (by omega) (by omega) fun z k1 k2 k3 => ?_)
          rw [← K_at (show j - 1 < b.size by omega)] at k2 k3
          dsimp only
          have m2 := mm.blockA ua z k1 fun t u t1 t2 t3 u1 u2 => Int.le_trans (ub u (j - 1) (by omega) (by omega)) (Int.le_of_lt (k3 t (by omega) (by omega)))
          by_cases hk0 : i - z > 0
          rw [if_pos hk0]
          by_cases e1 : z = 0
          · rw [if_pos (by rw [e1]; rfl)]
            exact wpS_pure ⟨al.set _, .inl ⟨_, rfl, m2.fin ua ub (.inl e1)⟩⟩
          rw [if_neg (by simpa using e1)]
          have bi : 0 < z := by omega
          have kk : ∀ u, u < z → u < a.size → K a u ≤ K b (j - 1) := fun u u1 u2 => k2 u (by omega) (by omega)
          rotate_left
          rw [if_neg hk0]
          have k0 : z = i := by omega
          subst k0
          clear m2
          have m2 := mm
          have bi : 0 < z := b1
          have kk : ∀ u, u < z → u < a.size → K a u ≤ K b (j - 1) := fun u u1 u2 => k2 u (by omega) (by omega)
          all_goals
            refine wpS_bind (wp_elem (by omega) ?_)
            have m3 := m2.oneB ub (by omega) (by omega) kk
            by_cases e3 : j - 1 = 1
            · rw [if_pos (by rw [e3]; rfl)]
              exact wpS_pure ⟨al.set _, .inl ⟨_, rfl, m3.ffb ua ub e3 h0⟩⟩
            rw [if_neg (by simpa using e3)]
            refine wpS_bind (wp_elem (by omega) ?_)
            refine wpS_bind (gal_left ((al.set _).kind.trans hk) (ia _ (by omega)) ib ub (by omega) (by omega) fun z' l1 l2 l3 => ?_)
            rw [← K_at (show z - 1 < a.size by omega)] at l2 l3
            dsimp only
            have m4 := m3.blockB ub z' l1 fun t u t1 t2 t3 u1 u2 => Int.le_trans (ua u (z - 1) (by omega) (by omega)) (l3 t (by omega) (by omega))
            by_cases hk1 : j - 1 - z' > 0
            rw [if_pos hk1]
            by_cases e4 : z' = 1
            · rw [if_pos (by rw [e4]; rfl)]
              exact wpS_pure ⟨al.set _, .inl ⟨_, rfl, m4.ffb ua ub e4 h0⟩⟩
            rw [if_neg (by simpa using e4)]
            by_cases e5 : z' = 0
            · rw [if_pos (by rw [e5]; rfl)]
              exact wpS_pure ⟨al.set _, .inl ⟨_, rfl, m4.fin ua ub (.inr e5)⟩⟩
            rw [if_neg (by simpa using e5)]
            have bz : 1 < z' := by omega
            have ll : ∀ u, u < z' → u < b.size → K b u ≤ K a (z - 1) := fun u u1 u2 => Int.le_of_lt (l2 u (by omega) (by omega))
            rotate_left
            rw [if_neg hk1]
            have k0 : z' = j - 1 := by omega
            subst k0
            clear m4
            have m4 := m3
            have bz : 1 < j - 1 := by omega
            have ll : ∀ u, u < j - 1 → u < b.size → K b u ≤ K a (z - 1) := fun u u1 u2 => Int.le_of_lt (l2 u (by omega) (by omega))
            all_goals
              refine wpS_bind (wp_elem (by omega) ?_)
              have m5 := m4.oneA ua bi (by omega) ll
              split
              · rename_i e6
                exact wpS_pure ⟨al.set _, .inl ⟨_, rfl, m5.fin ua ub (.inl (by simpa using e6))⟩⟩
              · rename_i e6
                simp only [beq_iff_eq] at e6
                split
                · exact wpS_pure ⟨al.set _, .inr ⟨_, _, _, _, _, _, rfl, m5, by omega, bz, by omega, by omega, by omega⟩⟩
                · exact wpS_pure ⟨al.set _, _, _, _, _, _, _, rfl, m5, by omega, bz, by omega, by omega, by omega⟩
end
end Ts
namespace Ts
open PySem PyProof.Rows
def SUp (xs : Array Keyed) (lo n : Nat) : Prop := ∀ i j, i ≤ j → j < n → K xs (lo + i) ≤ K xs (lo + j)
def SDn (xs : Array Keyed) (lo n : Nat) : Prop := ∀ i j, i ≤ j → j < n → K xs (lo + j) ≤ K xs (lo + i)

/-- a sort under way: what lies below lo stays as x0 has it -/
structure TB (a₀ : Array Keyed) (pd : Array (Nat × Nat × Nat)) (lo : Nat) (x0 : Array Keyed) (st : SortSt) : Prop where
  perm : (arrOf st).Perm a₀
  kind : kindOf st = oneType'
  failed : failedOf st = none
  pend : pendingOf st = pd
  pre : ∀ k, k < lo → K (arrOf st) k = K x0 k
section
variable {a₀ x0 : Array Keyed} {pd : Array (Nat × Nat × Nat)} {lo : Nat} {st : SortSt}
theorem TB.size (h : TB a₀ pd lo x0 st) : (arrOf st).size = a₀.size := h.perm.size_eq
theorem TB.setArr (h : TB a₀ pd lo x0 st) {xs : Array Keyed} (hp : xs.Perm (arrOf st)) (he : ∀ k, k < lo → K xs k = K (arrOf st) k) : TB a₀ pd lo x0 (PyProof.Rows.setArr st xs) :=
  ⟨hp.trans h.perm, h.kind, h.failed, h.pend, fun k hk => (he k hk).trans (h.pre k hk)⟩
theorem perm_isI (h0 : IntKeys a₀) {xs : Array Keyed} (hp : xs.Perm a₀) (j : Nat) (hj : j < xs.size) : IsI xs[j] := h0 _ ((Array.perm_iff_toList_perm.mp hp).mem_iff.mp (by simp))
theorem TB.mirror (h : TB a₀ pd lo x0 st) {i j : Nat} (hi : lo ≤ i) (hj : j ≤ a₀.size) : TB a₀ pd lo x0 (PyProof.Rows.setArr st (mirror (arrOf st) i j ((j - i) / 2))) :=
  h.setArr (mirror_perm _ _ _ _) fun k hk => by rw [K_mirror (by rw [h.size]; exact hj), if_neg (by omega)]
end
section
variable {P : Program} {w : World} {A : Around} {E : Value → Shared → Prop} {s : Shared} {a₀ x0 : Array Keyed} {pd : Array (Nat × Nat × Nat)} {lo : Nat}
theorem wp_ltAt {st : SortSt} {i j : Nat} {Q : Option Bool → SortSt → Prop} (h : TB a₀ pd lo x0 st) (h0 : IntKeys a₀) (hi : i < a₀.size) (hj : j < a₀.size)
    (q : Q (some (decide (K (arrOf st) i < K (arrOf st) j))) st) : wpS (model P w) A E s (ltAt' i j) Q st := by
  have hi' : i < (arrOf st).size := by rw [h.size]; exact hi
  have hj' : j < (arrOf st).size := by rw [h.size]; exact hj
  rw [ltAt'_eq]
  refine wpS_bind (wpS_get ?_)
  dsimp only
  refine wpS_bind (wp_elem hi' (wpS_bind (wp_elem hj' ?_)))
  refine wp_lt h.kind (perm_isI h0 h.perm i hi') (perm_isI h0 h.perm j hj') ?_
  rw [← K_at hi', ← K_at hj']
  exact q

theorem flip_up {xs : Array Keyed} {m : Nat} (hz : lo + m ≤ xs.size) (d : SDn xs lo m) : SUp (mirror xs lo (lo + m) ((lo + m - lo) / 2)) lo m := fun i j hij hj => by
  rw [K_mirror hz, K_mirror hz, if_pos (by omega), if_pos (by omega)]
  have := d (m - 1 - j) (m - 1 - i) (by omega) (by omega)
  rw [show lo + (m - 1 - i) = lo + (lo + m) - 1 - (lo + i) by omega, show lo + (m - 1 - j) = lo + (lo + m) - 1 - (lo + j) by omega] at this
  exact this

theorem wp_count {st : SortSt} {nr : Nat} {Q : Option Nat → SortSt → Prop} (h0 : IntKeys a₀) (hn : lo + nr ≤ a₀.size) (h1 : 1 ≤ nr) (hB : TB a₀ pd lo x0 st)
    (h : ∀ m st', TB a₀ pd lo x0 st' → 1 ≤ m → m ≤ nr → SUp (arrOf st') lo m → Q (some m) st') : wpS (model P w) A E s (countRun' lo nr) Q st := by
  rw [countRun'_eq]
  refine wpS_bind (wpS_mono (wpS_forRange (I := fun x c st' => st' = st ∧ c = (none, x) ∧ SUp (arrOf st) lo x)
    (Q := fun c st' => st' = st ∧ ∃ n, c = (none, n) ∧ 1 ≤ n ∧ n ≤ nr ∧ SUp (arrOf st) lo n ∧ (n = nr ∨ K (arrOf st) (lo + n) < K (arrOf st) (lo + n - 1))) ?step ?fin ?init) ?post)
  case init => exact ⟨rfl, rfl, fun i j hij hj => by rw [show i = j by omega]; exact Int.le_refl _⟩
  case fin =>
    rintro c st' ⟨e, rfl, hs⟩
    rw [show max 1 nr = nr by omega] at hs ⊢
    exact ⟨e, nr, rfl, h1, Nat.le_refl _, hs, .inl rfl⟩
  case step =>
    rintro x c st' hx1 hx ⟨rfl, rfl, hs⟩
    dsimp only
    refine wpS_bind (wp_ltAt hB h0 (by omega) (by omega) ?_)
    dsimp only
    by_cases q : K (arrOf st') (lo + x) < K (arrOf st') (lo + x - 1)
    · rw [if_pos (decide_eq_true q)]
      exact wpS_pure ⟨rfl, x, rfl, hx1, by omega, hs, .inr q⟩
    · rw [if_neg (by simpa using q)]
      refine wpS_pure ⟨rfl, rfl, fun i j hij hj => ?_⟩
      by_cases hjx : j < x
      · exact hs i j hij hjx
      · by_cases e : i = j
        · rw [e]; exact Int.le_refl _
        · rw [show j = x by omega]
          have := hs i (x - 1) (by omega) (by omega)
          rw [show lo + (x - 1) = lo + x - 1 by omega] at this
          exact Int.le_trans this (Int.not_lt.mp q)
  case post =>
    rintro c st' ⟨rfl, n, rfl, n1, n2, hs, hor⟩
    dsimp only
    by_cases hnn : n = nr
    · rw [if_pos (by rw [hnn]; simp)]
      exact wpS_pure (h n _ hB n1 n2 hs)
    rw [if_neg (by simpa using hnn)]
    have hlt := hor.resolve_left hnn
    have dn : ∀ (s2 : SortSt), (∀ k, K (arrOf s2) k = K (arrOf st') k) → (∀ k, k < n → K (arrOf st') (lo + k) = K (arrOf st') (lo + n - 1)) → SDn (arrOf s2) lo (n + 1) := fun s2 e all i j hij hj => by
      rw [e, e]
      by_cases hjn : j < n
      · rw [all i (by omega), all j hjn]; exact Int.le_refl _
      · by_cases e2 : i = j
        · rw [e2]; exact Int.le_refl _
        · rw [show j = n by omega, all i (by omega)]; exact Int.le_of_lt hlt
    by_cases hgt : n > 1
    rw [if_pos hgt]
    refine wpS_bind (wp_ltAt hB h0 (by omega) (by omega) ?_)
    dsimp only
    by_cases q : K (arrOf st') lo < K (arrOf st') (lo + n - 1)
    · rw [if_pos (decide_eq_true q)]
      exact wpS_pure (h n _ hB n1 n2 hs)
    rw [if_neg (by simpa using q)]
    have all : ∀ k, k < n → K (arrOf st') (lo + k) = K (arrOf st') (lo + n - 1) := fun k hk => by
      have a1 := hs 0 k (by omega) hk
      have a2 := hs k (n - 1) (by omega) (by omega)
      rw [show lo + (n - 1) = lo + n - 1 by omega] at a2
      rw [Nat.add_zero] at a1
      omega
    refine wpS_bind (wpS_reverse ?_)
    have hB2 := hB.mirror (i := lo) (j := lo + n) (Nat.le_refl _) (by omega)
    have d2 := dn (PyProof.Rows.setArr st' (mirror (arrOf st') lo (lo + n) ((lo + n - lo) / 2))) (K_mirror_equal (xs := arrOf st') (i := lo) (j := lo + n) (by rw [hB.size]; omega) fun k k1 k2 => by
      have := all (k - lo) (by omega)
      rw [show lo + (k - lo) = k by omega] at this
      exact this) all
    rotate_left
    rw [if_neg hgt]
    have hB2 := hB
    have d2 := dn st' (fun _ => rfl) fun k hk => by rw [show lo + k = lo + n - 1 by omega]
    all_goals
      refine wpS_bind (wpS_lift (wpAny_rule ⟨rfl, ?_⟩))
      refine wpS_bind (wpS_mono (wpS_forRange (I := fun x c s2 => ∃ eq, c = (none, x, eq) ∧ TB a₀ pd lo x0 s2 ∧ SDn (arrOf s2) lo x ∧ eq + 1 ≤ x ∧ ∀ k, x - (eq + 1) ≤ k → k < x → K (arrOf s2) (lo + k) = K (arrOf s2) (lo + x - 1))
        (Q := fun c s2 => ∃ m eq, c = (none, m, eq) ∧ TB a₀ pd lo x0 s2 ∧ 1 ≤ m ∧ m ≤ nr ∧ SDn (arrOf s2) lo m ∧ eq + 1 ≤ m ∧ ∀ k, m - (eq + 1) ≤ k → k < m → K (arrOf s2) (lo + k) = K (arrOf s2) (lo + m - 1)) ?step3 ?fin3 ?init3) ?post3)
      case init3 => exact ⟨0, rfl, hB2, d2, by omega, fun k k1 k2 => by rw [show lo + k = lo + (n + 1) - 1 by omega]⟩
      case fin3 =>
        rintro c s2 ⟨eq, rfl, b1, b2, b3, b4⟩
        rw [show max (n + 1) nr = nr by omega] at b2 b3 b4 ⊢
        exact ⟨nr, eq, rfl, b1, h1, Nat.le_refl _, b2, b3, b4⟩
      case step3 =>
        rintro x c s2 hx1 hx ⟨eq, rfl, b1, b2, b3, b4⟩
        dsimp only
        have one : ∀ xs : Array Keyed, (∀ k, K xs k = K (arrOf s2) k) → K (arrOf s2) (lo + x) ≤ K (arrOf s2) (lo + x - 1) → SDn xs lo (x + 1) := fun xs e le i j hij hj => by
          rw [e, e]
          by_cases hjx : j < x
          · exact b2 i j hij hjx
          · by_cases e2 : i = j
            · rw [e2]; exact Int.le_refl _
            · rw [show j = x by omega]
              have := b2 i (x - 1) (by omega) (by omega)
              rw [show lo + (x - 1) = lo + x - 1 by omega] at this
              exact Int.le_trans le this
        refine wpS_bind (wp_ltAt b1 h0 (by omega) (by omega) ?_)
        dsimp only
        by_cases q1 : K (arrOf s2) (lo + x) < K (arrOf s2) (lo + x - 1)
        · rw [if_pos (decide_eq_true q1)]
          by_cases q2 : eq > 0
          · rw [if_pos q2]
            refine wpS_bind (wpS_reverse (wpS_pure ⟨0, rfl, b1.mirror (by omega) (by omega), one _ (K_mirror_equal (by rw [b1.size]; omega) fun k k1 k2 => ?_) (Int.le_of_lt q1), by omega, fun k k1 k2 => by rw [show lo + k = lo + (x + 1) - 1 by omega]⟩))
            have := b4 (k - lo) (by omega) (by omega)
            rw [show lo + (k - lo) = k by omega] at this
            exact this
          · rw [if_neg q2]
            exact wpS_pure ⟨0, rfl, b1, one _ (fun _ => rfl) (Int.le_of_lt q1), by omega, fun k k1 k2 => by rw [show lo + k = lo + (x + 1) - 1 by omega]⟩
        · rw [if_neg (by simpa using q1)]
          refine wpS_bind (wp_ltAt b1 h0 (by omega) (by omega) ?_)
          dsimp only
          by_cases q2 : K (arrOf s2) (lo + x - 1) < K (arrOf s2) (lo + x)
          · rw [if_pos (decide_eq_true q2)]
            exact wpS_pure ⟨x, eq, rfl, b1, by omega, by omega, b2, b3, b4⟩
          · rw [if_neg (by simpa using q2)]
            have qe : K (arrOf s2) (lo + x) = K (arrOf s2) (lo + x - 1) := by omega
            refine wpS_pure ⟨eq + 1, rfl, b1, one _ (fun _ => rfl) (Int.le_of_eq qe), by omega, fun k k1 k2 => ?_⟩
            rw [show lo + (x + 1) - 1 = lo + x by omega]
            by_cases kx : k = x
            · rw [kx]
            · rw [qe]; exact b4 k (by omega) (by omega)
      case post3 =>
        rintro c s2 ⟨m, eq, rfl, b1, m1, m2, b2, b3, b4⟩
        dsimp only
        by_cases q2 : eq > 0
        rw [if_pos q2]
        refine wpS_bind (wpS_reverse ?_)
        have b5 := b1.mirror (i := lo + m - (eq + 1)) (j := lo + m) (by omega) (by omega)
        have d5 : SDn (arrOf (PyProof.Rows.setArr s2 (mirror (arrOf s2) (lo + m - (eq + 1)) (lo + m) ((lo + m - (lo + m - (eq + 1))) / 2)))) lo m := fun i j hij hj => by
          have ke := K_mirror_equal (xs := arrOf s2) (i := lo + m - (eq + 1)) (j := lo + m) (by rw [b1.size]; omega) fun k k1 k2 => by
            have := b4 (k - lo) (by omega) (by omega)
            rw [show lo + (k - lo) = k by omega] at this
            exact this
          show K (mirror (arrOf s2) (lo + m - (eq + 1)) (lo + m) ((lo + m - (lo + m - (eq + 1))) / 2)) (lo + j) ≤ K (mirror (arrOf s2) (lo + m - (eq + 1)) (lo + m) ((lo + m - (lo + m - (eq + 1))) / 2)) (lo + i)
          rw [ke, ke]
          exact b2 i j hij hj
        rotate_left
        rw [if_neg q2]
        have b5 := b1
        have d5 := b2
        all_goals
          refine wpS_bind (wpS_reverse ?_)
          have b6 := b5.mirror (i := lo) (j := lo + m) (Nat.le_refl _) (by omega)
          refine wpS_bind (wpS_mono (wpS_forRange (I := fun x c s3 => TB a₀ pd lo x0 s3 ∧ c = (none, x) ∧ SUp (arrOf s3) lo x) (Q := fun c s3 => TB a₀ pd lo x0 s3 ∧ ∃ n, c = (none, n) ∧ 1 ≤ n ∧ n ≤ nr ∧ SUp (arrOf s3) lo n) ?step4 ?fin4 ?init4) ?post4)
          case init4 =>
            exact ⟨b6, rfl, flip_up (by rw [b5.size]; omega) d5⟩
          case fin4 =>
            rintro c s3 ⟨c1, rfl, c3⟩
            rw [show max m nr = nr by omega] at c3 ⊢
            exact ⟨c1, nr, rfl, h1, Nat.le_refl _, c3⟩
          case post4 =>
            rintro c s3 ⟨c1, n3, rfl, c2, c3, c4⟩
            exact wpS_pure (h n3 s3 c1 c2 c3 c4)
          case step4 =>
            rintro x c s3 hx1 hx ⟨c1, rfl, c3⟩
            dsimp only
            refine wpS_bind (wp_ltAt c1 h0 (by omega) (by omega) ?_)
            dsimp only
            by_cases q3 : K (arrOf s3) (lo + x) < K (arrOf s3) (lo + x - 1)
            · rw [if_pos (decide_eq_true q3)]
              exact wpS_pure ⟨c1, x, rfl, by omega, by omega, c3⟩
            · rw [if_neg (by simpa using q3)]
              refine wpS_pure ⟨c1, rfl, fun i j hij hj => ?_⟩
              by_cases hjx : j < x
              · exact c3 i j hij hjx
              · by_cases e : i = j
                · rw [e]; exact Int.le_refl _
                · rw [show j = x by omega]
                  have := c3 i (x - 1) (by omega) (by omega)
                  rw [show lo + (x - 1) = lo + x - 1 by omega] at this
                  exact Int.le_trans this (Int.not_lt.mp q3)

theorem wp_binary {st : SortSt} {n ok : Nat} {Q : Bool → SortSt → Prop} (h0 : IntKeys a₀) (hn : lo + n ≤ a₀.size) (hok : ok ≤ n) (hB : TB a₀ pd lo x0 st) (hs : SUp (arrOf st) lo ok)
    (h : ∀ st', TB a₀ pd lo x0 st' → SUp (arrOf st') lo n → Q true st') : wpS (model P w) A E s (binarySort' lo n ok) Q st := by
  rw [binarySort'_eq]
  refine wpS_bind (wpS_mono (wpS_forRange (I := fun k c st' => c = (none, ()) ∧ TB a₀ pd lo x0 st' ∧ SUp (arrOf st') lo (min k n))
    (Q := fun c st' => c = (none, ()) ∧ TB a₀ pd lo x0 st' ∧ SUp (arrOf st') lo n) ?step ?fin ?init) ?post)
  case post =>
    rintro c st' ⟨rfl, hB', hs'⟩
    exact wpS_pure (h st' hB' hs')
  case init =>
    refine ⟨rfl, hB, fun i j hij hj => ?_⟩
    by_cases h1 : i = j
    · rw [h1]; exact Int.le_refl _
    · exact hs i j hij (by omega)
  case fin =>
    rintro c st' ⟨hc, hB', hs'⟩
    rw [show min (max (max ok 1) n) n = n by omega] at hs'
    exact ⟨hc, hB', hs'⟩
  case step =>
    rintro k c st' hak hkn ⟨rfl, hB', hs'⟩
    rw [show min k n = k by omega] at hs'
    dsimp only
    refine wpS_bind (wpS_mono (wpS_forRange (I := fun x c s2 => s2 = st' ∧ ∃ l r, c = (none, l, r) ∧ l ≤ r ∧ r ≤ k ∧ r - l ≤ k - x ∧ (∀ i, i < l → K (arrOf st') (lo + i) ≤ K (arrOf st') (lo + k)) ∧ (∀ i, r ≤ i → i < k → K (arrOf st') (lo + k) < K (arrOf st') (lo + i)))
      (Q := fun c s2 => s2 = st' ∧ ∃ l r, c = (none, l, r) ∧ l ≤ k ∧ (∀ i, i < l → K (arrOf st') (lo + i) ≤ K (arrOf st') (lo + k)) ∧ (∀ i, l ≤ i → i < k → K (arrOf st') (lo + k) < K (arrOf st') (lo + i))) ?step2 ?fin2 ?init2) ?post2)
    case init2 => exact ⟨rfl, 0, k, rfl, by omega, by omega, by omega, fun i hi => by omega, fun i h1 h2 => by omega⟩
    case fin2 =>
      rintro c s2 ⟨rfl, l, r, rfl, h1, h2, h3, h4, h5⟩
      have : l = r := by omega
      subst this
      exact ⟨rfl, l, l, rfl, h2, h4, h5⟩
    case step2 =>
      rintro x c s2 _ hxk ⟨rfl, l, r, rfl, h1, h2, h3, h4, h5⟩
      dsimp only
      by_cases hge : l ≥ r
      · rw [if_pos hge]
        have : l = r := by omega
        subst this
        exact wpS_pure ⟨rfl, l, l, rfl, h2, h4, h5⟩
      rw [if_neg hge]
      refine wpS_bind (wp_ltAt hB' h0 (by omega) (by omega) ?_)
      dsimp only
      by_cases q : K (arrOf s2) (lo + k) < K (arrOf s2) (lo + (l + r) / 2)
      · rw [if_pos (decide_eq_true q)]
        exact wpS_pure ⟨rfl, l, (l + r) / 2, rfl, by omega, by omega, by omega, h4, fun i i1 i2 => Int.lt_of_lt_of_le q (hs' _ _ i1 i2)⟩
      · rw [if_neg (by simpa using q)]
        exact wpS_pure ⟨rfl, (l + r) / 2 + 1, r, rfl, by omega, by omega, by omega, fun i i1 => Int.le_trans (hs' i ((l + r) / 2) (by omega) (by omega)) (Int.not_lt.mp q), h5⟩
    case post2 =>
      rintro c s2 ⟨rfl, l, r, rfl, hlk, h4, h5⟩
      dsimp only
      rw [moveDown'_eq]
      have hz := hB'.size
      have hkb := fun t => K_bubble (xs := arrOf s2) (src := lo + k) (d := lo + k - (lo + l)) (by omega) (by omega) t
      rw [show lo + k - (lo + k - (lo + l)) = lo + l by omega] at hkb
      refine wpS_bind (wpS_modify (wpS_pure ⟨rfl, hB'.setArr (bubble_perm _ _ _) fun t ht => ?_, fun i j hij hj => ?_⟩))
      · rw [hkb, if_neg (by omega), if_neg (by omega)]
      · show K (bubble (arrOf s2) (lo + k) (lo + k - (lo + l))) (lo + i) ≤ K (bubble (arrOf s2) (lo + k) (lo + k - (lo + l))) (lo + j)
        rw [hkb, hkb]
        have up : ∀ p q, lo ≤ p → p ≤ q → q < lo + k → K (arrOf s2) p ≤ K (arrOf s2) q := fun p q p1 p2 p3 => by
          have := hs' (p - lo) (q - lo) (by omega) (by omega)
          rw [show lo + (p - lo) = p by omega, show lo + (q - lo) = q by omega] at this
          exact this
        have low : ∀ p, lo ≤ p → p < lo + l → K (arrOf s2) p ≤ K (arrOf s2) (lo + k) := fun p p1 p2 => by
          have := h4 (p - lo) (by omega)
          rw [show lo + (p - lo) = p by omega] at this
          exact this
        have high : ∀ p, lo + l ≤ p → p < lo + k → K (arrOf s2) (lo + k) ≤ K (arrOf s2) p := fun p p1 p2 => by
          have := h5 (p - lo) (by omega) (by omega)
          rw [show lo + (p - lo) = p by omega] at this
          exact Int.le_of_lt this
        repeat' split
        all_goals first
          | (exfalso; omega)
          | exact Int.le_refl _
          | exact low _ (by omega) (by omega)
          | exact high _ (by omega) (by omega)
          | exact up _ _ (by omega) (by omega) (by omega)
end
end Ts
namespace Ts
open PySem PyProof.Rows
theorem laid_at (b : Nat) : ∀ (m : List Keyed) (n : Nat) (ar : Array Keyed), b + n + m.length ≤ ar.size →
    ((m.zipIdx n).foldl (fun a (e : Keyed × Nat) => a.setIfInBounds (b + e.2) e.1) ar).toList = ar.toList.take (b + n) ++ m ++ ar.toList.drop (b + n + m.length)
  | [], n, ar, h => by simp
  | e :: m, n, ar, h => by
    rw [List.length_cons] at h
    rw [List.zipIdx_cons, List.foldl_cons, laid_at b m (n + 1) _ (by rw [Array.size_setIfInBounds]; omega)]
    have hl : b + n < ar.toList.length := by rw [Array.length_toList]; omega
    rw [Array.toList_setIfInBounds, show b + (n + 1) = b + n + 1 by omega]
    have e1 : (ar.toList.set (b + n) e).take (b + n + 1) = ar.toList.take (b + n) ++ [e] := by
      rw [List.take_succ, List.getElem?_set_self hl, List.take_set_of_le (Nat.le_refl _)]
      rfl
    have e2 : (ar.toList.set (b + n) e).drop (b + n + 1 + m.length) = ar.toList.drop (b + n + (m.length + 1)) := by
      rw [List.drop_set_of_lt (by omega)]
      congr 1
      omega
    rw [e1, e2]
    simp

theorem K_extract {ar : Array Keyed} {i j t : Nat} (hj : j ≤ ar.size) (ht : i + t < j) : K (ar.extract i j) t = K ar (i + t) := by
  refine K_congr ?_
  rw [Array.getElem?_extract, if_pos (by omega)]

section
variable {P : Program} {w : World} {A : Around} {E : Value → Shared → Prop} {s : Shared}
theorem wpS_set {st st' : SortSt} {Q : PUnit → SortSt → Prop} (h : Q ⟨⟩ st') : wpS (model P w) A E s (set st' : SM PUnit) Q st := by
  unfold wpS
  rw [StateT.run_set]
  exact wpAny_pure ⟨rfl, h⟩

theorem gal_rightS {st : SortSt} {ky : Keyed} {ar : Array Keyed} {ba m hn : Nat} {Q : Option Nat → SortSt → Prop} (hk : kindOf st = oneType') (hy : IsI ky) (ha : ∀ j (h : j < ar.size), IsI ar[j]) (ua : SUp ar ba m) (hm : ba + m ≤ ar.size) (hh : hn < m)
    (h : ∀ k, k ≤ m → (∀ t, ba ≤ t → t < ba + k → K ar t ≤ numOf ky.1) → (∀ t, ba + k ≤ t → t < ba + m → numOf ky.1 < K ar t) → Q (some k) st) : wpS (model P w) A E s (gal false ky ar ba m hn) Q st := by
  refine wp_gal hk hy ha hm hh (fun i j hij hj e => ?_) fun k k1 k2 k3 => h k k1 (fun t t1 t2 => ?_) fun t t1 t2 => ?_
  · rw [far_right] at e ⊢
    exact Int.le_trans (ua _ _ hij hj) e
  · have := k2 (t - ba) (by omega)
    rw [far_right, show ba + (t - ba) = t by omega] at this
    exact this
  · have := k3 (t - ba) (by omega) (by omega)
    rcases Int.lt_or_le (numOf ky.1) (K ar t) with z | z
    · exact z
    · rw [far_right.mpr (by rw [show ba + (t - ba) = t by omega]; exact z)] at this
      cases this
theorem gal_leftS {st : SortSt} {ky : Keyed} {ar : Array Keyed} {ba m hn : Nat} {Q : Option Nat → SortSt → Prop} (hk : kindOf st = oneType') (hy : IsI ky) (ha : ∀ j (h : j < ar.size), IsI ar[j]) (ua : SUp ar ba m) (hm : ba + m ≤ ar.size) (hh : hn < m)
    (h : ∀ k, k ≤ m → (∀ t, ba ≤ t → t < ba + k → K ar t < numOf ky.1) → (∀ t, ba + k ≤ t → t < ba + m → numOf ky.1 ≤ K ar t) → Q (some k) st) : wpS (model P w) A E s (gal true ky ar ba m hn) Q st := by
  refine wp_gal hk hy ha hm hh (fun i j hij hj e => ?_) fun k k1 k2 k3 => h k k1 (fun t t1 t2 => ?_) fun t t1 t2 => ?_
  · rw [far_left] at e ⊢
    exact Int.lt_of_le_of_lt (ua _ _ hij hj) e
  · have := k2 (t - ba) (by omega)
    rw [far_left, show ba + (t - ba) = t by omega] at this
    exact this
  · have := k3 (t - ba) (by omega) (by omega)
    rcases Int.lt_or_le (K ar t) (numOf ky.1) with z | z
    · rw [far_left.mpr (by rw [show ba + (t - ba) = t by omega]; exact z)] at this
      cases this
    · exact z

/-- the sort is through -/
def Thru (a₀ : Array Keyed) (st : SortSt) : Prop := (arrOf st).Perm a₀ ∧ failedOf st = none ∧ (pendingOf st).size ≤ 1 ∧ SortedTo (arrOf st) a₀.size

theorem up_of_list {xs : Array Keyed} (h : xs.toList.Pairwise le) : SortedTo xs xs.size := fun i j hij hj => by
  by_cases e : i = j
  · rw [e]; exact Int.le_refl _
  · have h2 := List.pairwise_iff_getElem.mp h i j (by rw [Array.length_toList]; omega) (by rw [Array.length_toList]; omega) (by omega)
    rw [K_at (by omega), K_at hj]
    simpa [le] using h2

theorem wp_mAt {st : SortSt} {a₀ : Array Keyed} {n1 n2 pw : Nat} {Q : Bool → SortSt → Prop} (h0 : IntKeys a₀) (hp : (arrOf st).Perm a₀) (hk : kindOf st = oneType') (hf : failedOf st = none) (hd : pendingOf st = #[(0, n1, pw), (n1, n2, 0)])
    (hn : n1 + n2 = a₀.size) (l1 : 1 ≤ n1) (l2 : 1 ≤ n2) (u1 : SUp (arrOf st) 0 n1) (u2 : SUp (arrOf st) n1 n2) (h : ∀ st', Thru a₀ st' → Q true st') : wpS (model P w) A E s (mergeAt' 0) Q st := by
  have hz : (arrOf st).size = a₀.size := hp.size_eq
  have isI := fun j (hj : j < (arrOf st).size) => perm_isI h0 hp j hj
  refine wpS_bind (wpS_get ?_)
  have e1 : (pendingOf st)[0]? = some (0, n1, pw) := by rw [hd]; rfl
  have e2 : (pendingOf st)[0 + 1]? = some (n1, n2, 0) := by rw [hd]; rfl
  rw [e1, e2]
  dsimp only
  refine wpS_bind (wpS_set ?_)
  have e3 : (((pendingOf st).setIfInBounds 0 (0, n1 + n2, pw)).eraseIdxIfInBounds (0 + 1)).size ≤ 1 := by rw [hd]; simp [Array.eraseIdxIfInBounds]
  generalize (((pendingOf st).setIfInBounds 0 (0, n1 + n2, pw)).eraseIdxIfInBounds (0 + 1)) = pd at e3
  have v1 : ∀ i j, i ≤ j → j < n1 → K (arrOf st) i ≤ K (arrOf st) j := fun i j hij hj => by
    have := u1 i j hij hj
    rwa [Nat.zero_add, Nat.zero_add] at this
  have v2 : ∀ i j, n1 ≤ i → i ≤ j → j < n1 + n2 → K (arrOf st) i ≤ K (arrOf st) j := fun i j h1 hij hj => by
    have := u2 (i - n1) (j - n1) (by omega) (by omega)
    rwa [show n1 + (i - n1) = i by omega, show n1 + (j - n1) = j by omega] at this
  -- where nothing is to do
  have whole : (∀ i j, i < n1 → n1 ≤ j → j < n1 + n2 → K (arrOf st) i ≤ K (arrOf st) j) → Thru a₀ (setPending st pd) := fun c => by
    refine ⟨hp, hf, e3, fun i j hij hj => ?_⟩
    show K (arrOf st) i ≤ K (arrOf st) j
    by_cases c1 : j < n1
    · exact v1 i j hij c1
    · by_cases c2 : i < n1
      · exact c i j c2 (by omega) (by omega)
      · exact v2 i j (by omega) hij (by omega)
  refine wpS_bind (wp_elem (ar := arrOf st) (by omega) ?_)
  refine wpS_bind (gal_rightS (ar := arrOf st) hk (isI _ (by omega)) isI u1 (by omega) (by omega) fun k k1 k2 k3 => ?_)
  rw [← K_at (by omega)] at k2 k3
  simp only [Nat.zero_add] at k2 k3
  dsimp only
  by_cases c1 : n1 - k = 0
  · rw [if_pos (by rw [c1]; rfl)]
    exact wpS_pure (h _ (whole fun i j i1 j1 j2 => Int.le_trans (k2 i (by omega) (by omega)) (v2 n1 j (Nat.le_refl _) j1 j2)))
  rw [if_neg (by simpa using c1)]
  simp only [Nat.zero_add]
  refine wpS_bind (wp_elem (ar := arrOf st) (by omega) ?_)
  refine wpS_bind (gal_leftS (ar := arrOf st) hk (isI _ (by omega)) isI u2 (by omega) (by omega) fun m m1 m2 m3 => ?_)
  rw [← K_at (by omega), show k + (n1 - k) - 1 = n1 - 1 by omega] at m2 m3
  dsimp only
  by_cases c2 : m = 0
  · rw [if_pos (by rw [c2]; rfl)]
    exact wpS_pure (h _ (whole fun i j i1 j1 j2 => Int.le_trans (v1 i (n1 - 1) (by omega) (by omega)) (m3 j (by omega) j2)))
  rw [if_neg (by simpa using c2)]
  have ix : ∀ j (hj : j < ((arrOf st).extract k n1).size), IsI ((arrOf st).extract k n1)[j] := fun j hj => by rw [Array.getElem_extract]; exact isI _ _
  have iy : ∀ j (hj : j < ((arrOf st).extract n1 (n1 + m)).size), IsI ((arrOf st).extract n1 (n1 + m))[j] := fun j hj => by rw [Array.getElem_extract]; exact isI _ _
  have sx : ((arrOf st).extract k n1).size = n1 - k := by rw [Array.size_extract]; omega
  have sy : ((arrOf st).extract n1 (n1 + m)).size = m := by rw [Array.size_extract]; omega
  have ux : Up ((arrOf st).extract k n1) := fun i j hij hj => by
    rw [K_extract (by omega) (by omega), K_extract (by omega) (by omega)]
    exact v1 _ _ (by omega) (by omega)
  have uy : Up ((arrOf st).extract n1 (n1 + m)) := fun i j hij hj => by
    rw [K_extract (by omega) (by omega), K_extract (by omega) (by omega)]
    exact v2 _ _ (by omega) (by omega) (by omega)
  have hl : ∀ t, t < ((arrOf st).extract n1 (n1 + m)).size → K ((arrOf st).extract n1 (n1 + m)) t ≤ K ((arrOf st).extract k n1) (((arrOf st).extract k n1).size - 1) := fun t ht => by
    rw [K_extract (by omega) (by omega), sx, K_extract (by omega) (by omega), show k + (n1 - k - 1) = n1 - 1 by omega]
    exact Int.le_of_lt (m2 _ (by omega) (by omega))
  have hb : ∀ t, t < ((arrOf st).extract k n1).size → K ((arrOf st).extract n1 (n1 + m)) 0 ≤ K ((arrOf st).extract k n1) t := fun t ht => by
    rw [K_extract (by omega) (by omega), K_extract (by omega) (by omega), Nat.add_zero]
    exact Int.le_of_lt (k3 _ (by omega) (by omega))
  -- behind the merge
  have last : ∀ r st', Alike (setPending st pd) st' → Good ((arrOf st).extract k n1) ((arrOf st).extract n1 (n1 + m)) r → wpS (model P w) A E s (do
      modify fun z => setArr z (r.toList.zipIdx.foldl (fun a (e, j) => a.setIfInBounds (k + j) e) (arrOf z))
      return (failedOf (← get)).isNone) Q st' := by
    rintro r st' ⟨g, rfl⟩ ⟨g1, g2⟩
    refine wpS_bind (wpS_modify (wpS_bind (wpS_get (wpS_pure ?_))))
    have hf' : (failedOf st).isNone = true := by rw [hf]; rfl
    show Q (failedOf st).isNone _
    rw [hf']
    have sr : r.toList.length = n1 - k + m := by
      rw [g1.length_eq, List.length_append, Array.length_toList, Array.length_toList, sx, sy]
    have el := laid_at k r.toList 0 (arrOf st) (by omega)
    rw [Nat.add_zero, sr] at el
    have e0 : (arrOf st).toList = (arrOf st).toList.take k ++ (((arrOf st).extract k n1).toList ++ ((arrOf st).extract n1 (n1 + m)).toList) ++ (arrOf st).toList.drop (k + (n1 - k + m)) := by
      have a1 := extr (arrOf st) k (n1 - k)
      have a2 := extr (arrOf st) n1 m
      rw [show k + (n1 - k) = n1 by omega] at a1
      rw [a1, a2]
      have b1 := List.take_append_drop k (arrOf st).toList
      have b2 := List.take_append_drop (n1 - k) ((arrOf st).toList.drop k)
      have b3 := List.take_append_drop m ((arrOf st).toList.drop n1)
      rw [List.drop_drop] at b2 b3
      rw [show k + (n1 - k) = n1 by omega] at b2
      rw [List.append_assoc, List.append_assoc, show k + (n1 - k + m) = n1 + m by omega, b3, b2, b1]
    have pm : ((arrOf st).toList.take k ++ r.toList ++ (arrOf st).toList.drop (k + (n1 - k + m))).Perm (arrOf st).toList := by
      conv => rhs; rw [e0]
      exact List.Perm.append_right _ (List.Perm.append_left _ g1)
    have mr : ∀ x ∈ r.toList, ∃ t, k ≤ t ∧ t < n1 + m ∧ numOf x.1 = K (arrOf st) t := fun x hx => by
      rcases List.mem_append.mp (g1.mem_iff.mp hx) with hx | hx
      · rw [extr_mid] at hx
        obtain ⟨t, t1, t2, t3, t4⟩ := mem_midA hx
        exact ⟨t, t1, by omega, t4⟩
      · rw [extr_mid] at hx
        obtain ⟨t, t1, t2, t3, t4⟩ := mem_midA hx
        exact ⟨t, by omega, t2, t4⟩
    have below : ∀ i t, i < k → k ≤ t → t < n1 + n2 → K (arrOf st) i ≤ K (arrOf st) t := fun i t i1 t1 t2 => by
      by_cases c : t < n1
      · exact v1 i t (by omega) c
      · exact Int.le_trans (k2 i (by omega) i1) (v2 n1 t (Nat.le_refl _) (by omega) t2)
    have above : ∀ t u, t < n1 + m → n1 + m ≤ u → u < n1 + n2 → K (arrOf st) t ≤ K (arrOf st) u := fun t u t1 u1 u2 => by
      by_cases c : t < n1
      · exact Int.le_trans (v1 t (n1 - 1) (by omega) (by omega)) (m3 u (by omega) u2)
      · exact v2 t u (by omega) (by omega) u2
    refine h _ ⟨?_, hf, e3, ?_⟩
    · refine Array.perm_iff_toList_perm.mpr ?_
      show (List.foldl _ (arrOf st) _).toList.Perm a₀.toList
      rw [el]
      exact pm.trans (Array.perm_iff_toList_perm.mp hp)
    · have sz : (r.toList.zipIdx.foldl (fun a (e : Keyed × Nat) => a.setIfInBounds (k + e.2) e.1) (arrOf st)).size = a₀.size := by
        rw [← Array.length_toList, el, pm.length_eq, Array.length_toList, hz]
      have := up_of_list (xs := r.toList.zipIdx.foldl (fun a (e : Keyed × Nat) => a.setIfInBounds (k + e.2) e.1) (arrOf st)) (by
        rw [el, List.pairwise_append, List.pairwise_append]
        refine ⟨⟨?_, g2, fun x hx y hy => ?_⟩, ?_, fun x hx y hy => ?_⟩
        · rw [List.pairwise_iff_getElem]
          intro i j hi hj hij
          rw [List.length_take] at hi hj
          rw [List.getElem_take, List.getElem_take]
          have := v1 i j (by omega) (by omega)
          rw [K_at (by omega), K_at (by omega)] at this
          simpa [le] using this
        · obtain ⟨i, i1, i2, i3⟩ := mem_takeA hx
          obtain ⟨t, t1, t2, t3⟩ := mr y hy
          unfold le
          rw [i3, t3]
          exact below i t i1 t1 (by omega)
        · rw [List.pairwise_iff_getElem]
          intro i j hi hj hij
          rw [List.length_drop, Array.length_toList] at hi hj
          rw [List.getElem_drop, List.getElem_drop]
          have := v2 (k + (n1 - k + m) + i) (k + (n1 - k + m) + j) (by omega) (by omega) (by omega)
          rw [K_at (by omega), K_at (by omega)] at this
          simpa [le] using this
        · obtain ⟨u, x1, x2, x3⟩ := mem_dropA hy
          unfold le
          rw [x3]
          rcases List.mem_append.mp hx with hx | hx
          · obtain ⟨i, i1, i2, i3⟩ := mem_takeA hx
            rw [i3]
            exact below i u i1 (by omega) (by omega)
          · obtain ⟨t, t1, t2, t3⟩ := mr x hx
            rw [t3]
            exact above t u t2 (by omega) (by omega))
      rw [sz] at this
      exact this
  by_cases c3 : n1 - k ≤ m
  · rw [if_pos c3]
    refine wpS_bind (wp_mLo (a := (arrOf st).extract k n1) (b := (arrOf st).extract n1 (n1 + m)) hk ix iy ux uy (by omega) (by omega) (hb 0 (by omega)) hl fun r st' al gd => ?_)
    exact last r st' al gd
  · rw [if_neg c3]
    refine wpS_bind (wp_mHi (a := (arrOf st).extract k n1) (b := (arrOf st).extract n1 (n1 + m)) hk ix iy ux uy (by omega) (by omega) hb hl fun r st' al gd => ?_)
    exact last r st' al gd
end
end Ts
namespace Ts
open PySem PyProof.Rows
section
variable {P : Program} {w : World} {A : Around} {E : Value → Shared → Prop} {s : Shared} {a₀ : Array Keyed}
theorem minRun_mid {n : Nat} (h1 : 64 ≤ n) (h2 : n < 128) : minRun' n n 0 = n / 2 + n % 2 := by
  obtain ⟨f, e⟩ : ∃ f, n = f + 1 + 1 := ⟨n - 2, by omega⟩
  have h : minRun' (f + 1 + 1) n 0 = n / 2 + n % 2 := by
    rw [minRun'_succ, if_neg (by omega), minRun'_succ, if_pos (by omega), Nat.max_eq_right (Nat.zero_le _)]
  rwa [← e] at h

/-- between two runs -/
def Mid (a₀ : Array Keyed) (x : Nat) (c : Option Unit × Nat) (st : SortSt) : Prop :=
  (x = 0 ∧ c = (none, 0) ∧ TB a₀ #[] 0 a₀ st) ∨
  (1 ≤ x ∧ c = (none, a₀.size) ∧ Thru a₀ st) ∨
  (x = 1 ∧ ∃ n, c = (none, n) ∧ a₀.size / 2 + a₀.size % 2 ≤ n ∧ n < a₀.size ∧ TB a₀ #[(0, n, 0)] 0 a₀ st ∧ SUp (arrOf st) 0 n) ∨
  (2 ≤ x ∧ c = (none, a₀.size) ∧ ∃ n pw, 1 ≤ n ∧ n < a₀.size ∧ TB a₀ #[(0, n, pw), (n, a₀.size - n, 0)] 0 a₀ st ∧ SUp (arrOf st) 0 n ∧ SUp (arrOf st) n (a₀.size - n))

theorem TB.put {pd : Array (Nat × Nat × Nat)} {lo : Nat} {x0 : Array Keyed} {st : SortSt} (h : TB a₀ pd lo x0 st) (pd' : Array (Nat × Nat × Nat)) : TB a₀ pd' lo x0 (setPending st pd') := ⟨h.perm, h.kind, h.failed, rfl, h.pre⟩
theorem TB.low {pd : Array (Nat × Nat × Nat)} {lo : Nat} {x0 : Array Keyed} {st : SortSt} (h : TB a₀ pd lo x0 st) : TB a₀ pd 0 a₀ st := ⟨h.perm, h.kind, h.failed, h.pend, fun k hk => absurd hk (Nat.not_lt_zero k)⟩

theorem thru_one {st : SortSt} {pd : Array (Nat × Nat × Nat)} (h : TB a₀ pd 0 a₀ st) (u : SUp (arrOf st) 0 a₀.size) (pd' : Array (Nat × Nat × Nat)) (hp : pd'.size ≤ 1) : Thru a₀ (setPending st pd') :=
  ⟨h.perm, h.failed, hp, fun i j hij hj => by
    have := u i j hij hj
    rwa [Nat.zero_add, Nat.zero_add] at this⟩

theorem two_pend (n m pw : Nat) : ((#[(0, n, 0)] : Array (Nat × Nat × Nat)).modify ((#[(0, n, 0)] : Array (Nat × Nat × Nat)).size - 1) fun x => (x.fst, x.2.fst, pw)).push (n, m, 0) = #[(0, n, pw), (n, m, 0)] := by
  simp [Array.modify, Array.modifyM]
theorem wp_runs {st : SortSt} {Q : Unit → SortSt → Prop} (h0 : IntKeys a₀) (hB : TB a₀ #[] 0 a₀ st) (h64 : 64 ≤ a₀.size) (h128 : a₀.size < 128)
    (h : ∀ st', Thru a₀ st' → Q () st') : wpS (model P w) A E s sortRuns' Q st := by
  rw [sortRuns'_eq]
  refine wpS_bind (wpS_get ?_)
  dsimp only
  simp only [hB.size, minRun_mid h64 h128]
  refine wpS_bind (wpS_mono (wpS_forRange (I := Mid a₀) (Q := fun c st' => ∃ x, 1 ≤ x ∧ Mid a₀ x c st' ∧ c.2 = a₀.size) ?step ?fin (.inl ⟨rfl, rfl, hB⟩)) ?post)
  case fin =>
    rintro c st' hm
    rcases hm with ⟨hx, _⟩ | ⟨hx, e, hT⟩ | ⟨hx, _⟩ | ⟨hx, e, hT⟩
    · omega
    · exact ⟨_, hx, .inr (.inl ⟨hx, e, hT⟩), by rw [e]⟩
    · omega
    · exact ⟨_, by omega, .inr (.inr (.inr ⟨hx, e, hT⟩)), by rw [e]⟩
  case step =>
    rintro x c st' _ hx hm
    rcases hm with ⟨rfl, rfl, hB1⟩ | ⟨hx1, rfl, hT⟩ | ⟨rfl, n, rfl, n1, n2, hB1, u1⟩ | ⟨hx2, rfl, hT⟩
    · dsimp only
      rw [if_neg (by omega)]
      simp only [Nat.sub_zero, Nat.zero_add]
      refine wpS_bind (wp_count (lo := 0) h0 (by omega) (by omega) hB1 fun m s2 hB2 m1 m2 u2 => ?_)
      dsimp only
      by_cases hlt : m < a₀.size / 2 + a₀.size % 2
      rw [if_pos hlt]
      refine wpS_bind (wpS_lift (wpAny_rule ⟨rfl, ?_⟩))
      simp only [show min a₀.size (a₀.size / 2 + a₀.size % 2) = a₀.size / 2 + a₀.size % 2 by omega]
      refine wpS_bind (wp_binary (lo := 0) h0 (by omega) (by omega) hB2 u2 fun s3 hB3 u3 => ?_)
      simp only [Bool.not_true, Bool.false_eq_true, if_false]
      refine wpS_bind (wpS_get ?_)
      have hb : (pendingOf s3).back? = none := by rw [hB3.pend]; rfl
      rw [hb]
      dsimp only
      · refine wpS_bind (wpS_modify (wpS_pure (.inr (.inr (.inl ⟨rfl, _, rfl, Nat.le_refl _, by omega, ?_, u3⟩)))))
        rw [hB3.pend]
        exact hB3.put _
      rw [if_neg hlt]
      refine wpS_bind (wpS_get ?_)
      have hb : (pendingOf s2).back? = none := by rw [hB2.pend]; rfl
      rw [hb]
      dsimp only
      by_cases hm : m = a₀.size
      · refine wpS_bind (wpS_modify (wpS_pure (.inr (.inl ⟨by omega, by rw [hm], thru_one hB2 (by rw [← hm]; exact u2) _ ?_⟩))))
        rw [hB2.pend]
        exact Nat.le_refl 1
      · refine wpS_bind (wpS_modify (wpS_pure (.inr (.inr (.inl ⟨rfl, _, rfl, by omega, by omega, ?_, u2⟩)))))
        rw [hB2.pend]
        exact hB2.put _
    · dsimp only
      rw [if_pos (Nat.le_refl _)]
      exact wpS_pure ⟨x, hx1, .inr (.inl ⟨hx1, rfl, hT⟩), rfl⟩
    · dsimp only
      rw [if_neg (by omega)]
      have hB1' : TB a₀ #[(0, n, 0)] n (arrOf st') st' := ⟨hB1.perm, hB1.kind, hB1.failed, hB1.pend, fun _ _ => rfl⟩
      have keepU : ∀ s4, TB a₀ #[(0, n, 0)] n (arrOf st') s4 → SUp (arrOf s4) 0 n := fun s4 h4 i j hij hj => by
        rw [h4.pre _ (by omega), h4.pre _ (by omega)]
        exact u1 i j hij hj
      refine wpS_bind (wp_count h0 (by omega) (by omega) hB1' fun m s2 hB2 m1 m2 u2 => ?_)
      dsimp only
      by_cases hlt : m < a₀.size / 2 + a₀.size % 2
      rw [if_pos hlt]
      refine wpS_bind (wpS_lift (wpAny_rule ⟨rfl, ?_⟩))
      simp only [show min (a₀.size - n) (a₀.size / 2 + a₀.size % 2) = a₀.size - n by omega]
      refine wpS_bind (wp_binary h0 (by omega) (by omega) hB2 u2 fun s3 hB3 u3 => ?_)
      simp only [Bool.not_true, Bool.false_eq_true, if_false]
      rotate_left
      rw [if_neg hlt]
      have hm : m = a₀.size - n := by omega
      subst hm
      have hB3 := hB2
      have u3 := u2
      all_goals
        refine wpS_bind (wpS_get ?_)
        rw [hB3.pend]
        have hb : (#[(0, n, 0)] : Array (Nat × Nat × Nat)).back? = some (0, n, 0) := rfl
        rw [hb]
        dsimp only
        refine wpS_bind (wpS_mono (wpS_forRange (I := fun _ c s4 => s4 = _ ∧ c = (none, ())) (Q := fun c s4 => s4 = _ ∧ c = (none, ())) ?stepi (fun _ _ z => z) ⟨rfl, rfl⟩) ?posti)
        case stepi =>
          rintro y c s4 _ _ ⟨rfl, rfl⟩
          refine wpS_bind (wpS_get ?_)
          rw [hB3.pend]
          exact wpS_pure ⟨rfl, rfl⟩
        case posti =>
          rintro c s4 ⟨rfl, rfl⟩
          dsimp only
          refine wpS_bind (wpS_modify ?_)
          rw [hB3.pend]
          refine wpS_bind (wpS_modify (wpS_pure (.inr (.inr (.inr ⟨Nat.le_refl 2, ?_, n, power' a₀.size (2 * 0 + n) (2 * 0 + n + n + (a₀.size - n)) a₀.size, by omega, n2, ?_, keepU s4 hB3, u3⟩)))))
          · rw [show n + (a₀.size - n) = a₀.size by omega]
          · exact ⟨hB3.perm, hB3.kind, hB3.failed, two_pend _ _ _, fun k hk => absurd hk (Nat.not_lt_zero k)⟩
    · dsimp only
      rw [if_pos (Nat.le_refl _)]
      exact wpS_pure ⟨x, by omega, .inr (.inr (.inr ⟨hx2, rfl, hT⟩)), rfl⟩
  case post =>
    rintro c st' ⟨x, hx, hm, he⟩
    have hc : c = (none, a₀.size) := by
      rcases hm with ⟨hx0, _⟩ | ⟨_, e, _⟩ | ⟨_, n, e, _, hn, _⟩ | ⟨_, e, _⟩
      · omega
      · exact e
      · rw [e] at he
        have he' : n = a₀.size := he
        omega
      · exact e
    subst hc
    dsimp only
    refine wpS_bind (wpS_mono (wpS_forRange (I := fun y c s2 => c = (none, ()) ∧ ((y = 0 ∧ s2 = st') ∨ Thru a₀ s2)) (Q := fun c s2 => c = (none, ()) ∧ Thru a₀ s2) ?step2 ?fin2 ⟨rfl, .inl ⟨rfl, rfl⟩⟩) ?post2)
    case fin2 =>
      rintro c s2 ⟨e, z⟩
      rcases z with ⟨z, _⟩ | z
      · omega
      · exact ⟨e, z⟩
    case post2 =>
      rintro c s2 ⟨rfl, z⟩
      exact wpS_pure (h s2 z)
    case step2 =>
      rintro y c s2 _ hy ⟨rfl, z⟩
      have thr : Thru a₀ s2 → wpS (model P w) A E s (do
          let p := pendingOf (← get)
          if p.size ≤ 1 then pure (ForInStep.done ((none : Option Unit), ()))
          else pure (ForInStep.yield (none, ()))) (fun r st'' => match r with | .done c' => c' = (none, ()) ∧ Thru a₀ st'' | .yield c' => c' = (none, ()) ∧ ((y + 1 = 0 ∧ st'' = st') ∨ Thru a₀ st'')) s2 := fun t => by
        refine wpS_bind (wpS_get ?_)
        rw [if_pos t.2.2.1]
        exact wpS_pure ⟨rfl, t⟩
      have old : Thru a₀ s2 ∨ (s2 = st' ∧ ¬ Thru a₀ s2) := by
        rcases z with ⟨_, z⟩ | z
        · by_cases t : Thru a₀ s2
          · exact .inl t
          · exact .inr ⟨z, t⟩
        · exact .inl z
      rcases old with t | ⟨rfl, nt⟩
      · refine wpS_bind (wpS_get ?_)
        rw [if_pos t.2.2.1]
        exact wpS_pure ⟨rfl, t⟩
      · rcases hm with ⟨hx0, _⟩ | ⟨_, _, hT⟩ | ⟨_, n, e, _, hn, _⟩ | ⟨_, _, n, pw, n1, n2, hB2, u1, u2⟩
        · omega
        · exact absurd hT nt
        · cases e
          omega
        · refine wpS_bind (wpS_get ?_)
          rw [hB2.pend]
          have e1 : ¬ (#[(0, n, pw), (n, a₀.size - n, 0)] : Array (Nat × Nat × Nat)).size ≤ 1 := by simp
          rw [if_neg e1]
          refine wpS_bind (wp_mAt h0 hB2.perm hB2.kind hB2.failed hB2.pend (by omega) n1 (by omega) u1 u2 fun s3 t3 => ?_)
          exact wpS_pure ⟨rfl, .inr t3⟩
end
end Ts
namespace Ts
open PySem PyProof.Rows
section
variable {P : Program} {w : World} {A : Around} {E : Value → Shared → Prop} {s : Shared}
theorem sort_big {a : Addr} {vs : List Value} {ns : List Int} {n : Nat} {R : PySem.Fin → Shared → Prop} (ho : s.heap.get? a = some (seqObj "list" vs.toArray n)) (hI : IntsAre vs ns) (h1 : 64 ≤ vs.length) (h2 : vs.length < 128)
    (h : ∀ (out : Array Value) (ms : List Int), IntsAre out.toList ms → ms.Perm ns → ms.Pairwise (· ≤ ·) → R (.done (.ret .none)) { s with heap := sortedHeap s.heap a vs out }) :
    wpAny (model P w) A (Builtin.«list.sort» ⟨[.ref a], []⟩) R E s := by
  have lt := Heap.lt_size ho
  obtain ⟨e1, o1⟩ : ∃ e1, (s.heap.update a (Obj.mapSeq fun _ => #[])).get? a = some (seqObj "list" #[] e1) := ⟨_, get?_update_seq ho (fun _ => #[])⟩
  have o6 : (((s.heap.update a (Obj.mapSeq fun _ => #[])).push (seqObj "tuple" vs.toArray 0)).push (seqObj "list" #[] 0)).get? a = some (seqObj "list" #[] e1) := by
    rw [Heap.get?_push_ne _ _ _ (by rw [size_push', Heap.size_update]; exact Nat.ne_of_lt (Nat.lt_succ_of_lt lt)), Heap.get?_push_ne _ _ _ (by rw [Heap.size_update]; exact Nat.ne_of_lt lt)]
    exact o1
  rw [list_sort_plain]
  refine wpAny_bind (listItems_at ho rfl (wpAny_bind (listUpdate_at ho rfl (wpAny_bind (seqEpoch_at o1 rfl (wpAny_bind (wpAny_newTuple (wpAny_bind (wpAny_newList (wpAny_holding ?_)))))))) ))
  show wpAny (model P w) A _ R E { s with heap := ((s.heap.update a (Obj.mapSeq fun _ => #[])).push (seqObj "tuple" vs.toArray 0)).push (seqObj "list" #[] 0) }
  have hsz : ¬ vs.toArray.size < 2 := by rw [List.size_toArray]; omega
  dsimp only
  rw [if_neg hsz, if_neg hsz]
  have hk : keyKind' vs.toArray = pure oneType' := by
    match vs, hI, h1 with
    | v1 :: v2 :: rest, hI, _ => exact keyKind_ints hI
  rw [hk]
  have sz := pairsOf_size vs
  refine wpAny_bind (wpAny_pure (wpAny_bind (wpAny_mono (wp_runs (a₀ := pairsOf vs) (st := SortSt.mk' oneType' (vs.toArray.zip vs.toArray) #[] 7 none) (Q := fun _ st' => Thru (pairsOf vs) st')
    hI.intKeys ⟨Array.Perm.refl _, rfl, rfl, rfl, fun _ _ => rfl⟩ (by omega) (by omega) fun _ z => z) ?_ fun _ _ e => e)))
  rintro ⟨⟨⟩, st'⟩ s' ⟨rfl, hp, hf, _, hs⟩
  dsimp only
  refine wpAny_bind (seqEpoch_at o6 rfl (wpAny_bind (listUpdate_at o6 rfl ?_ (hsz2 := ?_))))
  · rw [hf]
    simp only [bne_self_eq_false, Bool.false_eq_true, if_false]
    obtain ⟨ms, q1, q2, q3⟩ := sorted_out hI hp hs
    exact wpAny_pure (h _ ms q1 q2 q3)
  · rw [Array.size_map, hp.size_eq, sz, sizeLine_eq]
    omega

theorem sorted_big {l : Addr} {vs : List Value} {ns : List Int} {Q : Value → Shared → Prop} (hl : s.heap.IsList l vs.toArray) (hI : IntsAre vs ns) (h1 : 64 ≤ vs.length) (h2 : vs.length < 128)
    (h : ∀ (out : Array Value) (ms : List Int), IntsAre out.toList ms → ms.Perm ns → ms.Pairwise (· ≤ ·) → Q (.ref (s.heap.objs.size + 1)) { s with heap := sortedAll s.heap vs out }) :
    wpAny (model P w) A (call (.builtin "sorted") [.ref l]) Q E s := by
  refine Calls.call_function_entry kind_sorted plain_sorted entry_sorted (args_sorted1 _) ?_
  unfold Builtin.«sorted»
  have hsz : ((s.heap.push (seqObj "list" #[] 0)).update s.heap.objs.size (Obj.mapSeq (· ++ vs.toArray))).objs.size = s.heap.objs.size + 1 := by rw [Heap.size_update, size_push']
  have hL : (((s.heap.push (seqObj "list" #[] 0)).update s.heap.objs.size (Obj.mapSeq (· ++ vs.toArray))).push (seqObj "list" vs.toArray 0)).get? (s.heap.objs.size + 1) = some (seqObj "list" vs.toArray 0) := by
    rw [← hsz]; exact Heap.get?_push_size _ rfl
  refine wpAny_bind (m := checkCount "sorted" 1 1 _) (wpAny_pure (wpAny_bind (collect_list hl (wpAny_bind (wpAny_newList ?_)) (by rw [sizeLine_eq]; omega))))
  show wpAny _ _ _ _ _ { s with heap := ((s.heap.push (seqObj "list" #[] 0)).update s.heap.objs.size (Obj.mapSeq (· ++ vs.toArray))).push (seqObj "list" vs.toArray 0) }
  rw [hsz]
  refine wpAny_bind (wpAny_holding (wpAny_call_entry slot_list_sort ⟨_, hL, rfl⟩ entry_list_sort (sort_big hL hI h1 h2 fun out ms q1 q2 q3 => ⟨_, rfl, wpAny_pure ⟨_, rfl, h out ms q1 q2 q3⟩⟩) (args_list_sort _)))

/-- sorted of fewer than 128 ints -/
theorem sorted_128 {l : Addr} {vs : List Value} {ns : List Int} {Q : Value → Shared → Prop} (hl : s.heap.IsList l vs.toArray) (hI : IntsAre vs ns) (h2 : vs.length < 128)
    (h : ∀ (out : Array Value) (ms : List Int), IntsAre out.toList ms → ms.Perm ns → ms.Pairwise (· ≤ ·) → Q (.ref (s.heap.objs.size + 1)) { s with heap := sortedAll s.heap vs out }) :
    wpAny (model P w) A (call (.builtin "sorted") [.ref l]) Q E s := by
  by_cases h1 : vs.length < 64
  · exact sorted_ints hl hI h1 h
  · exact sorted_big hl hI (by omega) h2 h
end
end Ts
namespace L2
open PySem PySem.Spec PyProof.Rows
/-- the numbers 0, 1, .. below n -/
def iota (n : Nat) : List Int := (List.range n).map fun k => ((k : Nat) : Int)
theorem iota_length (n : Nat) : (iota n).length = n := by simp [iota]
theorem iota_succ (n : Nat) : iota (n + 1) = iota n ++ [(n : Int)] := by simp [iota, List.range_succ]
theorem mem_iota {n : Nat} {x : Int} : x ∈ iota n ↔ 0 ≤ x ∧ x < n := by
  unfold iota
  rw [List.mem_map]
  constructor
  · rintro ⟨k, hk, rfl⟩
    rw [List.mem_range] at hk
    omega
  · rintro ⟨h1, h2⟩
    exact ⟨x.toNat, List.mem_range.mpr (by omega), by omega⟩
theorem iota_nodup (n : Nat) : (iota n).Nodup := by
  unfold iota
  exact List.Pairwise.map _ (fun a b h z => h (by omega)) List.nodup_range
theorem iota_sorted (n : Nat) : (iota n).Pairwise (· ≤ ·) := by
  induction n with
  | zero => exact .nil
  | succ n ih =>
    rw [iota_succ, List.pairwise_append]
    refine ⟨ih, List.pairwise_singleton _ _, fun a ha b hb => ?_⟩
    have h1 := mem_iota.mp ha
    have h2 : b = (n : Int) := by simpa using hb
    omega

section
variable {X : Cx}
theorem line20 : (1048576 : Nat) ≤ sizeLine := by rw [sizeLine_eq]; decide

/-! ### sorted -/
def rSorted (K : PySem.W.Frag) : List V → Hp → VK → Prop := fun xs H Q => ∃ (p : Addr) (ns : List Int), xs = [.ref p] ∧ SqL K H p (ns.map V.int) ∧ ns.length < 128 ∧ ∀ (l : Addr) (ms : List Int), H l = none → ms.Perm ns → ms.Pairwise (· ≤ ·) → Q (.ref l) (upd H l (.lst (ms.map V.int)))
theorem call_sorted : CallR X (.builtin "sorted") (rSorted X.K) := by
  intro pins s σ H xs us Q I r h
  obtain ⟨p, ns, rfl, hq, hl, q⟩ := h
  obtain ⟨u, rfl, rx⟩ := vals1 r
  cases rx
  obtain ⟨its, rv, pl, hz⟩ := I.list hq
  have hi : IntsAre its ns := intsAre_of rv
  have hlen := rv.length
  rw [List.length_map] at hlen hz
  refine Ts.sorted_128 pl.isList hi (by omega) fun out ms a1 a2 a3 => ?_
  obtain ⟨e, he⟩ := sortedAll_at s.heap its out
  have hfr : H (s.heap.objs.size + 1) = none := I.hok.fresh (Nat.le_succ _)
  refine ⟨.ref (s.heap.objs.size + 1), _, I.laid (t' := s.toks) (o := .lst (ms.map V.int)) (fun b u q => sortedAll_old q) (Nat.le_succ _) ⟨?_, out.toList, e, vals_ints a1, ?_⟩, rfl, q _ ms hfr a2 a3⟩
  · rw [List.length_map, a2.length_eq]; exact hz
  · simpa using he

/-! ### range(n) as a thing, list(range(n)) -/
def rRange1 : List V → Hp → VK → Prop := fun xs H Q => ∃ j, xs = [.int j] ∧ ∀ r, H r = none → Q (.ref r) (upd H r (.rng 0 j))
theorem call_range1 : CallR X (.type "range") rRange1 := by
  intro pins s σ H xs us Q I r h
  obtain ⟨j, rfl, q⟩ := h
  obtain ⟨u, rfl, t, rfl⟩ := vals1 r
  refine call_range_1 ⟨.ref s.heap.objs.size, _, I.laid (o := .rng 0 j) (fun b u q => Heap.get?_push_of_some _ q) (Nat.le_refl _) ⟨_, _, _, Heap.get?_push_size _ rfl⟩, rfl, q _ (I.hok.fresh (Nat.le_refl _))⟩
def rngV (lo : Int) (n : Nat) : List V := (List.range n).map fun k => V.int (lo + (k : Nat))
theorem rngV_iota (n : Nat) : rngV 0 n = (iota n).map V.int := by simp [rngV, iota]
theorem vals_items : ∀ {n : Nat} {its : List Value} {lo : Int}, its.length = n → (∀ (j : Nat) v, its[j]? = some v → ∃ t, v = .int (lo + (j : Nat) * 1) t) → Vals (rngV lo n) its
  | 0, [], _, _, _ => .nil
  | n + 1, v :: its, lo, hl, h => by
    have e : rngV lo (n + 1) = V.int lo :: rngV (lo + 1) n := by
      unfold rngV
      rw [List.range_succ_eq_map, List.map_cons, List.map_map]
      congr 1
      · simp
      · refine List.map_congr_left fun k _ => ?_
        show V.int (lo + ((k + 1 : Nat) : Int)) = V.int (lo + 1 + (k : Nat))
        congr 1
        omega
    rw [e]
    obtain ⟨t, ht⟩ := h 0 v rfl
    refine .cons ⟨t, by rw [ht]; simp⟩ (vals_items (by simpa using hl) fun j w hw => ?_)
    obtain ⟨t', ht'⟩ := h (j + 1) w (by simpa using hw)
    refine ⟨t', ?_⟩
    rw [ht']
    congr 1
    push_cast
    omega
def rListRng : List V → Hp → VK → Prop := fun xs H Q => ∃ r lo hi, xs = [.ref r] ∧ H r = some (.rng lo hi) ∧ -1048576 ≤ lo ∧ lo ≤ 1048576 ∧ -1048576 ≤ hi ∧ hi ≤ 1048576 ∧ (hi - lo).toNat ≤ 1048576 ∧
  ∀ l, H l = none → Q (.ref l) (upd H l (.lst (rngV lo (hi - lo).toNat)))
theorem call_list_rng (hc : X.calm = true) : CallR X (.type "list") rListRng := by
  intro pins s σ H xs us Q I r h
  obtain ⟨a, lo, hi, rfl, hr, h1, h2, h3, h4, h5, q⟩ := h
  obtain ⟨u, rfl, rx⟩ := vals1 r
  cases rx
  obtain ⟨t, u, v, e⟩ : ∃ t u v, s.heap.get? a = some { cls := .type "range", data := .fields #[.int lo t, .int hi u, .int 1 v] } := I.hok a _ hr
  have hn : Builtin.Range.rangeSize lo hi 1 = ((hi - lo).toNat : Int) := by rw [rangeSize_one]; split <;> omega
  refine call_list_range (n := (hi - lo).toNat) (I.ok.hd hc) e (small_one (by omega) (by omega) (by omega) (by omega)) hn (by omega) fun h' tk acc c' kp e' items => ?_
  refine ⟨.ref s.heap.objs.size, _, I.laid (o := .lst (rngV lo (hi - lo).toNat)) kp (Nat.le_refl _) ⟨?_, acc.toList, c', vals_items (by simpa using items.1) fun j w hw => items.2 j w (by simpa using hw), by simpa using e'⟩, rfl, q _ (I.hok.fresh (Nat.le_refl _))⟩
  have := line20
  simp [rngV]
  omega

/-! ### two lists compared, flat items -/
def eqVs : List V → List V → Bool
  | [], [] => true
  | x :: xs, y :: ys => eqV x y && eqVs xs ys
  | _, _ => false
theorem eqVs_len : ∀ {xs ys : List V}, xs.length ≠ ys.length → eqVs xs ys = false
  | [], [], h => absurd rfl h
  | [], _ :: _, _ => rfl
  | _ :: _, [], _ => rfl
  | x :: xs, y :: ys, h => by
    unfold eqVs
    rw [eqVs_len (xs := xs) (ys := ys) (by simpa using h), Bool.and_false]
theorem eqVs_all : ∀ {xs ys : List V}, xs.length = ys.length → (List.range xs.length).all (fun j => eqV (xs.getD j .non) (ys.getD j .non)) = eqVs xs ys
  | [], [], _ => rfl
  | [], _ :: _, h => by cases h
  | _ :: _, [], h => by cases h
  | x :: xs, y :: ys, h => by
    rw [List.length_cons, List.range_succ_eq_map, List.all_cons, List.all_map]
    unfold eqVs
    rw [← eqVs_all (xs := xs) (ys := ys) (by simpa using h)]
    rfl
theorem eqVs_ints : ∀ {ns ms : List Int}, eqVs (ns.map V.int) (ms.map V.int) = decide (ns = ms)
  | [], [] => rfl
  | [], _ :: _ => by simp [eqVs]
  | _ :: _, [] => by simp [eqVs]
  | n :: ns, m :: ms => by
    show (n == m && eqVs (ns.map V.int) (ms.map V.int)) = _
    rw [eqVs_ints]
    by_cases h1 : n = m <;> by_cases h2 : ns = ms <;> simp [h1, h2]
theorem flat_ints (ns : List Int) : (ns.map V.int).all flatV = true := by
  rw [List.all_map, List.all_eq_true]
  intro _ _
  rfl
def rEqL (K : PySem.W.Frag) (neg : Bool) : R2 := fun x y H Q => ∃ p q xs ys, x = .ref p ∧ y = .ref q ∧ SqL K H p xs ∧ SqL K H q ys ∧ xs.all flatV = true ∧ ys.all flatV = true ∧ Q (.bl (if neg then !eqVs xs ys else eqVs xs ys)) H
theorem eqAt_items {A : Around} {s : Shared} {xs ys : List V} {us ws : List Value} (rx : Vals xs us) (ry : Vals ys ws) (fx : xs.all flatV = true) (fy : ys.all flatV = true) (j : Nat) (h1 : j < us.toArray.size) (h2 : j < ws.toArray.size) :
    SeqAt.EqAt A s us.toArray[j] ws.toArray[j] (eqV (xs.getD j .non) (ys.getD j .non)) := by
  have l1 := rx.length
  have l2 := ry.length
  rw [List.size_toArray] at h1 h2
  have g1 : xs[j]? = some (xs.getD j .non) := by simp [List.getD, show j < xs.length by omega]
  have g2 : ys[j]? = some (ys.getD j .non) := by simp [List.getD, show j < ys.length by omega]
  obtain ⟨u, e1, r1⟩ := rx.get g1
  obtain ⟨w, e2, r2⟩ := ry.get g2
  have q1 : us.toArray[j] = u := by
    rw [List.getElem?_eq_getElem h1] at e1
    simpa using e1
  have q2 : ws.toArray[j] = w := by
    rw [List.getElem?_eq_getElem h2] at e2
    simpa using e2
  rw [q1, q2]
  exact eqAt_V r1 r2 (List.all_eq_true.mp fx _ (List.mem_of_getElem? g1)) (List.all_eq_true.mp fy _ (List.mem_of_getElem? g2))
theorem op_ne_lst (hu : X.A.units < cLine) : OpR X (compareOp .NotEq) (rEqL X.K true) := by
  intro pins s σ H x y v u Q I rx ry h
  obtain ⟨p, q, xs, ys, rfl, rfl, hp, hq, fx, fy, k⟩ := h
  cases rx
  cases ry
  obtain ⟨us, r1, p1, _⟩ := I.list hp
  obtain ⟨ws, r2, p2, _⟩ := I.list hq
  have l1 := r1.length
  have l2 := r2.length
  by_cases e : xs.length = ys.length
  · refine SeqAt.RcNeAt.lists (e := fun j => eqV (xs.getD j .non) (ys.getD j .non)) p1.isList p2.isList (by rw [List.size_toArray, List.size_toArray]; omega) hu (fun j h1 h2 => eqAt_items r1 r2 fx fy j h1 h2) _ _ _ _ (fin_bl I k ?_)
    rw [List.size_toArray, ← l1, eqVs_all e]
    rfl
  · refine SeqAt.RcNeAt.lists_lengths p1.isList p2.isList (by rw [List.size_toArray, List.size_toArray]; simp; omega) hu _ _ _ _ (fin_bl I k ?_)
    rw [eqVs_len e]
    rfl

/-! ### isinstance(x, T); x is not True -/
def rIsI (K : PySem.W.Frag) : List V → Hp → VK → Prop := fun xs H Q => ∃ x T t b, xs = [x, .ty T] ∧ TyOf K H x t ∧ PySem.W.kitOne K t (.type T) = some b ∧ Q (.bl b) H
theorem call_isinst : CallR X (.builtin "isinstance") (rIsI X.K) := by
  intro pins s σ H xs us Q I r h
  obtain ⟨x, T, t, b, rfl, ty, e, q⟩ := h
  obtain ⟨u, w, rfl, rx, rT⟩ := Vals.two r
  cases (show w = Value.type T from rT)
  exact isinst_ok I rx ty e fun tk => ⟨.bl b, H, I.tok tk, rfl, q⟩
end
end L2
namespace L2
open PySem PySem.Spec PyProof.Rows
section
variable {X : Cx}
/-- x is not True, x is not False: of an int True, of a bool by its worth -/
def rNotB : R2 := fun x y H Q => ∃ b, y = .bl b ∧ ((∃ i, x = .int i ∧ Q (.bl true) H) ∨ (∃ c, x = .bl c ∧ Q (.bl (c != b)) H))
theorem op_notB : OpR X (compareOp .IsNot) rNotB := by
  intro pins s σ H x y v u Q I rx ry h
  obtain ⟨b, rfl, h⟩ := h
  cases (show u = Value.bool b from ry)
  rcases h with ⟨i, rfl, q⟩ | ⟨c, rfl, q⟩
  · obtain ⟨t, rfl⟩ := rx
    exact wpAny_pure ⟨.bl true, H, I, rfl, q⟩
  · cases (show v = Value.bool c from rx)
    exact isnot_bool ⟨.bl (c != b), H, I, rfl, q⟩

/-! ### a sep's join of a list of texts -/
theorem strsAre_of : ∀ {zs : List Str} {us : List Value}, Vals (zs.map V.str) us → StrsAre us zs
  | [], _, r => by cases r; exact .nil
  | z :: zs, _, r => by
    cases r with
    | cons r t =>
      obtain ⟨k, rfl⟩ := r
      exact .cons z k (strsAre_of t)
def rJoin (K : PySem.W.Frag) : V → List V → Hp → VK → Prop := fun x vs H Q => ∃ (sep : Str) (l : Addr) (zs : List Str), x = .str sep ∧ vs = [.ref l] ∧ SqL K H l (zs.map V.str) ∧ (zs.map (·.length)).sum + zs.length * sep.length ≤ 16777216 ∧ Q (.str (Txt.join sep zs)) H
theorem mt_join : MtR X "str.join" (rJoin X.K) := by
  intro pins s σ H x xs v us Q I rx rs h
  obtain ⟨sep, l, zs, rfl, rfl, hq, hs, q⟩ := h
  obtain ⟨t, rfl⟩ := rx
  obtain ⟨u, rfl, rl⟩ := Vals.one rs
  cases rl
  obtain ⟨its, r, pl, _⟩ := I.list hq
  exact join_list pl.isList (by simpa using strsAre_of r) hs fun t' k => ⟨.str (Txt.join sep zs), H, I.tok k, ⟨t', rfl⟩, q⟩

/-! ### for i, x in enumerate(list) -/
def Ite (K : PySem.W.Frag) (a : Addr) : It :=
  ⟨fun i H => ∃ xs x, SqL K H a xs ∧ xs[i]? = some x, fun i H x H' => ∃ t y, H t = none ∧ x = .ref t ∧ H' = upd H t (.tup [.int i, y]) ∧ ∀ xs, SqL K H a xs → xs[i]? = some y, fun i H => ∃ xs, SqL K H a xs ∧ xs.length ≤ i⟩
theorem turn_enum {P : Program} {w : World} {K : PySem.W.Frag} {elts : List Expr} {k1 : Nat} {tp : Pos} (a e it : Addr) (hne : e ≠ it) :
    Turn P w K (.Tuple elts k1 tp) (Ite K a) [e, it] e (fun i h => (∃ old, IsEnum h e it ((i : Nat) : Int) old) ∧ h.IsListIter it a i) where
  mem := by simp
  obj := fun i h st b hb => by
    obtain ⟨⟨old, h1⟩, o, h2, _, h3⟩ := st
    rcases List.mem_cons.mp hb with rfl | hb
    · exact ⟨_, h1, fun v z => by cases z⟩
    · have e2 : b = it := by simpa using hb
      subst e2
      exact ⟨o, h2, fun v z => by rw [h3] at z; cases z⟩
  keep := fun i h h' st k => by
    obtain ⟨⟨old, h1⟩, h2⟩ := st
    exact ⟨⟨old, k e (by simp) _ h1⟩, h2.at fun o q => k it (by simp) o q⟩
  item := by
    intro X hP hw hK hc i pins s σ H E I hf st hg
    subst hP hw hK
    obtain ⟨⟨old, he⟩, hit⟩ := st
    obtain ⟨xs, x, hq, hx⟩ := hg
    obtain ⟨its, rv, p, hz⟩ := I.list hq
    obtain ⟨u, hu, ru⟩ := rv.get hx
    have fe := hf e (by simp)
    have fi := hf it (by simp)
    refine wpAny_pyNext_enum_item he hit p.isList (x := u) (by simpa using hu) hne fun h1 eo hit1 tup hs1 kp => ⟨_, rfl, ?_⟩
    refine wpAny_letOwnedTupleGo_enum eo fun h2 he2 sb => ?_
    have lte := Heap.lt_size he
    have ne2 : s.heap.objs.size ≠ e := Nat.ne_of_gt lte
    have tup2 : h2.get? s.heap.objs.size = some { cls := .type "tuple", data := .seq #[.int i s.toks, u] } := sb.extBut _ _ ne2 tup
    have kp2 : ∀ b o, b ≠ e → b ≠ it → s.heap.get? b = some o → h2.get? b = some o := fun b o z1 z2 q => sb.extBut b o z1 (kp b o z1 z2 q)
    have hfr : H s.heap.objs.size = none := I.hok.fresh (Nat.le_refl _)
    have nt : ∀ b o, H b = some o → b ≠ e ∧ b ≠ it := fun b o q => ⟨fun z => (by rw [z, fe.1] at q; cases q), fun z => (by rw [z, fi.1] at q; cases q)⟩
    have hok2 : HOk X.prog X.w (upd H s.heap.objs.size (.tup [.int i, x])) h2 := fun b o q => by
      by_cases hb : b = s.heap.objs.size
      · subst hb
        rw [upd_same] at q
        cases q
        have l2 : (2 : Nat) ≤ sizeLine := by rw [sizeLine_eq]; decide
        exact ⟨l2, [.int i s.toks, u], .cons ⟨_, rfl⟩ (.cons ru .nil), ⟨_, tup2, rfl, _, rfl⟩⟩
      · rw [upd_ne hb] at q
        refine (I.hok b o q).stay (fun c v hc z => ?_) (fun c z => by rw [upd_ne (ne_of_none z hfr)]; exact z) fun c ys z => by rw [upd_ne (ne_of_none z hfr)]; exact z
        rcases hc with hc | hc
        · subst hc
          exact kp2 c v (nt c _ q).1 (nt c _ q).2 z
        · exact kp2 c v (nt c _ hc).1 (nt c _ hc).2 z
    have I2 : Inv X pins σ (upd H s.heap.objs.size (.tup [.int i, x])) { s with heap := h2, toks := s.toks + 1 } := by
      refine I.step (g' := s.gens) (d' := s.drawn) (t' := s.toks + 1) (ch := [e, it]) (fun b hb => ?_) (fun b o _ _ hc q _ => kp2 b o (fun z => hc (by simp [z])) (fun z => hc (by simp [z])) q)
        (fun b o _ _ hc q _ => ⟨o.slots, kp2 b o (fun z => hc (by simp [z])) (fun z => hc (by simp [z])) q⟩) (fun b o _ q n => by rw [upd_ne (Nat.ne_of_lt (Heap.lt_size q))]; exact n)
        (fun b o hc q => ⟨o, kp2 b o (fun z => hc (by simp [z])) (fun z => hc (by simp [z])) q⟩) (fun b ys q => by rw [upd_ne (ne_of_none q hfr)]; exact q) (fun b o u q => by rw [upd_ne (ne_of_none q hfr)]; exact q)
        (fun b ps q => ⟨#[], by rw [upd_ne (ne_of_none q hfr), q]; simp⟩) (fun m hm => ?_) hok2 I.bare
      · rcases List.mem_cons.mp hb with rfl | hb
        · exact ⟨fe.2.2.2.1, fe.2.1, fe.2.2.2.2.1, fe.2.2.2.2.2⟩
        · have e2 : b = it := by simpa using hb
          subst e2
          exact ⟨fi.2.2.2.1, fi.2.1, fi.2.2.2.2.1, fi.2.2.2.2.2⟩
      · obtain ⟨o, es, ep, ho, r⟩ := hm
        exact ⟨o, es, ep, kp2 _ o (Ne.symm fe.2.1) (Ne.symm fi.2.1) ho, r⟩
    refine ⟨.ref s.heap.objs.size, _, I2, rfl, ⟨_, x, hfr, rfl, rfl, fun ys hy => by rw [I.list_inj hy hq]; exact hx⟩, ⟨⟨u, ?_⟩, ?_⟩, fun b hb => ?_⟩
    · have := he2
      rw [show ((i : Nat) : Int) + 1 = ((i + 1 : Nat) : Int) by omega] at this
      exact this
    · obtain ⟨o, h1, h2'⟩ := hit1
      exact ⟨o, sb.extBut _ _ (Ne.symm hne) h1, h2'⟩
    · have hb0 := (hf b hb).1
      have : b ≠ s.heap.objs.size := by
        rcases List.mem_cons.mp hb with rfl | hb
        · exact Ne.symm ne2
        · have e2 : b = it := by simpa using hb
          subst e2
          obtain ⟨o, h1, _⟩ := hit
          exact Nat.ne_of_lt (Heap.lt_size h1)
      rw [upd_ne this]
      exact hb0
  done := by
    intro X hP hw hK hc i pins s σ H E I hf st hg
    subst hP hw hK
    obtain ⟨⟨old, he⟩, hit⟩ := st
    obtain ⟨xs, hq, hx⟩ := hg
    obtain ⟨its, rv, p, hz⟩ := I.list hq
    obtain ⟨f0, f1, f2, f3, f4, f5⟩ := hf it (by simp)
    have hl := rv.length
    exact wpAny_pyNext_enum_end (I.ok.hd hc) he hit p.isList (by simp; omega) fun h' eb => ⟨rfl, I.turned (t' := s.toks) (fun b o hb e => eb b o hb e) f0 f1 f3 f4 f5⟩
  self := fun A i s Q E st h => by
    obtain ⟨⟨old, he⟩, _⟩ := st
    exact wpAny_pyIter_enum he h

def iEnum (K : PySem.W.Frag) (ta : TA) : TI := fun σ H R => ta σ H fun vs H1 => ∃ a, vs = [.ref a] ∧ (∃ xs, SqL K H1 a xs) ∧ R (Ite K a) H1
theorem pi_enum {elts : List Expr} {k1 : Nat} {tp : Pos} {l : Expr} {ta : TA} {p pos : Pos} (hg : Gl X "enumerate") (hm : X.mg "enumerate" = none) (ha : PA X [l] ta) (hs : starEach [l] X.env = [(false, eval l X.env)] := by rfl) :
    PI X (.Tuple elts k1 tp) (.Call (.Name "enumerate" p) [l] [] pos) (iEnum X.K ta) := by
  intro pins s σ H R I h
  refine Call_ (ld_blt I hg hm boot_enumerate (PyProof.Rows.callWith_type1 (thn (ha pos pins s σ H _ I h) fun us s1 ⟨vs, H1, I1, r1, q1⟩ => ?_) hs rfl))
  obtain ⟨a, e, ⟨xs, hq⟩, q⟩ := q1
  subst e
  obtain ⟨u, rfl, rl⟩ := Vals.one r1
  cases rl
  obtain ⟨its, rv, pl, hz⟩ := I1.list hq
  refine call_enumerate_list pl.isList fun h' he hit hsz kp => ?_
  refine wpAny_pyIter_enum he ?_
  have I2 : Inv X pins σ H1 { s1 with heap := h' } := I1.kept (t' := s1.toks) kp
  refine ⟨s1.heap.objs.size + 1, [s1.heap.objs.size + 1, s1.heap.objs.size], _, _, H1, rfl, I2, turn_enum a _ _ (Nat.succ_ne_self _), ⟨⟨_, he⟩, hit⟩, fun b hb => ?_, q⟩
  rcases List.mem_cons.mp hb with rfl | hb
  · exact I1.fpOk (Nat.le_succ _) (I1.hok.fresh (Nat.le_succ _))
  · have e2 : b = s1.heap.objs.size := by simpa using hb
    subst e2
    exact I1.fpOk (Nat.le_refl _) (I1.hok.fresh (Nat.le_refl _))
/-- a loop over enumerate of a list that the body leaves as it is -/
theorem for_enum {K : PySem.W.Frag} {a : Addr} {xs : List V} {g : TG} {tb : TS} {D : Ends} {σ : St} {H : Hp} (Pv : Nat → St → Hp → Prop) (h0 : Pv 0 σ H) (hl : ∀ i σ H, i ≤ xs.length → Pv i σ H → SqL K H a xs)
    (hs : ∀ i x t σ H, xs[i]? = some x → H t = none → Pv i σ H → g (.ref t) σ (upd H t (.tup [.int (i : Nat), x])) fun σ2 H2 => tb { D with nx := Pv (i + 1), ct := Pv (i + 1), bk := D.nx } σ2 H2) (hd : ∀ σ H, Pv xs.length σ H → D.nx σ H) :
    ∃ W : Nat → Nat → St → Hp → Prop, (∃ m, W 0 m σ H) ∧ ∀ i m σ H, W i m σ H →
      ((Ite K a).stop i H ∧ D.nx σ H) ∨ ((Ite K a).go i H ∧ ∃ N : St → Hp → Prop, (∀ σ' H', N σ' H' → ∃ m', m' < m ∧ W (i + 1) m' σ' H') ∧ ∀ x H', (Ite K a).yld i H x H' → g x σ H' fun σ2 H2 => tb { D with nx := N, ct := N, bk := D.nx } σ2 H2) := by
  refine ⟨fun i m σ H => m = xs.length - i ∧ i ≤ xs.length ∧ Pv i σ H, ⟨xs.length, by simp, Nat.zero_le _, h0⟩, ?_⟩
  rintro i m σ H ⟨rfl, hi, p⟩
  have q := hl i σ H hi p
  by_cases hlt : i < xs.length
  · refine .inr ⟨⟨xs, xs[i], q, by simp [hlt]⟩, Pv (i + 1), fun σ' H' p' => ⟨xs.length - (i + 1), by omega, rfl, hlt, p'⟩, fun x H' y => ?_⟩
    obtain ⟨t, z, ht, rfl, rfl, y⟩ := y
    exact hs i z t σ _ (y xs q) ht p
  · have e : i = xs.length := by omega
    subst e
    exact .inl ⟨⟨xs, q, Nat.le_refl _⟩, hd σ H p⟩

/-! ### for k in range(a, b, c): c written, above nought -/
def Its (lo c : Int) (n : Nat) : It := ⟨fun i _ => i < n, fun i H x H' => H' = H ∧ x = .int (lo + (i : Nat) * c), fun i _ => n ≤ i⟩
theorem turn_step {P : Program} {w : World} {K : PySem.W.Frag} {tg : Expr} (it : Addr) (lo c : Int) (n : Nat) : Turn P w K tg (Its lo c n) [it] it (fun i h => IsRangeIter h it (lo + (i : Nat) * c) ((n : Int) - (i : Nat)) c) where
  mem := by simp
  obj := fun i h st b hb => by
    have e : b = it := by simpa using hb
    subst e
    exact ⟨_, st, fun v z => by cases z⟩
  keep := fun i h h' st k => k it (by simp) _ st
  item := by
    intro X hP hw hK hc i pins s σ H E I hf st hg
    subst hP hw hK
    obtain ⟨f0, f1, f2, f3, f4, f5⟩ := hf it (by simp)
    have W := Walks.range (prog := X.prog) (w := X.w) (I.ok.hd hc) it lo c n
    refine W.item i s _ _ hg st fun v h' tk hv st' kk => ?_
    obtain ⟨t, rfl⟩ := hv
    have I1 : Inv X pins σ H { s with heap := h', toks := tk } := I.turned (fun b o hb e => kk b o (by simpa using hb) e) f0 f1 f3 f4 f5
    exact ⟨_, rfl, go_of (s := { s with heap := h', toks := tk }) (n := "range_iterator") st' rfl rfl (by decide) ⟨.int (lo + (i : Nat) * c), H, I1, ⟨t, rfl⟩, ⟨rfl, rfl⟩, st', fun b hb => (hf b hb).1⟩⟩
  done := by
    intro X hP hw hK hc i pins s σ H E I hf st hg
    subst hP hw hK
    obtain ⟨f0, f1, f2, f3, f4, f5⟩ := hf it (by simp)
    exact wpAny_pyNext_range_end (I.ok.hd hc) st (by have : n ≤ i := hg; omega) fun h' eb => ⟨rfl, I.turned (t' := s.toks) (fun b o hb e => eb b o hb e) f0 f1 f3 f4 f5⟩
  self := fun _ _ _ _ _ st h => wpAny_pyIter_rangeiter st h
/-- how many: a, a + 2, .. below b -/
def half2 (a b : Int) : Nat := ((b - a + 1) / 2).toNat
theorem size_two (a b : Int) : Builtin.Range.rangeSize a b 2 = (half2 a b : Int) := by
  unfold Builtin.Range.rangeSize half2
  simp only [show (2 : Int) > 0 by decide, if_true]
  split <;> omega
theorem small_two {a b : Int} (h1 : -1048576 ≤ a) (h2 : a ≤ 1048576) (h3 : -1048576 ≤ b) (h4 : b ≤ 1048576) : Builtin.Range.small a b 2 = true := by
  unfold Builtin.Range.small
  rw [size_two]
  unfold half2
  simp only [Builtin.Range.rangeFitsLong, Bool.and_eq_true, Bool.or_eq_true, decide_eq_true_eq, beq_iff_eq, show (2 : Int) > 0 by decide, if_true]
  omega
def iRng3 (ta : TA) : TI := fun σ H R => ta σ H fun vs H1 => ∃ i j : Int, vs = [.int i, .int j, .int 2] ∧ (-1048576 ≤ i ∧ i ≤ 1048576 ∧ -1048576 ≤ j ∧ j ≤ 1048576) ∧ R (Its i 2 (half2 i j)) H1
theorem pi_range3 {tg a b c : Expr} {ta : TA} {p pos : Pos} (hg : Gl X "range") (hm : X.mg "range" = none) (ha : PA X [a, b, c] ta) (hs : starEach [a, b, c] X.env = [(false, eval a X.env), (false, eval b X.env), (false, eval c X.env)] := by rfl)
    (hs2 : starEach [b, c] X.env = [(false, eval b X.env), (false, eval c X.env)] := by rfl) : PI X tg (.Call (.Name "range" p) [a, b, c] [] pos) (iRng3 ta) := by
  intro pins s σ H R I h
  refine Call_ (ld_blt I hg hm boot_range (PyProof.Rows.callWith_type1 (thn (ha pos pins s σ H _ I h) fun us s1 ⟨vs, H1, I1, r1, q1⟩ => ?_) (by rw [hs, hs2]) (by rw [hs2]; rfl)))
  obtain ⟨i, j, e, ⟨q1, q2, q3, q4⟩, q⟩ := q1
  subst e
  cases r1 with
  | cons r rr =>
    cases rr with
    | cons r' rr =>
      cases rr with
      | cons r'' rr =>
        cases rr
        obtain ⟨t, rfl⟩ := r
        obtain ⟨t', rfl⟩ := r'
        obtain ⟨t'', rfl⟩ := r''
        refine call_range_3 (by decide) ?_ (Or.inl (PyProof.noPylong_small (by decide)))
        refine wpAny_pyIter_range (IsRange.new ..) (small_two q1 q2 q3 q4) ?_
        have I2 : Inv X pins σ H1 { s1 with heap := s1.heap.push { cls := .type "range", data := .fields #[.int i t, .int j t', .int 2 t''] } } := I1.kept (t' := s1.toks) fun b o e => Heap.get?_push_of_some _ e
        refine ⟨(s1.heap.push { cls := .type "range", data := .fields #[.int i t, .int j t', .int 2 t''] }).objs.size, [(s1.heap.push { cls := .type "range", data := .fields #[.int i t, .int j t', .int 2 t''] }).objs.size], _, _, H1, rfl,
          I2.kept (t' := s1.toks) fun b o e => Heap.get?_push_of_some _ e, turn_step _ i 2 (half2 i j), ?_, fun b hb => ?_, q⟩
        · have e1 : i + ((0 : Nat) : Int) * 2 = i := by simp
          have e2 : ((half2 i j : Nat) : Int) - ((0 : Nat) : Int) = Builtin.Range.rangeSize i j 2 := by rw [size_two]; simp
          show IsRangeIter _ _ (i + ((0 : Nat) : Int) * 2) (((half2 i j : Nat) : Int) - ((0 : Nat) : Int)) 2
          rw [e1, e2]
          exact Heap.get?_push_size _ rfl
        · have e : b = (s1.heap.push { cls := .type "range", data := .fields #[.int i t, .int j t', .int 2 t''] }).objs.size := by simpa using hb
          subst e
          exact I2.fpOk (Nat.le_refl _) (I2.hok.fresh (Nat.le_refl _))
theorem for_step {lo c : Int} {n : Nat} {g : TG} {tb : TS} {D : Ends} {σ : St} {H : Hp} (Pv : Nat → St → Hp → Prop) (h0 : Pv 0 σ H)
    (hs : ∀ (i : Nat) σ H, i < n → Pv i σ H → g (.int (lo + (i : Nat) * c)) σ H fun σ2 H2 => tb { D with nx := Pv (i + 1), ct := Pv (i + 1), bk := D.nx } σ2 H2) (hd : ∀ σ H, Pv n σ H → D.nx σ H) :
    ∃ W : Nat → Nat → St → Hp → Prop, (∃ m, W 0 m σ H) ∧ ∀ i m σ H, W i m σ H →
      ((Its lo c n).stop i H ∧ D.nx σ H) ∨ ((Its lo c n).go i H ∧ ∃ N : St → Hp → Prop, (∀ σ' H', N σ' H' → ∃ m', m' < m ∧ W (i + 1) m' σ' H') ∧ ∀ x H', (Its lo c n).yld i H x H' → g x σ H' fun σ2 H2 => tb { D with nx := N, ct := N, bk := D.nx } σ2 H2) := by
  refine ⟨fun i m σ H => m = n - i ∧ i ≤ n ∧ Pv i σ H, ⟨n, by simp, Nat.zero_le _, h0⟩, ?_⟩
  rintro i m σ H ⟨rfl, hi, p⟩
  by_cases hlt : i < n
  · refine .inr ⟨hlt, Pv (i + 1), fun σ' H' p' => ⟨n - (i + 1), by omega, rfl, hlt, p'⟩, fun x H' y => ?_⟩
    obtain ⟨e, y⟩ := y
    subst e y
    exact hs i σ _ hlt p
  · have e : i = n := by omega
    subst e
    exact .inl ⟨Nat.le_refl _, hd σ H p⟩
end
end L2
namespace L2
open PySem PySem.Spec PyProof.Rows
/-! ### a list comprehension over one name -/
theorem clos_go (env : Env) : ∀ (names : List (Str × NameKind)) (acc : List (Str × Addr)), (∀ y ∈ names, y.2 = .free → ∃ c, env.cells.lookup y.1 = some c) → (∀ y c, acc.lookup y = some c → env.cells.lookup y = some c) →
    ∃ cl : List (Str × Addr), (forIn names acc fun (x : Str × NameKind) cs => if (x.2 == NameKind.free) = true then do
        let c ← cellOf env x.1
        pure (ForInStep.yield ((x.1, c) :: cs))
      else pure (ForInStep.yield cs) : Sem (List (Str × Addr))) = pure cl ∧ (∀ y c, cl.lookup y = some c → env.cells.lookup y = some c) ∧ (∀ y, (acc.lookup y).isSome = true → (cl.lookup y).isSome = true) ∧ ∀ y, (y, NameKind.free) ∈ names → (cl.lookup y).isSome = true
  | [], acc, _, ha => ⟨acc, rfl, ha, fun _ h => h, fun _ h => absurd h (by simp)⟩
  | (n, k) :: r, acc, hf, ha => by
    rw [List.forIn_cons]
    by_cases hk : (k == NameKind.free) = true
    · have hk' : k = .free := by simpa using hk
      subst hk'
      obtain ⟨c, hc⟩ := hf (n, .free) List.mem_cons_self rfl
      have ha' : ∀ y d, ((n, c) :: acc).lookup y = some d → env.cells.lookup y = some d := fun y d h => by
        rw [List.lookup_cons] at h
        cases e : y == n with
        | true =>
          simp only [e] at h
          have e' : y = n := by simpa using e
          cases h
          rw [e']
          exact hc
        | false =>
          simp only [e] at h
          exact ha y d h
      obtain ⟨cl, h1, h2, h3, h4⟩ := clos_go env r ((n, c) :: acc) (fun y hy => hf y (List.mem_cons_of_mem _ hy)) ha'
      have hin : (((n, c) :: acc).lookup n).isSome = true := by rw [List.lookup_cons]; simp
      refine ⟨cl, ?_, h2, fun y hy => h3 y ?_, fun y hy => ?_⟩
      · have e : cellOf env n = pure c := by unfold cellOf; rw [hc]
        simp only [hk, if_true, e, pure_bind]
        exact h1
      · rw [List.lookup_cons]
        cases e : y == n with
        | true => rfl
        | false => exact hy
      · rcases List.mem_cons.mp hy with e | hy
        · cases e
          exact h3 _ hin
        · exact h4 y hy
    · obtain ⟨cl, h1, h2, h3, h4⟩ := clos_go env r acc (fun y hy => hf y (List.mem_cons_of_mem _ hy)) ha
      refine ⟨cl, ?_, h2, h3, fun y hy => ?_⟩
      · simp only [hk, if_false, pure_bind, Bool.false_eq_true]
        exact h1
      · rcases List.mem_cons.mp hy with e | hy
        · cases e
          exact absurd rfl hk
        · exact h4 y hy
theorem clos_of {scope : Scope} {env : Env} (hf : ∀ y ∈ scope.names, y.2 = .free → ∃ c, env.cells.lookup y.1 = some c) :
    ∃ cl, closureFor scope env = pure cl ∧ (∀ y c, cl.lookup y = some c → env.cells.lookup y = some c) ∧ ∀ y, (y, NameKind.free) ∈ scope.names → ∃ c, cl.lookup y = some c := by
  obtain ⟨cl, h1, h2, _, h4⟩ := clos_go env scope.names [] hf fun y c h => by cases h
  refine ⟨cl, ?_, h2, fun y hy => Option.isSome_iff_exists.mp (h4 y hy)⟩
  show ((forIn scope.names [] fun (x : Str × NameKind) cs => if (x.2 == NameKind.free) = true then do
        let c ← cellOf env x.1
        pure (ForInStep.yield ((x.1, c) :: cs))
      else pure (ForInStep.yield cs) : Sem (List (Str × Addr))) >>= fun cs => pure cs) = pure cl
  rw [h1]
  rfl

/-- the block's own context -/
def Cx.comp (X : Cx) (scope : Scope) (cl : List (Str × Addr)) (N' : List Str) (s₃ : Shared) (H₃ : Hp) (fp : List Addr) : Cx :=
  { X with N := N', s₀ := s₃, H₀ := H₃, env := compEnvC scope cl s₃.heap.objs.size X.env, outer := X.stack, ex := fp, fn := fun _ => false, pn := [], xe := fun _ _ => False }
/-- the block's tests -/
def PIfs (X : Cx) (ifs : List Expr) (t : TT) : Prop :=
  ∀ (pins : List (Addr × Obj)) (s : Shared) (σ : St) (H : Hp) (Q : Bool → Hp → Prop), Inv X pins σ H s → t σ H Q →
    wpAny (model X.prog X.w) X.A (forIn ifs true fun c r => if r = true then do let ok ← isTrue c X.env (eval c X.env); pure (ForInStep.yield ok) else pure (ForInStep.yield r)) (TP X pins σ Q) X.xe s
def tAlw : TT := fun _ H Q => Q true H
theorem pifs_nil {X : Cx} : PIfs X [] tAlw := fun _ _ _ H _ I h => wpAny_pure ⟨H, I, h⟩
theorem pifs_one {X : Cx} {c : Expr} {t : TT} (h : PT X c t) : PIfs X [c] t := fun pins s σ H Q I hq => wpAny_tests_one (h pins s σ H Q I hq)

def capV (σ : St) (cap : List Nat) : St := cap.map fun k => (σ[k]?).join
/-- the block's turns: J gives the items, l is the list that grows -/
def LCG (J : It) (l : Addr) (σ' : St) (tt : TT) (te : TE) (Q : VK) (H1 : Hp) : Prop := ∃ W : Nat → Nat → Hp → Prop, (∃ m, W 0 m (upd H1 l (.lst []))) ∧ ∀ i m H2, W i m H2 →
  (J.stop i H2 ∧ Q (.ref l) H2) ∨ (J.go i H2 ∧ ∀ x H3, J.yld i H2 x H3 → tt (some x :: σ') H3 fun b H4 => if b = true then te (some x :: σ') H4 fun y H5 => ∃ ys m', H5 l = some (.lst ys) ∧ ys.length < sizeLine ∧ m' < m ∧ W (i + 1) m' (upd H5 l (.lst (ys ++ [y])))
    else ∃ m', m' < m ∧ W (i + 1) m' H4)
def tLC (cap : List Nat) (wi : TI) (tt : TT) (te : TE) : TE := fun σ H Q => wi σ H fun J H1 => ∀ l, H1 l = none → LCG J l (capV σ cap) tt te Q H1

section
variable {X : Cx}
theorem relabel_free {scope : Scope} {env : Env} (hcell : ∀ y ∈ scope.names, y.2 ≠ .cell) {y : Str} (h : (relabel scope env).names.lookup y = some .cell ∨ (relabel scope env).names.lookup y = some .free) : (y, NameKind.free) ∈ scope.names := by
  have key : ∀ k, (relabel scope env).names.lookup y = some k → k ≠ .local → (k = .cell ∨ k = .free) → (y, NameKind.free) ∈ scope.names := fun k hk _ ho => by
    have hm := PySem.mem_of_lookup hk
    unfold relabel at hm
    obtain ⟨⟨n, k'⟩, hn, e⟩ := List.mem_map.mp hm
    dsimp only at e
    split at e
    · rename_i hc
      cases e
      simp only [Bool.and_eq_true, beq_iff_eq] at hc
      rw [hc.1.1] at hn
      exact hn
    · cases e
      rcases ho with rfl | rfl
      · exact absurd rfl (hcell _ hn)
      · exact hn
  rcases h with h | h
  · exact key _ h (by decide) (.inl rfl)
  · exact key _ h (by decide) (.inr rfl)

theorem comp_ok {pins : List (Addr × Obj)} {σ : St} {H : Hp} {s : Shared} {scope : Scope} {cl : List (Str × Addr)} {N' : List Str} {fp : List Addr} (I : Inv X pins σ H s) (hf : ∀ b ∈ fp, FpOk X pins H b) (hlt : ∀ b ∈ fp, b < s.heap.objs.size)
    (hkind : scope.kind = .function) (hcell : ∀ y ∈ scope.names, y.2 ≠ .cell) (ca : ∀ y c, cl.lookup y = some c → X.env.cells.lookup y = some c) (cb : ∀ y, (y, NameKind.free) ∈ scope.names → ∃ c, cl.lookup y = some c) :
    (X.comp scope cl N' s H fp).Ok where
  mod := I.mod
  kind := hkind
  glob := I.ok.glob
  blt := I.ok.blt
  above := Nat.le_refl _
  inj := fun x y c h1 h2 => I.ok.inj x y c (ca x c h1) (ca y c h2)
  has := fun x hx => cb x (relabel_free hcell hx)
  cab := fun x c h => by cases h
  hd := I.ok.hd
  frames := I.ok.frames
  stk := .inl rfl
  exf := fun b hb => ⟨Nat.ne_of_lt (hlt b hb), fun x c h => (hf b hb).2.2.2.2.1 x c (ca x c h)⟩
  bs := I.bs
  bsz := Nat.le_trans I.ok.bsz I.sz
  noex := fun b o e hb => by
    rcases (hf b hb).2.2.2.1 with z | z
    · exact I.ok.noex b o e z
    · exact absurd (Nat.lt_of_lt_of_le (Heap.lt_size e) (Nat.le_trans I.ok.bsz z)) (Nat.lt_irrefl _)
  exfs := fun b hb hs => by
    rcases List.mem_cons.mp (I.stkSub b hs) with z | z
    · exact (hf b hb).2.1 z
    · exact (hf b hb).2.2.1 z
  funs := I.stack
  frf := I.stkFree

theorem inv_comp {pins : List (Addr × Obj)} {σ : St} {H : Hp} {s : Shared} {scope : Scope} {cl : List (Str × Addr)} {x : Str} {cap : List Nat} {caps : List Str} {fp : List Addr} {h' : Heap} {t' : Nat} (I : Inv X pins σ H s) (ok : (X.comp scope cl (x :: caps) s H fp).Ok)
    (ca : ∀ y c, cl.lookup y = some c → X.env.cells.lookup y = some c) (cb : ∀ y, (y, NameKind.free) ∈ scope.names → ∃ c, cl.lookup y = some c) (hcell : ∀ y ∈ scope.names, y.2 ≠ .cell)
    (hcap : cap.map (fun k => X.N[k]?) = caps.map some) (hvis : ∀ y ∈ caps, ((relabel scope X.env).names.lookup y = some .cell ∨ (relabel scope X.env).names.lookup y = some .free) ∧ (X.env.kindOf y = some .cell ∨ X.env.kindOf y = some .free))
    (hn : h'.Ns s.heap.objs.size fun _ => none) (kp : ∀ b o, s.heap.get? b = some o → h'.get? b = some o) : Inv (X.comp scope cl (x :: caps) s H fp) [] (none :: capV σ cap) H { s with heap := h', toks := t' } := by
  have hlen : cap.length = caps.length := by
    have := congrArg List.length hcap
    simpa using this
  refine ⟨ok, rfl, I.bare, Un.kept kp, ⟨_, hn, fun i y v h1 h2 h3 => ?_⟩, fun y c h => ?_, I.hok.fresh (Nat.le_refl _), fun y c h => I.freeC y c (ca y c h), fun p hp => absurd (show p ∈ ([] : List (Addr × Obj)) from hp) (by simp), I.hok.kept kp, ?_⟩
  · cases i with
    | zero => exact absurd h2 (by simp)
    | succ j =>
      have h1' : caps[j]? = some y := h1
      have h2' : (capV σ cap)[j]? = some (some v) := h2
      unfold capV at h2'
      rw [List.getElem?_map] at h2'
      cases hk : cap[j]? with
      | none => rw [hk] at h2'; cases h2'
      | some k =>
        rw [hk] at h2'
        have h2'' : (σ[k]?).join = some v := by simpa using h2'
        have hN : X.N[k]? = some y := by
          have := congrArg (fun l => l[j]?) hcap
          simp only [List.getElem?_map, hk, h1', Option.map_some] at this
          exact Option.some.inj this
        have hσ : σ[k]? = some (some v) := by
          cases e : σ[k]? with
          | none => rw [e] at h2''; cases h2''
          | some o => rw [e] at h2''; exact congrArg some h2''
        obtain ⟨hv1, hv2⟩ := hvis y (List.mem_of_getElem? h1')
        obtain ⟨m, _, hl⟩ := I.loc
        obtain ⟨u, r, l⟩ := hl k y v hN hσ (by
          rcases hv2 with z | z
          · exact .inr (.inl z)
          · exact .inr (.inr z))
        refine ⟨u, r, ?_⟩
        obtain ⟨c, hc⟩ := cb y (relabel_free hcell hv1)
        rcases l with ⟨z, _⟩ | ⟨_, c', hc', hcl⟩
        · rcases hv2 with q | q <;> (rw [z] at q; cases q)
        · have e := ca y c hc
          rw [hc'] at e
          have e2 : c' = c := Option.some.inj e
          rw [e2] at hcl
          obtain ⟨o, ho, hd⟩ := hcl
          exact .inr ⟨hv1, c, hc, o, kp _ _ ho, hd⟩
  · obtain ⟨v, o, ho, hd⟩ := I.cell y c (ca y c h)
    exact ⟨v, o, kp _ _ ho, hd⟩
  · show (none :: capV σ cap).length = (x :: caps).length
    simp [capV, hlen]

theorem pe_lcomp {elt iter : Expr} {x : Str} {px : Pos} {ifs : List Expr} {scope : Scope} {pos : Pos} {cap : List Nat} {caps : List Str} {wi : TI} {tt : TT} {te : TE} (hc : X.calm = true) (hi : PI X (.Name x px) iter wi) (hkind : scope.kind = .function)
    (hnames : ∀ y ∈ scope.names, y.2 = .local → scope.names.lookup y.1 = some .local) (hcell : ∀ y ∈ scope.names, y.2 ≠ .cell) (hx : scope.names.lookup x = some .local)
    (hfree : ∀ y ∈ scope.names, y.2 = .free → X.env.kindOf y.1 = some .cell ∨ X.env.kindOf y.1 = some .free) (hcap : cap.map (fun k => X.N[k]?) = caps.map some)
    (hvis : ∀ y ∈ caps, ((relabel scope X.env).names.lookup y = some .cell ∨ (relabel scope X.env).names.lookup y = some .free) ∧ (X.env.kindOf y = some .cell ∨ X.env.kindOf y = some .free)) (nd : (x :: caps).Nodup)
    (body : ∀ cl s₃ H₃ fp, PIfs (X.comp scope cl (x :: caps) s₃ H₃ fp) ifs tt ∧ PE (X.comp scope cl (x :: caps) s₃ H₃ fp) elt te) (hs : ∀ v, foldedSetIterable iter X.env v = pure v := by intro _; rfl) :
    PE X (.ListComp elt [⟨.Name x px, iter, ifs, 0⟩] scope pos) (tLC cap wi tt te) := by
  intro pins s σ H Q I h
  rw [eval_ListComp]
  obtain ⟨cl, hcl, ca, cb⟩ := clos_of (scope := scope) (env := X.env) fun y hy hf => I.ok.has y.1 (hfree y hy hf)
  refine wpAny_comprehension_free (use := none) rfl hs hcl hkind hnames (thn (hi pins s σ H _ I h) fun v s1 h1 => thn h1 fun itv s2 h2 => ?_)
  obtain ⟨it, fp, tn, J, H2, e, I2, T, st2, f2, rest⟩ := h2
  subst e
  have hfr : H2 s2.heap.objs.size = none := I2.hok.fresh (Nat.le_refl _)
  obtain ⟨W, ⟨m0, w0⟩, turn⟩ := rest s2.heap.objs.size hfr
  refine wpAny_newObj_type (wpAny_newFunctionEnv hcell (by intro y hy; simp at hy) (fun h4 hn4 hs4 => ?_) hkind)
  dsimp only at hn4 hs4 ⊢
  -- the list that grows
  have I3 : Inv X pins σ (upd H2 s2.heap.objs.size (.lst [])) { s2 with heap := s2.heap.push { cls := .type "list", dict := none, data := .seq ([] : List Value).toArray } } :=
    I2.laid (t' := s2.toks) (o := .lst []) (fun b o e => Heap.get?_push_of_some _ e) (Nat.le_refl _) ⟨Nat.zero_le _, [], 0, .nil, Heap.get?_push_size _ rfl⟩
  generalize hs3 : ({ s2 with heap := s2.heap.push { cls := .type "list", dict := none, data := .seq ([] : List Value).toArray } } : Shared) = s3 at I3
  have hz3 : s3.heap = s2.heap.push { cls := .type "list", dict := none, data := .seq ([] : List Value).toArray } := by rw [← hs3]
  rw [← hz3] at hn4 hs4 ⊢
  have kp3 : ∀ b o, s3.heap.get? b = some o → h4.get? b = some o := fun b o e => hs4.extBut b o (Nat.ne_of_lt (Heap.lt_size e)) (Heap.get?_push_of_some _ e)
  have lt2 : ∀ b ∈ fp, b < s2.heap.objs.size := fun b hb => let ⟨o, e, _⟩ := T.obj 0 _ st2 b hb; Heap.lt_size e
  have hz : s3.heap.objs.size = s2.heap.objs.size + 1 := by rw [hz3, Heap.size_push]
  have lt3 : ∀ b ∈ fp, b < s3.heap.objs.size := fun b hb => by rw [hz]; exact Nat.lt_succ_of_lt (lt2 b hb)
  have f3 : ∀ b ∈ fp, FpOk X pins (upd H2 s2.heap.objs.size (.lst [])) b := fun b hb => ⟨by rw [upd_ne (Nat.ne_of_lt (lt2 b hb))]; exact (f2 b hb).1, (f2 b hb).2⟩
  have ok' : (X.comp scope cl (x :: caps) s3 (upd H2 s2.heap.objs.size (.lst [])) fp).Ok := comp_ok I3 f3 lt3 hkind hcell ca cb
  have I4 : Inv (X.comp scope cl (x :: caps) s3 (upd H2 s2.heap.objs.size (.lst [])) fp) [] (none :: capV σ cap) (upd H2 s2.heap.objs.size (.lst [])) { s3 with heap := h4, toks := s2.toks + ([] : List (Str × Value)).length } :=
    inv_comp I3 ok' ca cb hcell hcap hvis hn4 kp3
  have st4 : tn 0 h4 := T.keep _ _ _ st2 fun b hb o e => kp3 b o (by rw [hz3]; exact Heap.get?_push_of_some _ e)
  obtain ⟨bI, bE⟩ := body cl s3 (upd H2 s2.heap.objs.size (.lst [])) fp
  have stat : ∀ {H' : Hp}, (∀ b ∈ fp, H' b = none) → ∀ b ∈ fp, FpOk (X.comp scope cl (x :: caps) s3 (upd H2 s2.heap.objs.size (.lst [])) fp) [] H' b := fun {H'} hn b hb =>
    ⟨hn b hb, Nat.ne_of_lt (lt3 b hb), ok'.exfs b hb, .inl hb, fun y c hy => (f2 b hb).2.2.2.2.1 y c (ca y c hy), fun p hp => absurd (show p ∈ ([] : List (Addr × Obj)) from hp) (by simp)⟩
  have es : ({ s2 with heap := h4, toks := s2.toks + ([] : List (Str × Value)).length } : Shared) = { s3 with heap := h4, toks := s2.toks + ([] : List (Str × Value)).length } := by rw [← hs3]
  rw [es]
  -- what is wanted behind the loop
  have fin : ∀ {σ' : St} {H' : Hp} {s' : Shared}, Inv (X.comp scope cl (x :: caps) s3 (upd H2 s2.heap.objs.size (.lst [])) fp) [] σ' H' s' → Q (.ref s2.heap.objs.size) H' →
      compPost (model X.prog X.w) X.A X.xe none (EP X pins σ Q) (.ref s2.heap.objs.size) s3.heap.objs.size (.ok .next) s' := fun {σ' H' s'} J' q => by
    obtain ⟨m, hn, _⟩ := J'.loc
    refine ⟨m, hn, fun h' sb => ?_⟩
    have IX : Inv X pins σ H' s' := I3.call' J'.os J'.base J'.hok J'.bare fun b hb => ⟨(f3 b hb).2.2.2.1, (f3 b hb).2.1, (f3 b hb).2.2.2.2.1, (f3 b hb).2.2.2.2.2⟩
    have fc := I3.fpOk (Nat.le_refl _) (I3.hok.fresh (Nat.le_refl _))
    exact ⟨.ref s2.heap.objs.size, H', IX.turned (t' := s'.toks) (fun b o hb e => sb.extBut b o hb e) J'.free fc.2.1 fc.2.2.2.1 fc.2.2.2.2.1 fc.2.2.2.2.2, rfl, q⟩
  have loop : codeAny (model X.prog X.w) X.A (.compLoop (.ListComp elt [⟨.Name x px, iter, ifs, 0⟩] scope pos) 0 (.ref it) (.ref s2.heap.objs.size) (compEnvC scope cl s3.heap.objs.size X.env))
      (compPost (model X.prog X.w) X.A X.xe none (EP X pins σ Q) (.ref s2.heap.objs.size) s3.heap.objs.size) { s3 with heap := h4, toks := s2.toks + ([] : List (Str × Value)).length } := by
    refine codeAny_compLoop_tests (fun n s' => ∃ i o H', Inv (X.comp scope cl (x :: caps) s3 (upd H2 s2.heap.objs.size (.lst [])) fp) [] (o :: capV σ cap) H' s' ∧ tn i s'.heap ∧ (∀ b ∈ fp, H' b = none) ∧ W i n H') ?_ m0
      ⟨0, none, _, I4, st4, fun b hb => (f3 b hb).1, w0⟩
    rintro n s5 ⟨i, o, H5, I5, st5, fr5, w5⟩
    rcases turn i n H5 w5 with ⟨stop, qn⟩ | ⟨go, step⟩
    · refine thn (T.done (X.comp scope cl (x :: caps) s3 (upd H2 s2.heap.objs.size (.lst [])) fp) rfl rfl rfl hc i [] s5 _ H5 _ I5 (stat fr5) st5 stop) fun r s6 ⟨hr, I6⟩ => ?_
      subst hr
      exact fin I6 qn
    · refine thn (T.item (X.comp scope cl (x :: caps) s3 (upd H2 s2.heap.objs.size (.lst [])) fp) rfl rfl rfl hc i [] s5 _ H5 _ I5 (stat fr5) st5 go) fun r s6 ⟨u, hr, h6⟩ => ?_
      subst hr
      dsimp only
      show wpAny (model X.prog X.w) X.A ((pure () : Sem Unit) >>= fun _ => assign (.Name x px) (compEnvC scope cl s3.heap.objs.size X.env) u) _ _ s6
      refine wpAny_bind (thn h6 fun _ s7 ⟨y, H7, I7, r7, y7, st7, fr7⟩ => ?_)
      have I7' := I7.pinned (stat fr7) (T.obj _ _ st7)
      have pg := pg_name (X := X.comp scope cl (x :: caps) s3 (upd H2 s2.heap.objs.size (.lst [])) fp) (i := 0) (x := x) (pos := px) nd rfl (.inl (lookup_relabel_local hx)) (.inr (lookup_relabel_local hx))
      refine wpAny_mono (pg _ s7 _ H7 y u (fun σ' H' => σ' = some y :: capV σ cap ∧ H' = H7) I7' r7 ⟨rfl, rfl⟩) (fun _ s8 ⟨σ8, H8, I8, e8, e8'⟩ => ?_) fun _ _ f => f.elim
      subst e8 e8'
      have again : ∀ {H9 : Hp} {s9 : Shared} {m' : Nat}, Inv (X.comp scope cl (x :: caps) s3 (upd H2 s2.heap.objs.size (.lst [])) fp) ([] ++ pinsAt fp s7.heap) (some y :: capV σ cap) H9 s9 → m' < n → W (i + 1) m' H9 →
          ∃ m, m < n ∧ ∃ i o H', Inv (X.comp scope cl (x :: caps) s3 (upd H2 s2.heap.objs.size (.lst [])) fp) [] (o :: capV σ cap) H' s9 ∧ tn i s9.heap ∧ (∀ b ∈ fp, H' b = none) ∧ W i m H' := fun {H9 s9 m'} I9 hm w9 => by
        have pin9 := fun b hb o e => I9.pin (b, o) (List.mem_append_right _ (List.mem_append_right _ (mem_pinsAt hb e)))
        refine ⟨m', hm, i + 1, some y, H9, I9.unpinned, T.keep _ _ _ st7 fun b hb o e => (pin9 b hb o e).1, fun b hb => ?_, w9⟩
        obtain ⟨o, e, d⟩ := T.obj _ _ st7 b hb
        exact (pin9 b hb o e).2.1
      refine wpAny_mono (bI _ s8 _ H8 _ I8 (step y H8 y7)) (fun ok s9 ⟨H9, I9, q9⟩ => ?_) fun _ _ f => f.elim
      cases ok with
      | false =>
        rw [if_neg Bool.false_ne_true] at q9 ⊢
        obtain ⟨m', hm, w9⟩ := q9
        exact again I9 hm w9
      | true =>
        rw [if_pos rfl] at q9 ⊢
        refine wpAny_mono (bE _ s9 _ H9 _ I9 q9) (fun z s10 ⟨v10, H10, I10, r10, ys, m', hl, hsz, hm, w10⟩ => ?_) fun _ _ f => f.elim
        refine wpAny_mono (mt_append (X := X.comp scope cl (x :: caps) s3 (upd H2 s2.heap.objs.size (.lst [])) fp) _ s10 _ H10 (.ref s2.heap.objs.size) [v10] (.ref s2.heap.objs.size) [z] (fun _ H' => H' = upd H10 s2.heap.objs.size (.lst (ys ++ [v10]))) I10 rfl (.cons r10 .nil) ⟨_, ys, v10, rfl, rfl, hl, hsz, rfl⟩) (fun _ s11 ⟨_, H11, I11, _, e11⟩ => ?_) fun _ _ f => f.elim
        subst e11
        exact again I11 hm w10
  refine codeAny_compStart_list loop (T.self _ 0 _ _ _ st4 loop)
end
end L2
namespace L2
open PySem PySem.Spec PyProof.Rows
/-- a comprehension over a range, without tests: each item by its number; the heap may grow -/
theorem lc_range {lo : Int} {n : Nat} {l : Addr} {H1 : Hp} {te : TE} {σ' : St} {Q : VK} (f : Nat → V) (hn : n ≤ 1000) (hl : H1 l = none)
    (he : ∀ (i : Nat) H2 (R : VK), i < n → Same H1 H2 → (∀ H3, Same H2 H3 → R (f i) H3) → te (some (.int (lo + (i : Nat))) :: σ') H2 R) (hq : ∀ H2, Same H1 H2 → H2 l = some (.lst ((List.range n).map f)) → Q (.ref l) H2) :
    LCG (Itr lo n) l σ' tAlw te Q H1 := by
  refine ⟨fun i m H2 => m = n - i ∧ i ≤ n ∧ Same H1 H2 ∧ H2 l = some (.lst ((List.range i).map f)), ⟨n, by simp, Nat.zero_le _, fun b o e => by rw [upd_ne (ne_of_none e hl)]; exact e, upd_same⟩, ?_⟩
  rintro i m H2 ⟨rfl, hi, s2, h2⟩
  by_cases hlt : i < n
  · refine .inr ⟨hlt, fun x H3 y => ?_⟩
    obtain ⟨e, y⟩ := y
    subst e y
    unfold tAlw
    dsimp only
    rw [if_pos rfl]
    refine he i _ _ hlt s2 fun H4 s4 => ⟨_, n - (i + 1), s4 _ _ h2, ?_, by omega, rfl, hlt, fun b o e => ?_, ?_⟩
    · rw [List.length_map, List.length_range]
      exact small1000 (by omega)
    · rw [upd_ne (ne_of_none e hl)]
      exact s4 _ _ (s2 _ _ e)
    · rw [upd_same, List.range_succ, List.map_append]
      rfl
  · have e : i = n := by omega
    subst e
    exact .inl ⟨Nat.le_refl _, hq H2 s2 h2⟩
end L2
namespace L2
open PySem PySem.Spec PyProof.Rows
/-- a comprehension over a list, with a test -/
theorem lc_list_if {K : PySem.W.Frag} {a : Addr} {xs : List V} {l : Addr} {H1 : Hp} {tt : TT} {te : TE} {σ' : St} {Q : VK} (p : V → Bool) (f : V → V) (hn : xs.length ≤ 1000) (hl : H1 l = none) (hx : SqL K H1 a xs)
    (ht : ∀ x H2 (R : Bool → Hp → Prop), x ∈ xs → Same H1 H2 → (∀ H3, Same H2 H3 → R (p x) H3) → tt (some x :: σ') H2 R)
    (he : ∀ x H2 (R : VK), x ∈ xs → p x = true → Same H1 H2 → (∀ H3, Same H2 H3 → R (f x) H3) → te (some x :: σ') H2 R)
    (hq : ∀ H2, Same H1 H2 → H2 l = some (.lst ((xs.filter p).map f)) → Q (.ref l) H2) :
    LCG (Itl K a) l σ' tt te Q H1 := by
  refine ⟨fun i m H2 => m = xs.length - i ∧ i ≤ xs.length ∧ Same H1 H2 ∧ H2 l = some (.lst (((xs.take i).filter p).map f)), ⟨xs.length, by simp, Nat.zero_le _, fun b o e => by rw [upd_ne (ne_of_none e hl)]; exact e, by rw [upd_same]; rfl⟩, ?_⟩
  rintro i m H2 ⟨rfl, hi, s2, h2⟩
  by_cases hlt : i < xs.length
  · refine .inr ⟨⟨xs, xs[i], s2.seq hx, by simp [hlt]⟩, fun x H3 y => ?_⟩
    obtain ⟨e, y⟩ := y
    subst e
    have hxi := y xs (s2.seq hx)
    have hm := List.mem_of_getElem? hxi
    have tk : xs.take (i + 1) = xs.take i ++ [x] := by
      rw [List.take_succ, hxi]
      rfl
    refine ht x _ _ hm s2 fun H4 s4 => ?_
    have s14 : Same H1 H4 := s2.trans s4
    cases q : p x with
    | false =>
      rw [if_neg Bool.false_ne_true]
      refine ⟨xs.length - (i + 1), by omega, rfl, hlt, s14, ?_⟩
      rw [tk, List.filter_append, List.filter_cons, q, List.filter_nil]
      simp only [Bool.false_eq_true, if_false, List.append_nil]
      exact s4 _ _ h2
    | true =>
      rw [if_pos rfl]
      refine he x _ _ hm q s14 fun H5 s5 => ⟨_, xs.length - (i + 1), s5 _ _ (s4 _ _ h2), ?_, by omega, rfl, hlt, fun b o e => ?_, ?_⟩
      · rw [List.length_map]
        refine small1000 (Nat.le_trans (List.length_filter_le _ _) ?_)
        rw [List.length_take]
        omega
      · rw [upd_ne (ne_of_none e hl)]
        exact s5 _ _ (s14 _ _ e)
      · rw [upd_same, tk, List.filter_append, List.filter_cons, q, List.filter_nil, List.map_append]
        rfl
  · have e : i = xs.length := by omega
    subst e
    rw [List.take_length] at h2
    exact .inl ⟨⟨xs, s2.seq hx, Nat.le_refl _⟩, hq H2 s2 h2⟩
end L2
namespace L2
open PySem PySem.Spec PyProof.Rows
/-! ### lists of pairs as tables -/
section
variable {κ : Type} [DecidableEq κ]
def valV (kvs : List (κ × V)) (k : κ) : Option V := (kvs.find? fun kv => decide (kv.1 = k)).map (·.2)
/-- in its place, or at the end -/
def putK (kvs : List (κ × V)) (k : κ) (v : V) : List (κ × V) :=
  if (kvs.any fun kv => decide (kv.1 = k)) = true then kvs.map (fun kv => if kv.1 = k then (kv.1, v) else kv) else kvs ++ [(k, v)]
def dropK (kvs : List (κ × V)) (k : κ) : List (κ × V) := kvs.filter fun kv => decide (kv.1 ≠ k)

theorem valV_pos {p : κ × V} {r : List (κ × V)} {k : κ} (e : p.1 = k) : valV (p :: r) k = some p.2 := by simp [valV, List.find?_cons, e]
theorem valV_neg {p : κ × V} {r : List (κ × V)} {k : κ} (e : ¬ p.1 = k) : valV (p :: r) k = valV r k := by simp [valV, List.find?_cons, e]
theorem valV_any (k : κ) : ∀ kvs : List (κ × V), (kvs.any fun kv => decide (kv.1 = k)) = (valV kvs k).isSome
  | [] => rfl
  | p :: r => by
    rw [List.any_cons]
    by_cases e : p.1 = k
    · simp only [valV_pos e, decide_eq_true e, Bool.true_or, Option.isSome_some]
    · rw [valV_neg e, decide_eq_false e, Bool.false_or]; exact valV_any k r
theorem valV_map (k j : κ) (y : V) : ∀ kvs : List (κ × V), valV (kvs.map fun kv => if kv.1 = k then (kv.1, y) else kv) j = (valV kvs j).map fun x => if j = k then y else x
  | [] => rfl
  | p :: r => by
    have ih := valV_map k j y r
    rw [List.map_cons]
    by_cases h : p.1 = k
    · rw [if_pos h]
      by_cases e : p.1 = j
      · rw [valV_pos (p := (p.1, y)) e, valV_pos e, Option.map_some, if_pos (e.symm.trans h)]
      · rw [valV_neg (p := (p.1, y)) e, valV_neg e, ih]
    · rw [if_neg h]
      by_cases e : p.1 = j
      · rw [valV_pos (p := p) e, valV_pos e, Option.map_some, if_neg (fun z => h (e.trans z))]
      · rw [valV_neg (p := p) e, valV_neg e, ih]
theorem valV_snoc (k j : κ) (y : V) : ∀ kvs : List (κ × V), valV kvs k = none → valV (kvs ++ [(k, y)]) j = if j = k then some y else valV kvs j
  | [], _ => by
    by_cases e : k = j
    · rw [if_pos e.symm]; exact valV_pos (p := (k, y)) e
    · rw [if_neg (fun z => e z.symm)]; exact valV_neg (p := (k, y)) e
  | p :: r, hn => by
    rw [List.cons_append]
    have hk : ¬ p.1 = k := fun z => by rw [valV_pos z] at hn; cases hn
    rw [valV_neg hk] at hn
    have ih := valV_snoc k j y r hn
    by_cases e : p.1 = j
    · rw [valV_pos e, valV_pos e, if_neg (fun z => hk (e.trans z))]
    · rw [valV_neg e, valV_neg e, ih]
theorem valV_put (kvs : List (κ × V)) (k j : κ) (y : V) : valV (putK kvs k y) j = if j = k then some y else valV kvs j := by
  unfold putK
  by_cases a : (kvs.any fun kv => decide (kv.1 = k)) = true
  · rw [if_pos a, valV_map]
    rw [valV_any] at a
    by_cases e : j = k
    · obtain ⟨x, hx⟩ := Option.isSome_iff_exists.mp a
      rw [if_pos e, e, hx, Option.map_some, if_pos rfl]
    · rw [if_neg e]
      cases valV kvs j with
      | none => rfl
      | some x => rw [Option.map_some, if_neg e]
  · rw [if_neg a]
    refine valV_snoc k j y kvs ?_
    rw [valV_any] at a
    cases q : valV kvs k with
    | none => rfl
    | some x => rw [q] at a; exact (a rfl).elim
theorem length_putK (kvs : List (κ × V)) (k : κ) (v : V) : (putK kvs k v).length ≤ kvs.length + 1 := by
  unfold putK
  split
  · rw [List.length_map]; omega
  · rw [List.length_append, List.length_cons, List.length_nil]; omega
theorem RelO.isSome_eq {o : Option V} {u : Option Value} (r : RelO o u) : o.isSome = u.isSome := by
  cases o with
  | none => cases u with
    | none => rfl
    | some _ => exact (show False from r).elim
  | some _ => cases u with
    | none => exact (show False from r).elim
    | some _ => rfl
theorem RelO.getD {o : Option V} {u : Option Value} {d : V} {d' : Value} (r : RelO o u) (rd : RelV d d') : RelV (o.getD d) (u.getD d') := by
  cases o with
  | none => cases u with
    | none => exact rd
    | some _ => exact (show False from r).elim
  | some _ => cases u with
    | none => exact (show False from r).elim
    | some _ => exact r

/-- raw tables of the same keys -/
theorem KV.val {kvs : List (κ × V)} {vs : List (κ × Value)} (r : KV kvs vs) (k : κ) : RelO (valV kvs k) (valueAt vs k) := by
  unfold KV at r
  induction r with
  | nil => exact True.intro
  | @cons p q ps qs h t ih =>
    obtain ⟨h1, h2⟩ := h
    by_cases e : p.1 = k
    · have e' : q.1 = k := h1.symm.trans e
      have b : valueAt (q :: qs) k = some q.2 := by simp [valueAt, List.find?_cons, e']
      rw [valV_pos e, b]; exact h2
    · have e' : ¬ q.1 = k := fun z => e (h1.trans z)
      have b : valueAt (q :: qs) k = valueAt qs k := by simp [valueAt, List.find?_cons, e']
      rw [valV_neg e, b]; exact ih
theorem KV.any {kvs : List (κ × V)} {vs : List (κ × Value)} (r : KV kvs vs) (k : κ) : (kvs.any fun kv => decide (kv.1 = k)) = vs.any fun kv => decide (kv.1 = k) := by
  unfold KV at r
  induction r with
  | nil => rfl
  | cons h t ih => rw [List.any_cons, List.any_cons, ih, h.1]
theorem KV.repl {kvs : List (κ × V)} {vs : List (κ × Value)} (r : KV kvs vs) (k : κ) {y : V} {u : Value} (ry : RelV y u) :
    KV (kvs.map fun kv => if kv.1 = k then (kv.1, y) else kv) (vs.map fun kv => if kv.1 = k then (kv.1, u) else kv) := by
  unfold KV at r ⊢
  induction r with
  | nil => exact .nil
  | @cons p q ps qs h t ih =>
    rw [List.map_cons, List.map_cons]
    refine .cons ?_ ih
    obtain ⟨h1, h2⟩ := h
    by_cases e : p.1 = k
    · rw [if_pos e, if_pos (h1.symm.trans e)]; exact ⟨h1, ry⟩
    · rw [if_neg e, if_neg (fun z => e (h1.trans z))]; exact ⟨h1, h2⟩
theorem KV.put {kvs : List (κ × V)} {vs : List (κ × Value)} (r : KV kvs vs) (k : κ) {y : V} {u : Value} (ry : RelV y u) : KV (putK kvs k y) (stored vs k u) := by
  unfold putK stored
  rw [r.any k]
  by_cases e : (vs.any fun kv => decide (kv.1 = k)) = true
  · rw [if_pos e, if_pos e]; exact r.repl k ry
  · rw [if_neg e, if_neg e]; exact Paired.snoc r ⟨rfl, ry⟩
theorem KV.drop {kvs : List (κ × V)} {vs : List (κ × Value)} (r : KV kvs vs) (k : κ) : KV (dropK kvs k) (without vs k) := by
  unfold KV at r ⊢
  unfold dropK without
  induction r with
  | nil => exact .nil
  | @cons p q ps qs h t ih =>
    obtain ⟨h1, h2⟩ := h
    rw [List.filter_cons, List.filter_cons]
    by_cases e : p.1 = k
    · have a : ¬ decide (p.1 ≠ k) = true := by simp [e]
      have b : ¬ decide (q.1 ≠ k) = true := by simp [h1.symm.trans e]
      rw [if_neg a, if_neg b]; exact ih
    · have e' : ¬ q.1 = k := fun z => e (h1.trans z)
      have a : decide (p.1 ≠ k) = true := by simp [e]
      have b : decide (q.1 ≠ k) = true := by simp [e']
      rw [if_pos a, if_pos b]; exact .cons ⟨h1, h2⟩ ih
theorem KV.keys {kvs : List (κ × V)} {vs : List (κ × Value)} (r : KV kvs vs) : kvs.map (·.1) = vs.map (·.1) := by
  unfold KV at r
  induction r with
  | nil => rfl
  | cons h t ih => rw [List.map_cons, List.map_cons, ih, h.1]
theorem KV.length {kvs : List (κ × V)} {vs : List (κ × Value)} (r : KV kvs vs) : kvs.length = vs.length := Paired.length r
end
/-! ### a tracked dict, its keys ints and texts or tuples of these -/
theorem kV_is {P : Program} {w : World} {k : Key} {u : Value} (r : RelV (kV k) u) : (mixKind P w).is k u = true := by
  cases k with
  | inl i => obtain ⟨t, e⟩ := (show ∃ t, u = Value.int i t from r); subst e; exact mixKind_int P w i t
  | inr x => obtain ⟨t, e⟩ := (show ∃ t, u = Value.str x t from r); subst e; exact mixKind_str P w x t
theorem items_are {P : Program} {w : World} : ∀ {ks : List Key} {us : List Value}, Vals (ks.map kV) us → ItemsAre (mixKind P w) ks us
  | [], _, r => by rw [List.map_nil] at r; cases r; exact .nil
  | k :: ks, _, r => by
    rw [List.map_cons] at r
    cases r with
    | cons h t => exact .cons (kV_is h) (items_are t)

/-- raw entries of a dict with tuple keys -/
abbrev KT (H : Hp) : List (List Key × V) → List (List Key × Addr × Value) → Prop := Paired fun p q => p.1 = q.1 ∧ H q.2.1 = some (.tup (p.1.map kV)) ∧ RelV p.2 q.2.2
theorem KT.val {H : Hp} {kvs : List (List Key × V)} {xs : List (List Key × Addr × Value)} (r : KT H kvs xs) (k : List Key) : RelO (valV kvs k) ((atKey xs k).map (·.2)) := by
  induction r with
  | nil => exact True.intro
  | @cons p q ps qs h t ih =>
    obtain ⟨h1, _, h2⟩ := h
    by_cases e : p.1 = k
    · have e' : q.1 = k := h1.symm.trans e
      have b : atKey (q :: qs) k = some q.2 := by simp [atKey, List.find?_cons, e']
      rw [valV_pos e, b]; exact h2
    · have e' : ¬ q.1 = k := fun z => e (h1.trans z)
      have b : atKey (q :: qs) k = atKey qs k := by simp [atKey, List.find?_cons, e']
      rw [valV_neg e, b]; exact ih
theorem KT.repl {H : Hp} {kvs : List (List Key × V)} {xs : List (List Key × Addr × Value)} (r : KT H kvs xs) (k : List Key) {y : V} {u : Value} (ry : RelV y u) :
    KT H (kvs.map fun kv => if kv.1 = k then (kv.1, y) else kv) (xs.map (putAt k u)) := by
  induction r with
  | nil => exact .nil
  | @cons p q ps qs h t ih =>
    rw [List.map_cons, List.map_cons]
    refine .cons ?_ ih
    obtain ⟨h1, h2, h3⟩ := h
    unfold putAt
    by_cases e : p.1 = k
    · rw [if_pos e, if_pos (h1.symm.trans e)]; exact ⟨h1, h2, ry⟩
    · rw [if_neg e, if_neg (fun z => e (h1.trans z))]; exact ⟨h1, h2, h3⟩
theorem KT.put {H : Hp} {kvs : List (List Key × V)} {xs : List (List Key × Addr × Value)} (r : KT H kvs xs) (k : List Key) {b : Addr} {y : V} {u : Value} (hb : H b = some (.tup (k.map kV))) (ry : RelV y u) :
    KT H (putK kvs k y) (storedH xs k b u) := by
  have e : (kvs.any fun kv => decide (kv.1 = k)) = (atKey xs k).isSome := by
    rw [valV_any, (r.val k).isSome_eq, Option.isSome_map]
  unfold putK storedH
  rw [e]
  by_cases q : (atKey xs k).isSome = true
  · rw [if_pos q, if_pos q]; exact r.repl k ry
  · rw [if_neg q, if_neg q]; exact Paired.snoc r ⟨rfl, hb, ry⟩
theorem KT.keeps {H H' : Hp} {kvs : List (List Key × V)} {xs : List (List Key × Addr × Value)} (r : KT H kvs xs) (ht : ∀ b ys, H b = some (.tup ys) → H' b = some (.tup ys)) : KT H' kvs xs :=
  Paired.mapP r fun _ _ z => ⟨z.1, ht _ _ z.2.1, z.2.2⟩

section
variable {P : Program} {w : World} {H : Hp} {h : Heap} {a : Addr}
theorem rd_of {u : HO} (ok : HOk P w H h) (e : Rd H a u) : ObjOk P w H h a u := e.ok ok
theorem dk_rd {kvs : List (Key × V)} (ok : HOk P w H h) (e : Rd H a (.dK kvs)) : kvs.length ≤ sizeLine ∧ (a == sysModules) = false ∧ ∃ vs, KV kvs vs ∧ h.DictOf (mixKind P w) a vs :=
  show ObjOk P w H h a (.dK kvs) from rd_of ok e
theorem dk_of {kvs : List (Key × V)} (ok : HOk P w H h) (e : H a = some (.dK kvs)) : kvs.length ≤ sizeLine ∧ (a == sysModules) = false ∧ ∃ vs, KV kvs vs ∧ h.DictOf (mixKind P w) a vs := dk_rd ok (.inl e)
/-- a tracked tuple of ints and texts is a key -/
theorem key_of {ks : List Key} (ok : HOk P w H h) (e : H a = some (.tup (ks.map kV))) : (tupleKind (mixKind P w)).is h ks a := by
  obtain ⟨_, its, r, o, h1, h2, n, h3⟩ := (show ObjOk P w H h a (.tup (ks.map kV)) from ok a _ e)
  exact ⟨o, its.toArray, n, h1, h2, h3, by simpa using items_are r⟩
theorem dt_rd {kvs : List (List Key × V)} (ok : HOk P w H h) (e : Rd H a (.dT kvs)) : kvs.length ≤ sizeLine ∧ (a == sysModules) = false ∧
    ∃ xs, KT H kvs xs ∧ h.DictOfH (tupleKind (mixKind P w)) a xs := by
  obtain ⟨z, y, xs, r, o, es, ep, h1, h2, h3, h4, h5⟩ := (show ObjOk P w H h a (.dT kvs) from rd_of ok e)
  refine ⟨z, y, xs, r, o, es, ep, h1, h2, h3, h4, fun x hx => ?_, h5⟩
  have all : ∀ {l : List (List Key × V)} {m : List (List Key × Addr × Value)}, KT H l m → ∀ x ∈ m, (tupleKind (mixKind P w)).is h x.1 x.2.1 := by
    intro l m q
    induction q with
    | nil => intro x hx; exact nomatch hx
    | @cons p q ps qs hq t ih =>
      intro x hx
      rcases List.mem_cons.mp hx with e | hx
      · subst e
        exact key_of ok (by rw [← hq.1]; exact hq.2.1)
      · exact ih x hx
  exact all r x hx
theorem dt_of {kvs : List (List Key × V)} (ok : HOk P w H h) (e : H a = some (.dT kvs)) : kvs.length ≤ sizeLine ∧ (a == sysModules) = false ∧
    ∃ xs, KT H kvs xs ∧ h.DictOfH (tupleKind (mixKind P w)) a xs := dt_rd ok (.inl e)
end
/-- what the dict at a holds at the key y -/
def DGet (H : Hp) (a : Addr) (y : V) (r : Option V) : Prop :=
  (∃ kvs k, Rd H a (.dK kvs) ∧ y = kV k ∧ r = valV kvs k) ∨ ∃ kvs k b, Rd H a (.dT kvs) ∧ y = .ref b ∧ H b = some (.tup (k.map kV)) ∧ r = valV kvs k
/-- the heap behind a[y] = v -/
def DPut (H : Hp) (a : Addr) (y v : V) (H' : Hp) : Prop :=
  (∃ kvs k, H a = some (.dK kvs) ∧ y = kV k ∧ kvs.length < sizeLine ∧ H' = upd H a (.dK (putK kvs k v))) ∨
  ∃ kvs k b, H a = some (.dT kvs) ∧ y = .ref b ∧ H b = some (.tup (k.map kV)) ∧ kvs.length < sizeLine ∧ H' = upd H a (.dT (putK kvs k v))
theorem DGet.k {H : Hp} {a : Addr} {kvs : List (Key × V)} {k : Key} (e : H a = some (.dK kvs)) : DGet H a (kV k) (valV kvs k) := .inl ⟨kvs, k, .inl e, rfl, rfl⟩
theorem DGet.t {H : Hp} {a b : Addr} {kvs : List (List Key × V)} {k : List Key} (e : H a = some (.dT kvs)) (eb : H b = some (.tup (k.map kV))) : DGet H a (.ref b) (valV kvs k) := .inr ⟨kvs, k, b, .inl e, rfl, eb, rfl⟩
theorem DPut.k {H : Hp} {a : Addr} {kvs : List (Key × V)} {k : Key} {v : V} (e : H a = some (.dK kvs)) (hl : kvs.length < sizeLine) : DPut H a (kV k) v (upd H a (.dK (putK kvs k v))) := .inl ⟨kvs, k, e, rfl, hl, rfl⟩
theorem DPut.t {H : Hp} {a b : Addr} {kvs : List (List Key × V)} {k : List Key} {v : V} (e : H a = some (.dT kvs)) (eb : H b = some (.tup (k.map kV))) (hl : kvs.length < sizeLine) :
    DPut H a (.ref b) v (upd H a (.dT (putK kvs k v))) := .inr ⟨kvs, k, b, e, rfl, eb, hl, rfl⟩


section
variable {X : Cx} {pins : List (Addr × Obj)} {σ : St} {H : Hp} {s : Shared} {a : Addr} {y v : V} {u r : Value} {o : Option V} {A : Around} {E : Value → Shared → Prop}
theorem Inv.big (I : Inv X pins σ H s) : sysModules < s.heap.objs.size := by
  have h : mainGlobals < s.heap.objs.size := (I.mod.glob.keeps I.bk).lt
  exact Nat.lt_trans (by decide) h

/-- y in d -/
theorem d_in {Q : Value → Shared → Prop} (hu : A.units + 1 < cLine) (I : Inv X pins σ H s) (g : DGet H a y o) (ry : RelV y u) (h : ∀ s', Inv X pins σ H s' → Q (.bool o.isSome) s') :
    wpAny (model X.prog X.w) A (compareOp .In u (.ref a)) Q E s := by
  rcases g with ⟨kvs, k, e, ey, l⟩ | ⟨kvs, k, b, e, ey, eb, l⟩
  · subst ey
    obtain ⟨z, hd, vs, rel, dd⟩ := dk_rd I.hok e
    refine wpAny_in_of (kV_is ry) hd dd.mapOf ?_
    rw [← (rel.val k).isSome_eq, ← l]
    exact h _ (I.tok _)
  · subst ey
    cases (show u = Value.ref b from ry)
    obtain ⟨z, hd, xs, rel, dd⟩ := dt_rd I.hok e
    refine wpAny_in_heap (tupleKind_room_in1 hu) (key_of I.hok eb) hd dd ?_
    have q := (rel.val k).isSome_eq
    rw [Option.isSome_map] at q
    rw [← q, ← l]
    exact h _ (I.tok _)
/-- a dict's object is replaced -/
theorem d_write {h' : Heap} {t' : Nat} {ob : HO} (I : Inv X pins σ H s) (mu : Mut (H a)) (hs : Heap.SameBut a s.heap h') (he : ∃ q, h'.get? a = some q) (new : ObjOk X.prog X.w (upd H a ob) h' a ob) :
    Inv X pins σ (upd H a ob) { s with heap := h', toks := t' } :=
  I.write (x := a) (e := a) mu (.inl rfl) (fun b q hb z => (hs.2 b hb).trans z) he new
theorem dk_new {P : Program} {w : World} {H' : Hp} {h' : Heap} {kvs : List (Key × V)} {vs : List (Key × Value)} (z : kvs.length ≤ sizeLine) (hd : (a == sysModules) = false) (rel : KV kvs vs) (dd : h'.DictOf (mixKind P w) a vs) :
    ObjOk P w H' h' a (.dK kvs) := ⟨z, hd, vs, rel, dd⟩
/-- d[y] = v -/
theorem d_setItem {H' : Hp} {Q : Unit → Shared → Prop} (hu : A.units + 1 < cLine) (I : Inv X pins σ H s) (g : DPut H a y v H') (ry : RelV y u) (rv : RelV v r) (h : ∀ s', Inv X pins σ H' s' → Q () s') :
    wpAny (model X.prog X.w) A (setItem (.ref a) u r) Q E s := by
  rcases g with ⟨kvs, k, e, ey, l, eH⟩ | ⟨kvs, k, b, e, ey, eb, l, eH⟩
  · subst ey eH
    obtain ⟨z, hd, vs, rel, dd⟩ := dk_of I.hok e
    have hz : vs.length ≤ sizeLine := by rw [← rel.length]; exact z
    have hl : (putK kvs k v).length ≤ sizeLine := by have := length_putK kvs k v; omega
    refine wpAny_setItem_pairs (hsz := hz) (kV_is ry) dd fun h' dd' hs => h _ ?_
    have he : ∃ q, h'.get? a = some q := let ⟨q, _, _, hq, _⟩ := dd'; ⟨q, hq⟩
    exact d_write I (by rw [e]; exact True.intro) hs he (dk_new hl hd (rel.put k rv) dd')
  · subst ey eH
    cases (show u = Value.ref b from ry)
    obtain ⟨z, hd, xs, rel, dd⟩ := dt_of I.hok e
    have hz : xs.length ≤ sizeLine := by rw [← Paired.length rel]; exact z
    have hl : (putK kvs k v).length ≤ sizeLine := by have := length_putK kvs k v; omega
    refine wpAny_setItem_heap (hsz := hz) (tupleKind_room_in1 hu) (key_of I.hok eb) dd fun h' dd' hs => h _ ?_
    obtain ⟨q, es, ep, hq, h2, h3, h4, _, h5⟩ := dd'
    refine d_write I (by rw [e]; exact True.intro) hs ⟨q, hq⟩ ⟨hl, hd, _, (rel.put k eb rv).keeps fun c ys ec => ?_, q, es, ep, hq, h2, h3, h4, h5⟩
    rw [upd_ne (ne_of ec e (fun z => nomatch z))]
    exact ec
end
section
variable {X : Cx} {pins : List (Addr × Obj)} {σ : St} {H : Hp} {s : Shared} {a : Addr} {kvs : List (Key × V)} {k : Key} {u : Value} {A : Around} {E : Value → Shared → Prop}
end
/-! ### readings and rules -/
/-- the element of a subscription, not a slice -/
def NoSl (i : Expr) : Prop := ∀ ov iv, subscripted i false ov iv = operate [ov, iv] (getItem ov iv)
/-- d[y] -/
def tDGet (td ty : TE) : TE := fun σ H Q => td σ H fun x H1 => ty σ H1 fun y H2 => ∃ a v, x = .ref a ∧ DGet H2 a y (some v) ∧ Q v H2
/-- y in d, y not in d -/
def tDIn (ty td : TE) : TE := fun σ H Q => ty σ H fun y H1 => td σ H1 fun x H2 => ∃ a o, x = .ref a ∧ DGet H2 a y o ∧ Q (.bl o.isSome) H2
def tDNotIn (ty td : TE) : TE := fun σ H Q => ty σ H fun y H1 => td σ H1 fun x H2 => ∃ a o, x = .ref a ∧ DGet H2 a y o ∧ Q (.bl (!o.isSome)) H2
/-- d[y] = v -/
def sDPut (td ty tv : TE) : TS := fun D σ H => tv σ H fun v H1 => td σ H1 fun x H2 => ty σ H2 fun y H3 => ∃ a H4, x = .ref a ∧ DPut H3 a y v H4 ∧ D.nx σ H4
/-- d[y] op= v -/
def sDAug (td ty tv : TE) (rd : V → V → Hp → VK → Prop) : TS := fun D σ H => td σ H fun x H1 => ty σ H1 fun y H2 => ∃ a v, x = .ref a ∧ DGet H2 a y (some v) ∧
  tv σ H2 fun y2 H3 => rd v y2 H3 fun z H4 => ∃ H5, DPut H4 a y z H5 ∧ D.nx σ H5
/-- del d[y] -/
def sDDel (td ty : TE) : TS := fun D σ H => td σ H fun x H1 => ty σ H1 fun y H2 => ∃ a kvs k, x = .ref a ∧ H2 a = some (.dK kvs) ∧ y = kV k ∧ (valV kvs k).isSome = true ∧ D.nx σ (upd H2 a (.dK (dropK kvs k)))

section
variable {X : Cx} {o i e value : Expr} {pos pos' tpos : Pos} {td ty tv : TE}
theorem pc_din (hu : X.A.units + 1 < cLine) (hi : PE X i ty) (ho : PE X o td) : PC X .In i o (tDIn ty td) := by
  intro pins s σ H Q I h
  refine thn (hi pins s σ H _ I h) fun iv s1 ⟨y, H1, I1, ry, q1⟩ => thn (ho pins s1 σ H1 _ I1 q1) fun u s2 ⟨x, H2, I2, rx, a, ov, ex, g, q2⟩ => ?_
  subst ex
  obtain rfl : u = Value.ref a := rx
  exact d_in hu I2 g ry fun s3 I3 => ⟨.bl ov.isSome, H2, I3, rfl, q2⟩
theorem ps_dput (hu : X.A.units + 1 < cLine) (ho : PE X o td) (hi : PE X i ty) (hv : PE X value tv) (hs : swapsWith value (some (.Subscript o i pos')) pos.line X.env = pure false) :
    PS X (.Assign [.Subscript o i pos'] value pos) (sDPut td ty tv) := by
  intro pins s σ H D I h
  refine wpAny_Assign_Subscript (thn (hv pins s σ H _ I h) fun r s1 ⟨v, H1, I1, rv, q1⟩ => thn (ho pins s1 σ H1 _ I1 q1) fun u s2 ⟨x, H2, I2, rx, q2⟩ => thn (hi pins s2 σ H2 _ I2 q2) fun iv s3 ⟨y, H3, I3, ry, a, H4, ex, g, q3⟩ => ?_) hs
  subst ex
  obtain rfl : u = Value.ref a := rx
  exact d_setItem hu I3 g ry rv fun s4 I4 => ⟨σ, H4, I4, q3⟩
end
theorem dt_empty {P : Program} {w : World} {H : Hp} (h : Heap) (hb : sysModules < h.objs.size) : ObjOk P w H (h.push { cls := .type "dict", data := .dict #[] }) h.objs.size (.dT []) :=
  ⟨Nat.zero_le _, beq_eq_false_iff_ne.mpr (Ne.symm (Nat.ne_of_lt hb)), [], .nil, _, #[], 0, Heap.get?_push_size _ rfl, ⟨rfl, rfl, rfl⟩, rfl, rfl, List.nodup_nil⟩
/-- {}, to be a dict of the kind that is wanted -/
def tDNewK : TE := fun _ H Q => ∀ p, H p = none → Q (.ref p) (upd H p (.dK []))
def tDNewT : TE := fun _ H Q => ∀ p, H p = none → Q (.ref p) (upd H p (.dT []))
section
variable {X : Cx} {pos : Pos}
theorem pe_dnewT : PE X (.Dict [] [] pos) tDNewT := fun pins s σ H Q I h =>
  wpAny_Dict_empty ⟨.ref s.heap.objs.size, _, I.laid (a := s.heap.objs.size) (o := .dT []) (t' := s.toks) (fun _ _ q => Heap.get?_push_of_some _ q) (Nat.le_refl _) (dt_empty s.heap I.big), rfl, h _ (I.hok.fresh (Nat.le_refl _))⟩
end
/-- the pairs of a display, from the left -/
def tPairs : List (TE × TE) → St → Hp → (List (V × V) → Hp → Prop) → Prop
  | [], _, H, Q => Q [] H
  | (tk, tv) :: r, σ, H, Q => tk σ H fun x H1 => tv σ H1 fun y H2 => tPairs r σ H2 fun ps H3 => Q ((x, y) :: ps) H3
abbrev VV : List (V × V) → List (Value × Value) → Prop := Paired fun p q => RelV p.1 q.1 ∧ RelV p.2 q.2
def PPs (X : Cx) (pos : Pos) (keys : List (Option Expr)) (values : List Expr) (trs : List (TE × TE)) : Prop :=
  ∀ (pins : List (Addr × Obj)) (s : Shared) (σ : St) (H : Hp) (Q : List (V × V) → Hp → Prop), Inv X pins σ H s → tPairs trs σ H Q →
    wpAny (model X.prog X.w) X.A (evalPairs (pairTrees keys values X.env pos)) (fun vs s' => ∃ ps H', Inv X pins σ H' s' ∧ VV ps vs ∧ Q ps H') X.xe s
def mergeK (kvs more : List (Key × V)) : List (Key × V) := more.foldl (fun acc kv => putK acc kv.1 kv.2) kvs
theorem KV.merge : ∀ {more : List (Key × V)} {rs : List (Key × Value)} {kvs : List (Key × V)} {vs : List (Key × Value)}, KV more rs → KV kvs vs → KV (mergeK kvs more) (merged vs rs) := by
  intro more rs kvs vs r
  unfold KV at r
  induction r generalizing kvs vs with
  | nil => intro q; exact q
  | @cons p q ps qs h t ih =>
    intro r0
    have e : KV (putK kvs p.1 p.2) (stored vs q.1 q.2) := by
      have := r0.put p.1 h.2
      rw [← h.1]; exact this
    exact ih e
/-- {k: v, ..} with keys ints and texts; the new dict stands empty while the pairs are made -/
def tDisp (trs : List (TE × TE)) : TE := fun σ H Q => ∀ p, H p = none → tPairs trs σ (upd H p (.dK [])) fun ps H2 => H2 p = some (.dK []) ∧ ∃ kvs : List (Key × V), ps = kvs.map (fun kv => (kV kv.1, kv.2)) ∧ kvs.length ≤ 15 ∧ Q (.ref p) (upd H2 p (.dK (mergeK [] kvs)))
/-! ### methods -/
/-- a method call o.m(e) of a built-in, with one argument: what must be seen of the text -/
structure M1 (X : Cx) (o : Expr) (m : Str) (apos : Pos) (e : Expr) (cpos : Pos) : Prop where
  base : attributeBase o m X.env (eval o X.env) = eval o X.env
  few : ((backTo cpos (starEach [e] X.env)).all (fun x => !x.1) && (backToKw cpos (keywordEach [] X.env)).all (fun x => x.1.isSome)
    && decide (([e] : List Expr).length + ([] : List Keyword).length + (if ([] : List Keyword).isEmpty then 0 else 1) < 30)) = true
  line : (apos.endLine == cpos.line) = true
  trees : backTo cpos (starEach [e] X.env) = [(false, eval e X.env)]
structure M2 (X : Cx) (o : Expr) (m : Str) (apos : Pos) (e f : Expr) (cpos : Pos) : Prop where
  base : attributeBase o m X.env (eval o X.env) = eval o X.env
  few : ((backTo cpos (starEach [e, f] X.env)).all (fun x => !x.1) && (backToKw cpos (keywordEach [] X.env)).all (fun x => x.1.isSome)
    && decide (([e, f] : List Expr).length + ([] : List Keyword).length + (if ([] : List Keyword).isEmpty then 0 else 1) < 30)) = true
  line : (apos.endLine == cpos.line) = true
  trees : backTo cpos (starEach [e, f] X.env) = [(false, eval e X.env), (false, eval f X.env)]

/-- a is a dict, whatever its keys -/
def IsD (H : Hp) (a : Addr) : Prop := (∃ kvs, Rd H a (.dK kvs)) ∨ ∃ kvs, Rd H a (.dT kvs)
section
variable {X : Cx} {pins : List (Addr × Obj)} {σ : St} {H : Hp} {s : Shared} {a : Addr} {y d : V} {u r : Value} {o : Option V} {A : Around} {E : Value → Shared → Prop}
end
def tDGet1 (td ty : TE) : TE := fun σ H Q => td σ H fun x H1 => ∃ a, x = .ref a ∧ IsD H1 a ∧ ty σ H1 fun y H2 => ∃ o, DGet H2 a y o ∧ Q (o.getD .non) H2
def tDGet2 (td ty tx : TE) : TE := fun σ H Q => td σ H fun x H1 => ∃ a, x = .ref a ∧ IsD H1 a ∧ ty σ H1 fun y H2 => tx σ H2 fun z H3 => ∃ o, DGet H3 a y o ∧ Q (o.getD z) H3
/-- d.pop(k): there; d.pop(k, x): there or not -/
def tDPop1 (td ty : TE) : TE := fun σ H Q => td σ H fun x H1 => ∃ a, x = .ref a ∧ IsD H1 a ∧ ty σ H1 fun y H2 => ∃ kvs k v, H2 a = some (.dK kvs) ∧ y = kV k ∧ valV kvs k = some v ∧ Q v (upd H2 a (.dK (dropK kvs k)))
def tDPop2 (td ty tx : TE) : TE := fun σ H Q => td σ H fun x H1 => ∃ a, x = .ref a ∧ IsD H1 a ∧ ty σ H1 fun y H2 => tx σ H2 fun z H3 => ∃ kvs k, H3 a = some (.dK kvs) ∧ y = kV k ∧
  (∀ v, valV kvs k = some v → Q v (upd H3 a (.dK (dropK kvs k)))) ∧ (valV kvs k = none → Q z H3)
section
variable {X : Cx} {o e f : Expr} {apos cpos : Pos} {td ty tx : TE}
end
/-! ### dict(d): a copy -/
section
variable {X : Cx} {pins : List (Addr × Obj)} {σ : St} {H : Hp} {s : Shared} {a : Addr} {kvs : List (Key × V)} {A : Around} {E : Value → Shared → Prop}
end
section
variable {X : Cx} {pins : List (Addr × Obj)} {σ : St} {H : Hp} {s : Shared} {a : Addr} {y : V} {u : Value} {A : Around} {E : Value → Shared → Prop}
end
end L2
set_option maxHeartbeats 4000000
namespace L2
open PySem PySem.Spec PyProof.Rows
/-- a list of lists of ints -/
structure LL (H : Hp) (l : Addr) (as : List Addr) (pss : List (List Int)) : Prop where
  lst : H l = some (.lst (as.map V.ref))
  len : as.length = pss.length
  at_ : ∀ (i : Nat) (a : Addr) (p : List Int), as[i]? = some a → pss[i]? = some p → H a = some (.lst (p.map V.int))
theorem LL.same {H H' : Hp} {l : Addr} {as : List Addr} {pss : List (List Int)} (x : LL H l as pss) (s : Same H H') : LL H' l as pss := ⟨s _ _ x.lst, x.len, fun i a p h1 h2 => s _ _ (x.at_ i a p h1 h2)⟩
theorem refs_of : ∀ {as : List Addr} {its : List Value}, Vals (as.map V.ref) its → its = as.map Value.ref
  | [], _, .nil => rfl
  | a :: as, _, .cons r t => by
    obtain rfl : _ = Value.ref a := r
    rw [refs_of t]
    rfl
section
variable {X : Cx}
/-- two lists of ints, asked for being equal -/
theorem eqAt_lists {pins : List (Addr × Obj)} {s : Shared} {σ : St} {H : Hp} {A : Around} {a b : Addr} {ns ms : List Int} (I : Inv X pins σ H s) (ha : SqL X.K H a (ns.map V.int)) (hb : SqL X.K H b (ms.map V.int)) (hu : A.units < cLine) :
    SeqAt.EqAt A s (.ref a) (.ref b) (decide (ns = ms)) := by
  by_cases e : a = b
  · subst e
    have e2 := I.list_inj ha hb
    have e3 : ns = ms := by
      have : ∀ {x y : List Int}, x.map V.int = y.map V.int → x = y := fun {x y} h => by
        have := congrArg (List.map fun v => match v with | V.int i => i | _ => 0) h
        simpa [Function.comp_def] using this
      exact this e2
    rw [decide_eq_true e3]
    exact SeqAt.EqAt.same _
  · obtain ⟨us, r1, p1, _⟩ := I.list ha
    obtain ⟨ws, r2, p2, _⟩ := I.list hb
    have l1 := r1.length
    have l2 := r2.length
    refine SeqAt.EqAt.of_refs e ?_
    by_cases el : ns.length = ms.length
    · have el' : (ns.map V.int).length = (ms.map V.int).length := by rw [List.length_map, List.length_map]; exact el
      have h := SeqAt.RcAt.lists (e := fun j => eqV ((ns.map V.int).getD j .non) ((ms.map V.int).getD j .non)) p1.isList p2.isList (by rw [List.size_toArray, List.size_toArray]; omega) hu (fun j h1 h2 => eqAt_items r1 r2 (flat_ints _) (flat_ints _) j h1 h2)
      rw [List.size_toArray, ← l1, eqVs_all el', eqVs_ints] at h
      exact h
    · have h := SeqAt.RcAt.lists_lengths (A := A) p1.isList p2.isList (by rw [List.size_toArray, List.size_toArray]; rw [List.length_map] at l1 l2; simp; omega) hu
      rw [decide_eq_false (fun z => el (by rw [z]))]
      exact h
def rInLL (K : PySem.W.Frag) (neg : Bool) : R2 := fun x y H Q => ∃ (p l : Addr) (ns : List Int) (as : List Addr) (pss : List (List Int)), x = .ref p ∧ y = .ref l ∧ SqL K H p (ns.map V.int) ∧ LL H l as pss ∧ Q (.bl (if neg then !decide (ns ∈ pss) else decide (ns ∈ pss))) H
def isAt (H : Hp) (ns : List Int) : Value → Bool
  | .ref a => match H a with
    | some (.lst xs) => decide (xs = ns.map V.int)
    | _ => false
  | _ => false
theorem isAt_ref {H : Hp} {ns : List Int} {a : Addr} {xs : List V} (h : H a = some (.lst xs)) : isAt H ns (.ref a) = decide (xs = ns.map V.int) := by
  show (match H a with | some (.lst xs) => decide (xs = ns.map V.int) | _ => false) = _
  rw [h]
theorem map_int_inj {x y : List Int} (h : x.map V.int = y.map V.int) : x = y := by
  have := congrArg (List.map fun v => match v with | V.int i => i | _ => 0) h
  simpa [Function.comp_def] using this
theorem ll_any {H : Hp} {l : Addr} {as : List Addr} {pss : List (List Int)} (x : LL H l as pss) (ns : List Int) : (as.map Value.ref).any (isAt H ns) = decide (ns ∈ pss) := by
  refine Bool.eq_iff_iff.mpr ?_
  rw [List.any_eq_true, decide_eq_true_eq]
  constructor
  · rintro ⟨v, hv, e⟩
    obtain ⟨a, ha, rfl⟩ := List.mem_map.mp hv
    obtain ⟨i, hi⟩ := List.getElem?_of_mem ha
    have hil := (List.getElem?_eq_some_iff.mp hi).1
    have hp : pss[i]? = some (pss[i]'(by have := x.len; omega)) := List.getElem?_eq_getElem _
    have h := x.at_ i a _ hi hp
    rw [isAt_ref h] at e
    have e' := map_int_inj (of_decide_eq_true e)
    rw [← e']
    exact List.getElem_mem _
  · intro h
    obtain ⟨i, hi⟩ := List.getElem?_of_mem h
    have hil := (List.getElem?_eq_some_iff.mp hi).1
    have hia : i < as.length := by have := x.len; omega
    have ha : as[i]? = some as[i] := List.getElem?_eq_getElem hia
    refine ⟨.ref as[i], List.mem_map.mpr ⟨as[i], List.getElem_mem hia, rfl⟩, ?_⟩
    rw [isAt_ref (x.at_ i _ ns ha hi)]
    exact decide_eq_true rfl
theorem ll_eq {pins : List (Addr × Obj)} {s : Shared} {σ : St} {H : Hp} {A : Around} {p l : Addr} {ns : List Int} {as : List Addr} {pss : List (List Int)} (I : Inv X pins σ H s) (x : LL H l as pss) (hp : SqL X.K H p (ns.map V.int)) (hu : A.units < cLine) :
    ∀ y, y ∈ (as.map Value.ref).toArray → SeqAt.EqAt A s y (.ref p) (isAt H ns y) := fun y hy => by
  have hy' : y ∈ as.map Value.ref := by simpa using hy
  obtain ⟨a, ha, rfl⟩ := List.mem_map.mp hy'
  obtain ⟨i, hi⟩ := List.getElem?_of_mem ha
  have hil := (List.getElem?_eq_some_iff.mp hi).1
  have hp2 : pss[i]? = some (pss[i]'(by have := x.len; omega)) := List.getElem?_eq_getElem _
  have h := x.at_ i a _ hi hp2
  have e : isAt H ns (.ref a) = decide ((pss[i]'(by have := x.len; omega)) = ns) := by
    rw [isAt_ref h]
    refine Bool.eq_iff_iff.mpr ?_
    rw [decide_eq_true_eq, decide_eq_true_eq]
    exact ⟨map_int_inj, fun q => by rw [q]⟩
  rw [e]
  exact eqAt_lists I (SqL.of h) hp hu
theorem op_inLL {K : PySem.W.Frag} (hK : X.K = K) (hu : X.A.in1.units < cLine) : OpR X (compareOp .In) (rInLL K false) := by
  subst hK
  intro pins s σ H x y v u Q I rx ry h
  obtain ⟨p, l, ns, as, pss, rfl, rfl, hp, hl, q⟩ := h
  cases rx
  cases ry
  obtain ⟨its, r, pl, hz⟩ := I.list (SqL.of hl.lst)
  have e := refs_of r
  subst e
  refine SeqAt.in_listAt (isAt H ns) pl.isList (ll_eq I hl hp hu) ⟨.bl _, H, I, rfl, ?_⟩
  rw [show (as.map Value.ref).toArray.any (isAt H ns) = (as.map Value.ref).any (isAt H ns) by simp, ll_any hl]
  exact q
theorem op_notInLL {K : PySem.W.Frag} (hK : X.K = K) (hu : X.A.in1.units < cLine) : OpR X (compareOp .NotIn) (rInLL K true) := by
  subst hK
  intro pins s σ H x y v u Q I rx ry h
  obtain ⟨p, l, ns, as, pss, rfl, rfl, hp, hl, q⟩ := h
  cases rx
  cases ry
  obtain ⟨its, r, pl, hz⟩ := I.list (SqL.of hl.lst)
  have e := refs_of r
  subst e
  refine SeqAt.notIn_listAt (isAt H ns) pl.isList (ll_eq I hl hp hu) ⟨.bl _, H, I, rfl, ?_⟩
  rw [show (as.map Value.ref).toArray.any (isAt H ns) = (as.map Value.ref).any (isAt H ns) by simp, ll_any hl]
  exact q
theorem in1_units {k : Nat} {A : Around} (r : Room k A) : A.in1.units < cLine := by
  have := r.units
  show A.units + 1 < cLine
  omega
end
end L2
set_option maxHeartbeats 4000000
namespace L2
open PySem PySem.Spec PyProof.Rows
section
variable {X : Cx}
/-- written whole numbers, as many as there are -/
def intsOf : List Expr → Option (List Int)
  | [] => some []
  | .Constant (.int i) _ _ :: es => (intsOf es).map (i :: ·)
  | _ :: _ => none
def tInts (ns : List Int) : TA := fun _ H Q => Q (ns.map V.int) H
theorem pa_ints : ∀ {es : List Expr} {ns : List Int}, intsOf es = some ns → PA X es (tInts ns)
  | [], ns, h => by cases h; exact pa_nil
  | .Constant (.int i) j p :: es, ns, h => by
    cases hr : intsOf es with
    | none =>
      have h : (intsOf es).map (i :: ·) = some ns := h
      rw [hr] at h; cases h
    | some ms =>
      have h : (intsOf es).map (i :: ·) = some ns := h
      rw [hr] at h
      cases h
      intro pos pins s σ H Q I hq
      exact pa_cons (pe_int (i := i) (j := j) (pos := p)) (pa_ints hr) rfl pos pins s σ H Q I hq
end
theorem ix_listK {X : Cx} {K : PySem.W.Frag} (h : X.K = K) : IxR X (rIxL K) := h ▸ ix_list
end L2
namespace Pl
open PySem L2
theorem perm_len {ns : List Int} {n : Nat} (h : ns.Perm (iota n)) : ns.length = n := by rw [h.length_eq, iota_length]
theorem perm_mem {ns : List Int} {n : Nat} (h : ns.Perm (iota n)) {x : Int} : x ∈ ns ↔ 0 ≤ x ∧ x < n := h.mem_iff.trans mem_iota
theorem perm_nodup {ns : List Int} {n : Nat} (h : ns.Perm (iota n)) : ns.Nodup := h.nodup_iff.mpr (iota_nodup n)
theorem perm_ins {ns : List Int} {n : Nat} (h : ns.Perm (iota n)) (g : Nat) : (ns.take g ++ [(n : Int)] ++ ns.drop g).Perm (iota (n + 1)) := by
  rw [iota_succ]
  have h1 : (ns.take g ++ [(n : Int)] ++ ns.drop g).Perm (ns.take g ++ ns.drop g ++ [(n : Int)]) := by
    rw [List.append_assoc, List.append_assoc]
    exact List.Perm.append_left _ List.perm_append_comm
  rw [List.take_append_drop] at h1
  exact h1.trans (h.append_right _)
theorem same_sorted {a b : List Int} (hp : a.Perm b) (ha : a.Pairwise (· ≤ ·)) (hb : b.Pairwise (· ≤ ·)) : a = b := PySem.W.ksm_same hp ha hb

/-- the place of each stamp -/
def plc (ns : List Int) : List Int := (iota ns.length).map fun s => ((ns.idxOf s : Nat) : Int)
theorem plc_length (ns : List Int) : (plc ns).length = ns.length := by simp [plc, iota_length]
theorem plc_get {ns : List Int} {n : Nat} (h : ns.Perm (iota n)) {s : Nat} (hs : s < n) : ∃ j : Nat, (plc ns)[s]? = some (j : Int) ∧ j < n ∧ ns[j]? = some (s : Int) := by
  have hm : (s : Int) ∈ ns := (perm_mem h).mpr (by omega)
  have hl := perm_len h
  refine ⟨ns.idxOf (s : Int), ?_, ?_, ?_⟩
  · unfold plc
    rw [List.getElem?_map, hl]
    have : (iota n)[s]? = some (s : Int) := by
      unfold iota
      rw [List.getElem?_map, List.getElem?_range hs]
      rfl
    rw [this]
    rfl
  · have := List.idxOf_lt_length_of_mem hm
    omega
  · have hlt := List.idxOf_lt_length_of_mem hm
    rw [List.getElem?_eq_getElem hlt, List.getElem_idxOf hlt]
/-- i stamps are laid down -/
def Fnd (ns : List Int) (i : Nat) (f : List Int) : Prop := f.length = ns.length ∧ ∀ j s, j < i → ns[j]? = some s → f[s.toNat]? = some ((j : Nat) : Int)
theorem Fnd.step {ns : List Int} {n i : Nat} {f : List Int} {s : Int} (h : ns.Perm (iota n)) (F : Fnd ns i f) (hs : ns[i]? = some s) : Fnd ns (i + 1) (f.set s.toNat (i : Int)) := by
  refine ⟨by rw [List.length_set]; exact F.1, fun j t hj ht => ?_⟩
  have ms := (perm_mem h).mp (List.mem_of_getElem? hs)
  have mt := (perm_mem h).mp (List.mem_of_getElem? ht)
  have hl := perm_len h
  by_cases e : j = i
  · subst e
    rw [hs] at ht
    cases ht
    rw [List.getElem?_set_self (by have := F.1; omega)]
  · have ne : t ≠ s := fun z => by
      subst z
      have h1 := (List.getElem?_eq_some_iff.mp ht)
      have h2 := (List.getElem?_eq_some_iff.mp hs)
      obtain ⟨l1, e1⟩ := h1
      obtain ⟨l2, e2⟩ := h2
      have nd := List.pairwise_iff_getElem.mp (perm_nodup h)
      rcases Nat.lt_or_gt_of_ne e with z | z
      · exact nd j i l1 l2 z (e1.trans e2.symm)
      · exact nd i j l2 l1 z (e2.trans e1.symm)
    rw [List.getElem?_set_ne (by omega)]
    exact F.2 j t (by omega) ht
theorem Fnd.eq {ns : List Int} {n : Nat} {f : List Int} (h : ns.Perm (iota n)) (F : Fnd ns n f) : f = plc ns := by
  have hl := perm_len h
  refine List.ext_getElem? fun s => ?_
  by_cases hs : s < n
  · obtain ⟨j, h1, h2, h3⟩ := plc_get h hs
    rw [h1]
    exact F.2 j (s : Int) h2 h3
  · rw [List.getElem?_eq_none (by rw [F.1]; omega), List.getElem?_eq_none (by rw [plc_length]; omega)]

/-! texts -/
theorem str_app (a b : Str) : (a ++ b).cps.toList = a.cps.toList ++ b.cps.toList := by
  show (a.cps ++ b.cps).toList = _
  rw [Array.toList_append]
theorem join0 : ∀ zs : List Str, (Str.join ⟨#[]⟩ zs).cps.toList = (zs.map fun z => z.cps.toList).flatten
  | [] => rfl
  | [z] => by simp [Str.join]
  | z :: y :: r => by
    show (z ++ ⟨#[]⟩ ++ Str.join ⟨#[]⟩ (y :: r)).cps.toList = _
    rw [str_app, str_app, join0 (y :: r)]
    simp
theorem glue0 (zs : List Str) : (Txt.join ⟨#[]⟩ zs).cps.toList = (zs.map fun z => z.cps.toList).flatten := by
  show (Builtin.Str.glued ⟨#[]⟩ zs).cps.toList = _
  rw [StrLaws.glued_eq_join]
  exact join0 zs
/-- a text of single signs -/
theorem join_ones (cs : List Nat) : (Txt.join ⟨#[]⟩ (cs.map fun c => (⟨#[c]⟩ : Str))).cps.toList = cs := by
  rw [glue0, List.map_map]
  induction cs with
  | nil => rfl
  | cons c cs ih =>
    rw [List.map_cons, List.flatten_cons, ih]
    rfl
end Pl
namespace Pl
open PySem L2
/-- stamp s lies between the two stamps of crease c -/
def wr (ps : List Int) (c s : Nat) : Bool := decide (min (ps.getD c 0) (ps.getD (c + 1) 0) < ps.getD s 0) && decide (ps.getD s 0 < max (ps.getD c 0) (ps.getD (c + 1) 0))
def cr (ps : List Int) (a b : Nat) : Bool := wr ps a b != wr ps a (b + 1)
/-- no two creases of one side cross -/
def NoX (ps : List Int) : Prop := ∀ a b : Nat, a + 2 ≤ b → b + 1 < ps.length → (b - a) % 2 = 0 → cr ps a b = false
theorem min_if (i j : Int) : (if j < i then j else i) = min i j := by
  rw [Int.min_def]; split <;> split <;> omega
theorem max_if (i j : Int) : (if j > i then j else i) = max i j := by
  rw [Int.max_def]; split <;> split <;> omega
end Pl
namespace Pl
open PySem L2
/-- m of the lowest stamps on top -/
def turn (ns : List Int) (m : Nat) : List Int := ns.drop m ++ ns.take m
def rot (n m j : Int) : Int := if m ≤ j then j - m else j + n - m
theorem nodup_at {ns : List Int} (nd : ns.Nodup) {i j : Nat} {s : Int} (h1 : ns[i]? = some s) (h2 : ns[j]? = some s) : i = j := by
  obtain ⟨l1, e1⟩ := List.getElem?_eq_some_iff.mp h1
  obtain ⟨l2, e2⟩ := List.getElem?_eq_some_iff.mp h2
  have q := List.pairwise_iff_getElem.mp nd
  rcases Nat.lt_trichotomy i j with z | z | z
  · exact absurd (e1.trans e2.symm) (q i j l1 l2 z)
  · exact z
  · exact absurd (e2.trans e1.symm) (q j i l2 l1 z)
theorem plc_ne {ns : List Int} {n s t : Nat} (h : ns.Perm (iota n)) (hs : s < n) (ht : t < n) (hst : s ≠ t) : (plc ns).getD s 0 ≠ (plc ns).getD t 0 := by
  obtain ⟨j, j1, j2, j3⟩ := plc_get h hs
  obtain ⟨k, k1, k2, k3⟩ := plc_get h ht
  have a1 : (plc ns).getD s 0 = (j : Int) := by rw [List.getD_eq_getElem?_getD, j1]; rfl
  have a2 : (plc ns).getD t 0 = (k : Int) := by rw [List.getD_eq_getElem?_getD, k1]; rfl
  rw [a1, a2]
  intro e
  have e' : j = k := by omega
  subst e'
  rw [j3] at k3
  injection k3 with k3
  omega
/-- u lies between x and y -/
def btw (x y u : Int) : Bool := decide (min x y < u) && decide (u < max x y)
theorem wr_btw (ps : List Int) (c s : Nat) : wr ps c s = btw (ps.getD c 0) (ps.getD (c + 1) 0) (ps.getD s 0) := rfl
end Pl
namespace Pl
open PySem L2
/-- a new stamp at the gap g -/
def ins (ns : List Int) (g : Nat) : List Int := ns.take g ++ [(ns.length : Int)] ++ ns.drop g
theorem ins_perm {ns : List Int} {n : Nat} (h : ns.Perm (iota n)) (g : Nat) : (ins ns g).Perm (iota (n + 1)) := by
  unfold ins
  rw [perm_len h]
  exact perm_ins h g
def shf (g x : Int) : Int := if g ≤ x then x + 1 else x
theorem ins_get_old {ns : List Int} {g j : Nat} {s : Int} (hg : g ≤ ns.length) (hj : ns[j]? = some s) : (ins ns g)[(shf g j).toNat]? = some s := by
  have hjn : j < ns.length := (List.getElem?_eq_some_iff.mp hj).1
  unfold ins shf
  by_cases c : (g : Int) ≤ j
  · rw [if_pos c, show ((j : Int) + 1).toNat = j + 1 by omega, List.getElem?_append_right (by simp; omega)]
    simp only [List.length_append, List.length_take, List.length_singleton, List.getElem?_drop]
    rw [show g + (j + 1 - (min g ns.length + 1)) = j by omega]
    exact hj
  · rw [if_neg c, show ((j : Int)).toNat = j by omega, List.getElem?_append_left (by simp; omega), List.getElem?_append_left (by simp; omega), List.getElem?_take_of_lt (by omega)]
    exact hj
theorem ins_get_new {ns : List Int} {g : Nat} (hg : g ≤ ns.length) : (ins ns g)[g]? = some (ns.length : Int) := by
  unfold ins
  rw [List.getElem?_append_left (by simp; omega), List.getElem?_append_right (by simp; omega)]
  simp [show g - min g ns.length = 0 by omega]
theorem plc_at {ns : List Int} {n s j : Nat} (h : ns.Perm (iota n)) (hs : ns[j]? = some (s : Int)) : (plc ns).getD s 0 = (j : Int) := by
  have hs' : s < n := by
    have := (perm_mem h).mp (List.mem_of_getElem? hs)
    omega
  obtain ⟨k, k1, k2, k3⟩ := plc_get h hs'
  have e := nodup_at (perm_nodup h) k3 hs
  subst e
  rw [List.getD_eq_getElem?_getD, k1]
  rfl
theorem plc_rng {ns : List Int} {n s : Nat} (h : ns.Perm (iota n)) (hs : s < n) : 0 ≤ (plc ns).getD s 0 ∧ (plc ns).getD s 0 < n := by
  obtain ⟨j, j1, j2, j3⟩ := plc_get h hs
  rw [plc_at h j3]
  omega
theorem plc_old {ns : List Int} {n g s : Nat} (h : ns.Perm (iota n)) (hg : g ≤ n) (hs : s < n) : (plc (ins ns g)).getD s 0 = shf g ((plc ns).getD s 0) := by
  obtain ⟨j, j1, j2, j3⟩ := plc_get h hs
  have e := ins_get_old (g := g) (by rw [perm_len h]; exact hg) j3
  rw [plc_at h j3, plc_at (ins_perm h g) e]
  have : 0 ≤ shf g (j : Int) := by unfold shf; split <;> omega
  omega
theorem plc_new {ns : List Int} {n g : Nat} (h : ns.Perm (iota n)) (hg : g ≤ n) : (plc (ins ns g)).getD n 0 = (g : Int) := by
  have e := ins_get_new (ns := ns) (g := g) (by rw [perm_len h]; exact hg)
  rw [perm_len h] at e
  exact plc_at (ins_perm h g) e
theorem btw_shf (g x y u : Int) : btw (shf g x) (shf g y) (shf g u) = btw x y u := by
  have m : ∀ a b : Int, (shf g a < shf g b) ↔ a < b := fun a b => by unfold shf; split <;> split <;> omega
  have key : (btw (shf g x) (shf g y) (shf g u) = true) ↔ (btw x y u = true) := by
    unfold btw
    simp only [Bool.and_eq_true, decide_eq_true_eq, Int.min_def, Int.max_def]
    by_cases c : x ≤ y
    · have c' : shf g x ≤ shf g y := by unfold shf; split <;> split <;> omega
      rw [if_pos c, if_pos c, if_pos c', if_pos c', m, m]
    · have c' : ¬ shf g x ≤ shf g y := by unfold shf; split <;> split <;> omega
      rw [if_neg c, if_neg c, if_neg c', if_neg c', m, m]
  exact Bool.eq_iff_iff.mpr key
theorem btw_gap (g x y : Int) : btw (shf g x) (shf g y) g = (decide (min x y < g) && decide (g ≤ max x y)) := by
  have key : (btw (shf g x) (shf g y) g = true) ↔ ((decide (min x y < g) && decide (g ≤ max x y)) = true) := by
    unfold btw shf
    simp only [Bool.and_eq_true, decide_eq_true_eq, Int.min_def, Int.max_def]
    by_cases c1 : g ≤ x <;> by_cases c2 : g ≤ y <;> simp only [c1, c2, if_true, if_false] <;> (repeat' split) <;> omega
  exact Bool.eq_iff_iff.mpr key
/-- a new stamp st at the gap g crosses no older crease of its side -/
def FitG (ps : List Int) (st g : Nat) : Prop := ∀ c : Nat, c + 1 < st → (st + 1 + c) % 2 = 0 → wr ps c (st - 1) = (decide (min (ps.getD c 0) (ps.getD (c + 1) 0) < (g : Int)) && decide ((g : Int) ≤ max (ps.getD c 0) (ps.getD (c + 1) 0)))
theorem wr_old {ns : List Int} {n g c s : Nat} (h : ns.Perm (iota n)) (hg : g ≤ n) (hc : c + 1 < n) (hs : s < n) : wr (plc (ins ns g)) c s = wr (plc ns) c s := by
  rw [wr_btw, wr_btw, plc_old h hg (by omega), plc_old h hg hc, plc_old h hg hs, btw_shf]
theorem wr_new {ns : List Int} {n g c : Nat} (h : ns.Perm (iota n)) (hg : g ≤ n) (hc : c + 1 < n) : wr (plc (ins ns g)) c n = (decide (min ((plc ns).getD c 0) ((plc ns).getD (c + 1) 0) < (g : Int)) && decide ((g : Int) ≤ max ((plc ns).getD c 0) ((plc ns).getD (c + 1) 0))) := by
  rw [wr_btw, plc_old h hg (by omega), plc_old h hg hc, plc_new h hg, btw_gap]
theorem nox_ins {ns : List Int} {n g : Nat} (h : ns.Perm (iota n)) (h1 : 1 ≤ n) (hg : g ≤ n) : NoX (plc (ins ns g)) ↔ (NoX (plc ns) ∧ FitG (plc ns) n g) := by
  have l1 : (plc ns).length = n := by rw [plc_length, perm_len h]
  have l2 : (plc (ins ns g)).length = n + 1 := by rw [plc_length, perm_len (ins_perm h g)]
  have bb : ∀ a b : Bool, (a != b) = false ↔ a = b := by decide
  constructor
  · intro N
    refine ⟨fun a b hab hb hp => ?_, fun c hc hp => ?_⟩
    · have := N a b hab (by omega) hp
      unfold cr at this ⊢
      rw [wr_old h hg (by omega) (by omega), wr_old h hg (by omega) (by omega)] at this
      exact this
    · have := N c (n - 1) (by omega) (by omega) (by omega)
      unfold cr at this
      rw [show n - 1 + 1 = n by omega, wr_old h hg (by omega) (by omega), wr_new h hg (by omega), bb] at this
      exact this
  · rintro ⟨N, F⟩ a b hab hb hp
    unfold cr
    by_cases e : b + 1 = n
    · rw [e, wr_old h hg (by omega) (by omega), wr_new h hg (by omega), bb]
      have := F a (by omega) (by omega)
      rw [show b = n - 1 by omega]
      exact this
    · rw [wr_old h hg (by omega) (by omega), wr_old h hg (by omega) (by omega)]
      exact N a b hab (by omega) hp
/-- beside the stamp before it a stamp always fits -/
theorem fit_beside {ns : List Int} {n e : Nat} (h : ns.Perm (iota n)) (h1 : 1 ≤ n) (he : e ≤ 1) {g : Nat} (hg : (g : Int) = (plc ns).getD (n - 1) 0 + e) : FitG (plc ns) n g := by
  intro c hc hp
  rw [wr_btw]
  have n1 := plc_ne h (s := c) (t := n - 1) (by omega) (by omega) (by omega)
  have n2 := plc_ne h (s := c + 1) (t := n - 1) (by omega) (by omega) (by omega)
  have key : (btw ((plc ns).getD c 0) ((plc ns).getD (c + 1) 0) ((plc ns).getD (n - 1) 0) = true) ↔ ((decide (min ((plc ns).getD c 0) ((plc ns).getD (c + 1) 0) < (g : Int)) && decide ((g : Int) ≤ max ((plc ns).getD c 0) ((plc ns).getD (c + 1) 0))) = true) := by
    unfold btw
    rw [hg]
    generalize (plc ns).getD c 0 = x at *
    generalize (plc ns).getD (c + 1) 0 = y at *
    generalize (plc ns).getD (n - 1) 0 = u at *
    simp only [Bool.and_eq_true, decide_eq_true_eq, Int.min_def, Int.max_def]
    split <;> omega
  exact Bool.eq_iff_iff.mpr key
end Pl
namespace Pl
open PySem L2
/-- all places are unlike -/
def Dis (ps : List Int) : Prop := ∀ s t : Nat, s < ps.length → t < ps.length → s ≠ t → ps.getD s 0 ≠ ps.getD t 0
theorem btw_sym {x y u v : Int} (h1 : u ≠ x) (h2 : u ≠ y) (h3 : v ≠ x) (h4 : v ≠ y) : (btw x y u != btw x y v) = (btw u v x != btw u v y) := by
  have key : ((btw x y u != btw x y v) = true) ↔ ((btw u v x != btw u v y) = true) := by
    have e : ∀ a b : Bool, ((a != b) = true) ↔ ¬ ((a = true) ↔ (b = true)) := by decide
    rw [e, e]
    unfold btw
    simp only [Bool.and_eq_true, decide_eq_true_eq, Int.min_def, Int.max_def]
    (repeat' split) <;> omega
  exact Bool.eq_iff_iff.mpr key
theorem cr_symm {ps : List Int} {a b : Nat} (D : Dis ps) (ha : a + 1 < ps.length) (hb : b + 1 < ps.length) (h : a + 2 ≤ b ∨ b + 2 ≤ a) : cr ps a b = cr ps b a := by
  unfold cr
  rw [wr_btw, wr_btw, wr_btw, wr_btw]
  exact btw_sym (D _ _ (by omega) (by omega) (by omega)) (D _ _ (by omega) (by omega) (by omega)) (D _ _ (by omega) (by omega) (by omega)) (D _ _ (by omega) (by omega) (by omega))
/-- the width of a crease -/
def wid (ps : List Int) (c : Nat) : Int := max (ps.getD c 0) (ps.getD (c + 1) 0) - min (ps.getD c 0) (ps.getD (c + 1) 0)
theorem NoX.both {ps : List Int} (N : NoX ps) (D : Dis ps) {a b : Nat} (ha : a + 1 < ps.length) (hb : b + 1 < ps.length) (hp : (a + b) % 2 = 0) (hne : a ≠ b) : cr ps a b = false := by
  rcases Nat.lt_or_gt_of_ne hne with h | h
  · exact N a b (by omega) hb (by omega)
  · rw [cr_symm D ha hb (by omega)]
    exact N b a (by omega) ha (by omega)
/-- nothing of its side wraps a stamp of the widest crease -/
theorem wide_free {ps : List Int} (N : NoX ps) (D : Dis ps) {j d : Nat} (hj : j + 1 < ps.length) (hd : d + 1 < ps.length) (hp : (d + j) % 2 = 0) (hw : wid ps d ≤ wid ps j) : wr ps d j = false ∧ wr ps d (j + 1) = false := by
  by_cases e : d = j
  · subst e
    constructor
    · rw [wr_btw]; unfold btw
      simp only [Bool.and_eq_false_iff, decide_eq_false_iff_not, Int.min_def, Int.max_def]
      split <;> omega
    · rw [wr_btw]; unfold btw
      simp only [Bool.and_eq_false_iff, decide_eq_false_iff_not, Int.min_def, Int.max_def]
      split <;> omega
  · have h := N.both D hd hj hp e
    unfold cr at h
    have bb : ∀ a b : Bool, (a != b) = false → a = b := by decide
    have h' := bb _ _ h
    cases q : wr ps d j with
    | false => exact ⟨rfl, by rw [← h', q]⟩
    | true =>
      exfalso
      have q' := h'.symm.trans q
      rw [wr_btw] at q q'
      unfold btw at q q'
      unfold wid at hw
      simp only [Bool.and_eq_true, decide_eq_true_eq] at q q'
      simp only [Int.min_def, Int.max_def] at q q' hw
      revert q q' hw
      (repeat' split) <;> omega
/-- a set of open creases is free -/
structure Fre (ps : List Int) (L : Nat → Prop) : Prop where
  odd : ∀ a b, L a → L b → a < b → (∀ e, a < e → e < b → ¬ L e) → (b - a) % 2 = 1
  up : ∀ c d, L c → d < c → (c - d) % 2 = 0 → (∀ e, d ≤ e → e < c → ¬ L e) → wr ps d c = false
  dn : ∀ c d, L c → c < d → d + 1 < ps.length → (d - c) % 2 = 0 → (∀ e, c < e → e ≤ d → ¬ L e) → wr ps d (c + 1) = false
theorem Fre.congr {ps : List Int} {L L' : Nat → Prop} (F : Fre ps L) (h : ∀ c, L c ↔ L' c) : Fre ps L' := by
  have e : L = L' := funext fun c => propext (h c)
  subst e
  exact F
theorem Fre.none {ps : List Int} : Fre ps (fun _ => False) := ⟨fun _ _ h => h.elim, fun _ _ h => h.elim, fun _ _ h => h.elim⟩
theorem Fre.add {ps : List Int} {L L' : Nat → Prop} (F : Fre ps L) (sub : ∀ c, L c → L' c) (odd : ∀ a b, L' a → L' b → a < b → (∀ e, a < e → e < b → ¬ L' e) → (b - a) % 2 = 1)
    (up : ∀ c d, L' c → ¬ L c → d < c → (c - d) % 2 = 0 → (∀ e, d ≤ e → e < c → ¬ L' e) → wr ps d c = false)
    (dn : ∀ c d, L' c → ¬ L c → c < d → d + 1 < ps.length → (d - c) % 2 = 0 → (∀ e, c < e → e ≤ d → ¬ L' e) → wr ps d (c + 1) = false) : Fre ps L' where
  odd := odd
  up := fun c d hc hd hp he => by
    by_cases q : L c
    · exact F.up c d q hd hp fun e h1 h2 h3 => he e h1 h2 (sub e h3)
    · exact up c d hc q hd hp he
  dn := fun c d hc hd hl hp he => by
    by_cases q : L c
    · exact F.dn c d q hd hl hp fun e h1 h2 h3 => he e h1 h2 (sub e h3)
    · exact dn c d hc q hd hl hp he
/-- the strip's first part -/
theorem Fre.first {ps : List Int} {L : Nat → Prop} (N : NoX ps) (D : Dis ps) (F : Fre ps L) {b j : Nat} (hb : L b) (hbl : b + 1 < ps.length) (hno : ∀ e, e < b → ¬ L e) (j2 : j < b) (j3 : (b - j) % 2 = 1)
    (j4 : ∀ d, d < b → (b - d) % 2 = 1 → wid ps d ≤ wid ps j) : Fre ps (fun c => L c ∨ c = j) := by
  refine F.add (fun c h => .inl h) ?_ ?_ ?_
  · intro x y hx hy hxy he
    have nb : ¬ (x < b ∧ b < y) := fun ⟨h1, h2⟩ => he b h1 h2 (.inl hb)
    rcases hx with hx | rfl <;> rcases hy with hy | rfl
    · exact F.odd x y hx hy hxy fun e h1 h2 h3 => he e h1 h2 (.inl h3)
    · exact absurd hx (hno x (by omega))
    · have : ¬ (y < b) := fun z => hno y z hy
      omega
    · omega
  · intro c d hc hn hd hp he
    rcases hc with hc | rfl
    · exact absurd hc hn
    · exact (wide_free N D (by omega) (by omega) (by omega) (j4 d (by omega) (by omega))).1
  · intro c d hc hn hd hl hp he
    have nb : ¬ (c < b ∧ b ≤ d) := fun ⟨h1, h2⟩ => he b h1 h2 (.inl hb)
    rcases hc with hc | rfl
    · exact absurd hc hn
    · exact (wide_free N D (by omega) (by omega) (by omega) (j4 d (by omega) (by omega))).2
/-- the strip's last part -/
theorem Fre.last {ps : List Int} {L : Nat → Prop} (N : NoX ps) (D : Dis ps) (F : Fre ps L) {a j : Nat} (ha : L a) (hno : ∀ e, a < e → e + 1 < ps.length → ¬ L e) (hL : ∀ c, L c → c + 1 < ps.length) (j1 : a < j) (j2 : j + 1 < ps.length) (j3 : (j - a) % 2 = 1)
    (j4 : ∀ d, a < d → d + 1 < ps.length → (d - a) % 2 = 1 → wid ps d ≤ wid ps j) : Fre ps (fun c => L c ∨ c = j) := by
  refine F.add (fun c h => .inl h) ?_ ?_ ?_
  · intro x y hx hy hxy he
    have na : ¬ (x < a ∧ a < y) := fun ⟨h1, h2⟩ => he a h1 h2 (.inl ha)
    rcases hx with hx | rfl <;> rcases hy with hy | rfl
    · exact F.odd x y hx hy hxy fun e h1 h2 h3 => he e h1 h2 (.inl h3)
    · have : ¬ (a < x) := fun z => hno x z (hL x hx) hx
      omega
    · exact absurd hy (hno y (by omega) (hL y hy))
    · omega
  · intro c d hc hn hd hp he
    have na : ¬ (d ≤ a ∧ a < c) := fun ⟨h1, h2⟩ => he a h1 h2 (.inl ha)
    rcases hc with hc | rfl
    · exact absurd hc hn
    · exact (wide_free N D (by omega) (by omega) (by omega) (j4 d (by omega) (by omega) (by omega))).1
  · intro c d hc hn hd hl hp he
    rcases hc with hc | rfl
    · exact absurd hc hn
    · exact (wide_free N D (by omega) (by omega) (by omega) (j4 d (by omega) (by omega) (by omega))).2
/-- the whole strip -/
theorem Fre.whole {ps : List Int} (N : NoX ps) (D : Dis ps) {j : Nat} (j2 : j + 1 < ps.length) (j3 : j % 2 = 0) (j4 : ∀ d, d + 1 < ps.length → d % 2 = 0 → wid ps d ≤ wid ps j) : Fre ps (fun c => c = j) := by
  refine ⟨fun a b ha hb hab => by omega, fun c d hc hd hp _ => ?_, fun c d hc hd hl hp _ => ?_⟩
  · subst hc
    exact (wide_free N D (by omega) (by omega) (by omega) (j4 d (by omega) (by omega))).1
  · subst hc
    exact (wide_free N D (by omega) (by omega) (by omega) (j4 d (by omega) (by omega))).2

/-! ### part by part -/
/-- what is asked of the part from stamp f to stamp l -/
structure Seg (ps : List Int) (f l : Nat) : Prop where
  odd : 0 < f → l + 1 < ps.length → (l - f) % 2 = 0
  lo : 0 < f → ∀ d, f ≤ d → d < l → (d + 1 - f) % 2 = 0 → wr ps d f = false
  hi : l + 1 < ps.length → ∀ d, f ≤ d → d < l → (l - d) % 2 = 0 → wr ps d l = false
structure Part (n : Nat) (L : Nat → Prop) (f l : Nat) : Prop where
  le : f ≤ l
  lt : l < n
  fst : f = 0 ∨ ∃ c, L c ∧ f = c + 1
  lst : l + 1 = n ∨ L l
  no : ∀ e, f ≤ e → e < l → ¬ L e
end Pl
namespace Pl
open PySem L2
theorem part_only {n : Nat} {L : Nat → Prop} {f l f' l' : Nat} (P : Part n L f l) (P' : Part n L f' l') (h1 : f ≤ l') (h2 : l' ≤ l) : f' = f ∧ l' = l := by
  have e : l' = l := by
    rcases P'.lst with z | z
    · have := P.lt; omega
    · by_cases q : l' = l
      · exact q
      · exact absurd z (P.no l' h1 (by omega))
  subst e
  refine ⟨?_, rfl⟩
  rcases Nat.lt_trichotomy f' f with z | z | z
  · rcases P.fst with y | ⟨c, hc, y⟩
    · omega
    · have := P.le
      exact absurd hc (P'.no c (by omega) (by omega))
  · exact z
  · rcases P'.fst with y | ⟨c, hc, y⟩
    · omega
    · have := P'.le
      exact absurd hc (P.no c (by omega) (by omega))
/-- where the i-th part begins -/
def First (ms : List Int) (i first : Nat) : Prop := (i = 0 ∧ first = 0) ∨ ∃ j p : Nat, i = j + 1 ∧ ms[j]? = some (p : Int) ∧ first = p + 1
/-- the list of open creases, sorted -/
structure Srt (n : Nat) (L : Nat → Prop) (ms : List Int) : Prop where
  mem : ∀ x, x ∈ ms ↔ ∃ c : Nat, L c ∧ x = (c : Int)
  inc : ms.Pairwise (· < ·)
  bnd : ∀ c, L c → c + 1 < n
theorem Srt.lt {n : Nat} {L : Nat → Prop} {ms : List Int} (S : Srt n L ms) {i j : Nat} {x y : Int} (hi : ms[i]? = some x) (hj : ms[j]? = some y) (h : i < j) : x < y := by
  obtain ⟨l1, e1⟩ := List.getElem?_eq_some_iff.mp hi
  obtain ⟨l2, e2⟩ := List.getElem?_eq_some_iff.mp hj
  rw [← e1, ← e2]
  exact List.pairwise_iff_getElem.mp S.inc i j l1 l2 h
theorem Srt.le {n : Nat} {L : Nat → Prop} {ms : List Int} (S : Srt n L ms) {i j : Nat} {x y : Int} (hi : ms[i]? = some x) (hj : ms[j]? = some y) (h : i ≤ j) : x ≤ y := by
  by_cases e : i = j
  · subst e
    rw [hi] at hj
    cases hj
    omega
  · have := S.lt hi hj (by omega)
    omega
theorem Srt.at {n : Nat} {L : Nat → Prop} {ms : List Int} (S : Srt n L ms) (hn : 1 ≤ n) {i first : Nat} (hi : i ≤ ms.length) (F : First ms i first) :
    ∃ last : Nat, (ms ++ [((n : Int) - 1)])[i]? = some (last : Int) ∧ Part n L first last ∧ (i < ms.length → First ms (i + 1) (last + 1) ∧ last + 1 < n) ∧ (i = ms.length → last + 1 = n) := by
  have hF : first = 0 ∨ ∃ j p : Nat, i = j + 1 ∧ ms[j]? = some (p : Int) ∧ first = p + 1 ∧ L p := by
    rcases F with ⟨_, z⟩ | ⟨j, p, h1, h2, h3⟩
    · exact .inl z
    · obtain ⟨c, hc, e⟩ := (S.mem p).mp (List.mem_of_getElem? h2)
      have e' : c = p := by omega
      subst e'
      exact .inr ⟨j, c, h1, h2, h3, hc⟩
  by_cases hk : i < ms.length
  · obtain ⟨c, hc, e⟩ := (S.mem _).mp (List.getElem_mem hk)
    have hg : ms[i]? = some (c : Int) := by rw [List.getElem?_eq_getElem hk, e]
    have hb := S.bnd c hc
    refine ⟨c, by rw [List.getElem?_append_left hk]; exact hg, ⟨?_, by omega, ?_, .inr hc, fun e h1 h2 he => ?_⟩, fun _ => ⟨.inr ⟨i, c, rfl, hg, rfl⟩, hb⟩, fun z => by omega⟩
    · rcases hF with z | ⟨j, p, h1, h2, h3, h4⟩
      · omega
      · have := S.lt h2 hg (by omega)
        omega
    · rcases hF with z | ⟨j, p, h1, h2, h3, h4⟩
      · exact .inl z
      · exact .inr ⟨p, h4, h3⟩
    · obtain ⟨q, hq⟩ := List.getElem?_of_mem ((S.mem (e : Int)).mpr ⟨e, he, rfl⟩)
      by_cases hqi : i ≤ q
      · have := S.le hg hq hqi
        omega
      · rcases hF with z | ⟨j, p, h3, h4, h5, h6⟩
        · rcases F with ⟨z1, _⟩ | ⟨j, p, _, _, z2⟩
          · omega
          · omega
        · have := S.le hq h4 (by omega)
          omega
  · have ei : i = ms.length := by omega
    refine ⟨n - 1, ?_, ⟨?_, by omega, ?_, .inl (by omega), fun e h1 h2 he => ?_⟩, fun z => absurd z hk, fun _ => by omega⟩
    · rw [List.getElem?_append_right (by omega), ei, Nat.sub_self]
      simp
      omega
    · rcases hF with z | ⟨j, p, h1, h2, h3, h4⟩
      · omega
      · have := S.bnd p h4
        omega
    · rcases hF with z | ⟨j, p, h1, h2, h3, h4⟩
      · exact .inl z
      · exact .inr ⟨p, h4, h3⟩
    · obtain ⟨q, hq⟩ := List.getElem?_of_mem ((S.mem (e : Int)).mpr ⟨e, he, rfl⟩)
      have hql := (List.getElem?_eq_some_iff.mp hq).1
      rcases hF with z | ⟨j, p, h3, h4, h5, h6⟩
      · rcases F with ⟨z1, _⟩ | ⟨j, p, _, _, z2⟩
        · omega
        · omega
      · have := S.le hq h4 (by omega)
        omega
/-- all parts below `first` are in order -/
def Upto (ps : List Int) (L : Nat → Prop) (first : Nat) : Prop := ∀ f l, Part ps.length L f l → l < first → Seg ps f l
theorem Upto.zero {ps : List Int} {L : Nat → Prop} : Upto ps L 0 := fun f l _ h => by omega
theorem Upto.step {ps : List Int} {L : Nat → Prop} {first last : Nat} (U : Upto ps L first) (P : Part ps.length L first last) (S : Seg ps first last) : Upto ps L (last + 1) := fun f l Q h => by
  by_cases z : l < first
  · exact U f l Q z
  · obtain ⟨e1, e2⟩ := part_only P Q (by omega) (by omega)
    subst e1 e2
    exact S
end Pl
namespace Pl
open PySem L2
/-- the sign of a crease: V is 86, M is 77 -/
def lc (ps : List Int) (c : Nat) : Nat := if decide (ps.getD c 0 < ps.getD (c + 1) 0) = decide (c % 2 = 0) then 86 else 77
def lcs (ps : List Int) : List Nat := (List.range (ps.length - 1)).map (lc ps)
/-- signs that are letters -/
def Lets (cs : List Nat) : Prop := ∀ c ∈ cs, c = 86 ∨ c = 77
theorem lcs_lets (ps : List Int) : Lets (lcs ps) := fun c hc => by
  obtain ⟨i, _, rfl⟩ := List.mem_map.mp hc
  unfold lc
  split
  · exact .inl rfl
  · exact .inr rfl
theorem lcs_length (ps : List Int) : (lcs ps).length = ps.length - 1 := by unfold lcs; rw [List.length_map, List.length_range]
theorem shf_lt (g a b : Int) : (shf g a < shf g b) ↔ a < b := by unfold shf; split <;> split <;> omega
theorem lc_old {ns : List Int} {n g c : Nat} (h : ns.Perm (iota n)) (hg : g ≤ n) (hc : c + 1 < n) : lc (plc (ins ns g)) c = lc (plc ns) c := by
  unfold lc
  rw [plc_old h hg (by omega), plc_old h hg hc]
  have e : decide (shf g ((plc ns).getD c 0) < shf g ((plc ns).getD (c + 1) 0)) = decide ((plc ns).getD c 0 < (plc ns).getD (c + 1) 0) := Bool.eq_iff_iff.mpr (by rw [decide_eq_true_eq, decide_eq_true_eq]; exact shf_lt _ _ _)
  rw [e]
theorem lc_new {ns : List Int} {n g : Nat} (h : ns.Perm (iota n)) (h1 : 1 ≤ n) (hg : g ≤ n) : lc (plc (ins ns g)) (n - 1) = if decide ((plc ns).getD (n - 1) 0 < (g : Int)) = decide ((n - 1) % 2 = 0) then 86 else 77 := by
  unfold lc
  rw [plc_old h hg (by omega), show n - 1 + 1 = n by omega, plc_new h hg]
  have e : decide (shf g ((plc ns).getD (n - 1) 0) < (g : Int)) = decide ((plc ns).getD (n - 1) 0 < (g : Int)) := Bool.eq_iff_iff.mpr (by rw [decide_eq_true_eq, decide_eq_true_eq]; unfold shf; split <;> omega)
  rw [e]
theorem lcs_ins {ns : List Int} {n g : Nat} (h : ns.Perm (iota n)) (h1 : 1 ≤ n) (hg : g ≤ n) : lcs (plc (ins ns g)) = lcs (plc ns) ++ [lc (plc (ins ns g)) (n - 1)] := by
  unfold lcs
  rw [plc_length, perm_len (ins_perm h g), plc_length, perm_len h, show n + 1 - 1 = (n - 1) + 1 by omega, List.range_succ, List.map_append]
  congr 1
  refine List.map_congr_left fun c hc => ?_
  have := List.mem_range.mp hc
  exact lc_old h hg (by omega)
theorem nox_single : NoX (plc [0]) := fun a b hab hb => by have e : (plc [0]).length = 1 := rfl; omega
/-- beside the last stamp, above or below: any letter -/
theorem beside_letter {ns : List Int} {n : Nat} (h : ns.Perm (iota n)) (h1 : 1 ≤ n) (hx : NoX (plc ns)) {x : Nat} (hl : x = 86 ∨ x = 77) : ∃ g : Nat, g ≤ n ∧ NoX (plc (ins ns g)) ∧ lc (plc (ins ns g)) (n - 1) = x := by
  obtain ⟨j, j1, j2, j3⟩ := plc_get h (s := n - 1) (by omega)
  have hj := plc_at h j3
  have lo : lc (plc (ins ns j)) (n - 1) = if false = decide ((n - 1) % 2 = 0) then 86 else 77 := by
    rw [lc_new h h1 (by omega), hj, decide_eq_false (by omega)]
  have up : lc (plc (ins ns (j + 1))) (n - 1) = if true = decide ((n - 1) % 2 = 0) then 86 else 77 := by
    rw [lc_new h h1 (by omega), hj, decide_eq_true (by omega)]
  have n0 : NoX (plc (ins ns j)) := (nox_ins h h1 (by omega)).mpr ⟨hx, fit_beside (e := 0) h h1 (by omega) (by rw [hj]; simp)⟩
  have n1 : NoX (plc (ins ns (j + 1))) := (nox_ins h h1 (by omega)).mpr ⟨hx, fit_beside (e := 1) h h1 (by omega) (by rw [hj]; simp)⟩
  cases e : decide ((n - 1) % 2 = 0) with
  | true =>
    rw [e] at lo up
    rcases hl with rfl | rfl
    · exact ⟨j + 1, by omega, n1, by rw [up]; rfl⟩
    · exact ⟨j, by omega, n0, by rw [lo]; rfl⟩
  | false =>
    rw [e] at lo up
    rcases hl with rfl | rfl
    · exact ⟨j, by omega, n0, by rw [lo]; rfl⟩
    · exact ⟨j + 1, by omega, n1, by rw [up]; rfl⟩
/-- for each row of letters there is a foldable pile -/
theorem some_pile (cs : List Nat) : Lets cs → ∃ ms : List Int, ms.Perm (iota (cs.length + 1)) ∧ NoX (plc ms) ∧ lcs (plc ms) = cs := by
  induction hn : cs.length generalizing cs with
  | zero =>
    intro _
    rw [List.length_eq_zero_iff] at hn
    subst hn
    exact ⟨[0], List.Perm.refl _, nox_single, rfl⟩
  | succ n ih =>
    intro hl
    obtain ⟨ds, x, rfl⟩ : ∃ ds x, cs = ds ++ [x] := by
      rcases List.eq_nil_or_concat cs with h | ⟨ds, x, h⟩
      · rw [h] at hn; cases hn
      · exact ⟨ds, x, by simpa using h⟩
    have ln : ds.length = n := by simpa using hn
    obtain ⟨ms, pm, nx, e⟩ := ih ds ln (fun c hc => hl c (List.mem_append_left _ hc))
    obtain ⟨g, hg, nx', e'⟩ := beside_letter pm (by omega) nx (hl x (by simp))
    refine ⟨ins ms g, ins_perm pm g, nx', ?_⟩
    rw [lcs_ins pm (by omega) hg, e, e']
end Pl
namespace L2
open PySem PySem.Spec PyProof.Rows
section
variable {X : Cx}
/-- how often a text stands in a text -/
def rCount : V → List V → Hp → VK → Prop := fun x vs H Q => ∃ a b : Str, x = .str a ∧ vs = [.str b] ∧ Q (.int (Txt.count a b)) H
theorem mt_count : MtR X "str.count" rCount := by
  intro pins s σ H x xs v us Q I rx rs h
  obtain ⟨a, b, rfl, rfl, q⟩ := h
  obtain ⟨t, rfl⟩ := rx
  obtain ⟨u, rfl, ru⟩ := Vals.one rs
  obtain ⟨t2, rfl⟩ := ru
  exact SC.count ⟨.int (Txt.count a b), H, I.tok _, ⟨_, rfl⟩, q⟩
/-- l.insert(0, y) -/
def rIns0 : V → List V → Hp → VK → Prop := fun x vs H Q => ∃ l xs y, x = .ref l ∧ vs = [.int 0, y] ∧ H l = some (.lst xs) ∧ xs.length < sizeLine ∧ Q .non (upd H l (.lst (y :: xs)))
/-! ### for i, x in enumerate(text) -/
def IteS (z : Str) : It :=
  ⟨fun i _ => i < z.cps.size, fun i H x H' => ∃ t c, H t = none ∧ x = .ref t ∧ H' = upd H t (.tup [.int i, .str ⟨#[c]⟩]) ∧ z.cps[i]? = some c, fun i _ => z.cps.size ≤ i⟩
def iEnumS (ta : TA) : TI := fun σ H R => ta σ H fun vs H1 => ∃ z : Str, vs = [.str z] ∧ R (IteS z) H1
end
end L2
namespace Pl
open PySem L2
theorem two_sum : ∀ l : List Nat, ∃ k : Nat, (k : Int) + ((l.map fun n => if decide (n = 86) = true then (1 : Int) else 0).sum + (l.map fun n => if decide (n = 77) = true then (1 : Int) else 0).sum) = l.length ∧ (k = 0 ↔ Lets l)
  | [] => ⟨0, by simp, ⟨fun _ c hc => (by cases hc), fun _ => rfl⟩⟩
  | n :: r => by
    obtain ⟨k, e, i⟩ := two_sum r
    rw [List.map_cons, List.map_cons, List.sum_cons, List.sum_cons, List.length_cons]
    by_cases h1 : n = 86
    · subst h1
      refine ⟨k, by simp only [decide_true, if_true, show ((86 : Nat) = 77) = False by simp, decide_false, Bool.false_eq_true, if_false]; omega, i.trans ⟨fun L c hc => ?_, fun L c hc => L c (List.mem_cons_of_mem _ hc)⟩⟩
      rcases List.mem_cons.mp hc with rfl | hc
      · exact .inl rfl
      · exact L c hc
    · by_cases h2 : n = 77
      · subst h2
        refine ⟨k, by simp only [decide_true, if_true, show ((77 : Nat) = 86) = False by simp, decide_false, Bool.false_eq_true, if_false]; omega, i.trans ⟨fun L c hc => ?_, fun L c hc => L c (List.mem_cons_of_mem _ hc)⟩⟩
        rcases List.mem_cons.mp hc with rfl | hc
        · exact .inr rfl
        · exact L c hc
      · refine ⟨k + 1, by simp only [h1, h2, decide_false, Bool.false_eq_true, if_false]; omega, ⟨fun z => by omega, fun L => ?_⟩⟩
        exact absurd (L n (List.mem_cons_self ..)) (by omega)
/-- V and M alone, by counting -/
theorem count_lets (z : Str) : (Txt.count z "V" + Txt.count z "M" = (z.length : Int)) ↔ Lets z.cps.toList := by
  have a : Txt.count z "V" = _ := PyProof.Rows.count_is z 86
  have b : Txt.count z "M" = _ := PyProof.Rows.count_is z 77
  rw [PyProof.Rows.countIn_signs_sum] at a b
  rw [a, b]
  obtain ⟨k, e, i⟩ := two_sum z.cps.toList
  have el : (z.length : Int) = z.cps.toList.length := by rw [Array.length_toList]; rfl
  rw [el, ← i]
  omega
/-- above or beneath all others, where the last one lies so too -/
theorem end_nox {ns : List Int} {n g : Nat} (h : ns.Perm (iota n)) (h1 : 1 ≤ n) (hx : NoX (plc ns)) (he : (plc ns).getD (n - 1) 0 = 0 ∨ (plc ns).getD (n - 1) 0 = (n : Int) - 1) (hg : g = 0 ∨ g = n) : NoX (plc (ins ns g)) := by
  refine (nox_ins h h1 (by omega)).mpr ⟨hx, fun c hc _ => ?_⟩
  have r0 := plc_rng h (s := c) (by omega)
  have r1 := plc_rng h (s := c + 1) (by omega)
  have e1 : wr (plc ns) c (n - 1) = false := by
    unfold wr
    rw [Bool.and_eq_false_iff, decide_eq_false_iff_not, decide_eq_false_iff_not]
    omega
  rw [e1]
  symm
  rw [Bool.and_eq_false_iff, decide_eq_false_iff_not, decide_eq_false_iff_not]
  omega
/-- the pile after i letters -/
def PileAt (cs : List Nat) (i : Nat) (ms : List Int) : Prop := ms.Perm (iota (i + 1)) ∧ NoX (plc ms) ∧ lcs (plc ms) = cs.take i ∧ ((plc ms).getD i 0 = 0 ∨ (plc ms).getD i 0 = (i : Int))
theorem PileAt.zero (cs : List Nat) : PileAt cs 0 [0] := ⟨List.Perm.refl _, nox_single, rfl, .inl rfl⟩
theorem PileAt.ins {cs : List Nat} {i c g : Nat} {ms : List Int} (h : PileAt cs i ms) (hc : cs[i]? = some c) (hg : g = 0 ∨ g = i + 1) (he : (if decide ((0 : Int) < g) = decide (i % 2 = 0) then 86 else 77) = c) : PileAt cs (i + 1) (Pl.ins ms g) := by
  obtain ⟨p, x, l, e⟩ := h
  have hr := plc_rng p (s := i) (by omega)
  refine ⟨ins_perm p g, end_nox p (by omega) x (by rw [show i + 1 - 1 = i by omega]; omega) hg, ?_, ?_⟩
  · rw [lcs_ins p (by omega) (by omega), l, List.take_succ, hc, lc_new p (by omega) (by omega), show i + 1 - 1 = i by omega]
    have ed : decide ((plc ms).getD i 0 < (g : Int)) = decide ((0 : Int) < g) := Bool.eq_iff_iff.mpr (by rw [decide_eq_true_eq, decide_eq_true_eq]; omega)
    rw [ed, he]
    rfl
  · rw [plc_new p (by omega)]
    omega
end Pl
namespace L2
open PySem PySem.Spec PyProof.Rows
/-- a comprehension over a range, each item by a relation; items may be new objects -/
theorem lc_rangeR {lo : Int} {n : Nat} {l : Addr} {H1 : Hp} {te : TE} {σ' : St} {Q : VK} (Rv : Nat → V → Hp → Prop) (st : ∀ i v H H', Rv i v H → (∀ b o, b ≠ l → H b = some o → H' b = some o) → Rv i v H') (hn : n ≤ 1000) (hl : H1 l = none)
    (he : ∀ (i : Nat) ys H2 (R : VK), i < n → Same H1 H2 → H2 l = some (.lst ys) → (∀ v H3, Same H2 H3 → Rv i v H3 → R v H3) → te (some (.int (lo + (i : Nat))) :: σ') H2 R)
    (hq : ∀ vs H2, Same H1 H2 → H2 l = some (.lst vs) → vs.length = n → (∀ i v, vs[i]? = some v → Rv i v H2) → Q (.ref l) H2) :
    LCG (Itr lo n) l σ' tAlw te Q H1 := by
  refine ⟨fun i m H2 => m = n - i ∧ i ≤ n ∧ Same H1 H2 ∧ ∃ vs, H2 l = some (.lst vs) ∧ vs.length = i ∧ ∀ j v, vs[j]? = some v → Rv j v H2, ⟨n, by simp, Nat.zero_le _, fun b o e => by rw [upd_ne (ne_of_none e hl)]; exact e, [], upd_same, rfl, fun j v z => by simp at z⟩, ?_⟩
  rintro i m H2 ⟨rfl, hi, s2, vs, h2, vl, hv⟩
  by_cases hlt : i < n
  · refine .inr ⟨hlt, fun x H3 y => ?_⟩
    obtain ⟨e, y⟩ := y
    subst e y
    unfold tAlw
    dsimp only
    rw [if_pos rfl]
    refine he i vs _ _ hlt s2 h2 fun v H4 s4 r4 => ⟨vs, n - (i + 1), s4 _ _ h2, small1000 (by omega), by omega, rfl, hlt, fun b o e => ?_, vs ++ [v], upd_same, by simp [vl], fun j u hu => ?_⟩
    · rw [upd_ne (ne_of_none e hl)]
      exact s4 _ _ (s2 _ _ e)
    · have keep : ∀ b o, b ≠ l → H4 b = some o → upd H4 l (.lst (vs ++ [v])) b = some o := fun b o nb e => by rw [upd_ne nb]; exact e
      by_cases hj : j < vs.length
      · rw [List.getElem?_append_left hj] at hu
        exact st _ _ _ _ (st _ _ _ _ (hv j u hu) fun b o _ e => s4 b o e) keep
      · rw [List.getElem?_append_right (by omega)] at hu
        have ej : j - vs.length = 0 := by
          cases hk : j - vs.length with
          | zero => rfl
          | succ k => rw [hk] at hu; simp at hu
        rw [ej] at hu
        have eu : v = u := by simpa using hu
        subst eu
        have : j = i := by omega
        subst this
        exact st _ _ _ _ r4 keep
  · have e : i = n := by omega
    subst e
    exact .inl ⟨Nat.le_refl _, hq vs H2 s2 h2 vl hv⟩
/-- a list of lists of ints, with their addresses -/
structure LZ (H : Hp) (l : Addr) (zs : List (Addr × List Int)) : Prop where
  lst : H l = some (.lst (zs.map fun z => V.ref z.1))
  at_ : ∀ z ∈ zs, H z.1 = some (.lst (z.2.map V.int))
theorem LZ.same {H H' : Hp} {l : Addr} {zs : List (Addr × List Int)} (x : LZ H l zs) (s : Same H H') : LZ H' l zs := ⟨s _ _ x.lst, fun z hz => s _ _ (x.at_ z hz)⟩
theorem LZ.but {H H' : Hp} {l k : Addr} {zs : List (Addr × List Int)} (x : LZ H l zs) (hl : l ≠ k) (hk : ∀ z ∈ zs, z.1 ≠ k) (s : ∀ b o, b ≠ k → H b = some o → H' b = some o) : LZ H' l zs := ⟨s _ _ hl x.lst, fun z hz => s _ _ (hk z hz) (x.at_ z hz)⟩
theorem LZ.ll {H : Hp} {l : Addr} {zs : List (Addr × List Int)} (x : LZ H l zs) : LL H l (zs.map (·.1)) (zs.map (·.2)) where
  lst := by rw [x.lst, List.map_map]; rfl
  len := by rw [List.length_map, List.length_map]
  at_ := fun i a p h1 h2 => by
    rw [List.getElem?_map] at h1 h2
    cases e : zs[i]? with
    | none => rw [e] at h1; cases h1
    | some z =>
      rw [e] at h1 h2
      have h1 : z.1 = a := by simpa using h1
      have h2 : z.2 = p := by simpa using h2
      rw [← h1, ← h2]
      exact x.at_ z (List.mem_of_getElem? e)
theorem LL.lz {H : Hp} {l : Addr} {as : List Addr} {pss : List (List Int)} (x : LL H l as pss) : LZ H l (as.zip pss) ∧ (as.zip pss).map (·.2) = pss := by
  have e1 : (as.zip pss).map (·.1) = as := List.map_fst_zip (by rw [x.len]; exact Nat.le_refl _)
  have e2 : (as.zip pss).map (·.2) = pss := List.map_snd_zip (by rw [x.len]; exact Nat.le_refl _)
  refine ⟨⟨?_, fun z hz => ?_⟩, e2⟩
  · rw [x.lst]
    conv => lhs; rw [← e1]
    rw [List.map_map]
    rfl
  · obtain ⟨i, hi⟩ := List.getElem?_of_mem hz
    refine x.at_ i z.1 z.2 ?_ ?_
    · have : ((as.zip pss).map (·.1))[i]? = some z.1 := by rw [List.getElem?_map, hi]; rfl
      rw [e1] at this
      exact this
    · have : ((as.zip pss).map (·.2))[i]? = some z.2 := by rw [List.getElem?_map, hi]; rfl
      rw [e2] at this
      exact this
end L2
namespace Pl
open PySem L2
open Classical in
noncomputable def noxb (ms : List Int) : Bool := decide (NoX (plc ms))
theorem noxb_iff (ms : List Int) : noxb ms = true ↔ NoX (plc ms) := by unfold noxb; simp
/-- the piles that come of one with one stamp more -/
noncomputable def block (ms : List Int) : List (List Int) := ((List.range (ms.length + 1)).map (ins ms)).filter noxb
noncomputable def grown : List (List Int) → List (List Int)
  | [] => []
  | ms :: r => block ms ++ grown r
theorem grown_app : ∀ a b : List (List Int), grown (a ++ b) = grown a ++ grown b
  | [], b => rfl
  | m :: a, b => by
    show block m ++ grown (a ++ b) = (block m ++ grown a) ++ grown b
    rw [grown_app a b, List.append_assoc]
theorem grown_one (m : List Int) : grown [m] = block m := by show block m ++ [] = _; rw [List.append_nil]
theorem mem_grown {x : List Int} : ∀ {pss : List (List Int)}, x ∈ grown pss ↔ ∃ ms ∈ pss, x ∈ block ms
  | [] => ⟨fun h => (by cases h), fun ⟨_, h, _⟩ => (by cases h)⟩
  | m :: r => by
    show x ∈ block m ++ grown r ↔ _
    rw [List.mem_append, mem_grown (pss := r)]
    constructor
    · rintro (h | ⟨y, h1, h2⟩)
      · exact ⟨m, List.mem_cons_self .., h⟩
      · exact ⟨y, List.mem_cons_of_mem _ h1, h2⟩
    · rintro ⟨y, h1, h2⟩
      rcases List.mem_cons.mp h1 with rfl | h1
      · exact .inl h2
      · exact .inr ⟨y, h1, h2⟩
theorem mem_block {ms x : List Int} : x ∈ block ms ↔ (∃ g, g ≤ ms.length ∧ x = ins ms g) ∧ NoX (plc x) := by
  unfold block
  rw [List.mem_filter, noxb_iff, List.mem_map]
  constructor
  · rintro ⟨⟨g, h1, rfl⟩, h2⟩
    exact ⟨⟨g, by have := List.mem_range.mp h1; omega, rfl⟩, h2⟩
  · rintro ⟨⟨g, h1, rfl⟩, h2⟩
    exact ⟨⟨g, List.mem_range.mpr (by omega), rfl⟩, h2⟩
/-- the last stamp taken out -/
theorem out_ins {ms : List Int} {n g : Nat} (h : ms.Perm (iota n)) : (ins ms g).filter (fun x => decide (x ≠ (n : Int))) = ms := by
  have hl := perm_len h
  have a : ∀ l : List Int, (∀ x ∈ l, x ∈ ms) → l.filter (fun x => decide (x ≠ (n : Int))) = l := fun l hs => List.filter_eq_self.mpr fun x hx => by
    have := (perm_mem h).mp (hs x hx)
    exact decide_eq_true (by omega)
  unfold ins
  rw [List.filter_append, List.filter_append, a _ fun x hx => List.mem_of_mem_take hx, a _ fun x hx => List.mem_of_mem_drop hx, hl]
  simp
theorem block_nodup {ms : List Int} {n : Nat} (h : ms.Perm (iota n)) : (block ms).Nodup := by
  have hl := perm_len h
  unfold block
  refine List.Nodup.sublist List.filter_sublist ?_
  unfold List.Nodup
  rw [List.pairwise_map]
  refine List.Pairwise.imp_of_mem ?_ (List.nodup_range (n := ms.length + 1))
  intro a b ha hb ne e
  have ha := List.mem_range.mp ha
  have hb := List.mem_range.mp hb
  have h1 := ins_get_new (ns := ms) (g := a) (by omega)
  have h2 := ins_get_new (ns := ms) (g := b) (by omega)
  rw [e] at h1
  exact ne (nodup_at (perm_nodup (ins_perm h b)) h1 h2)
/-- every pile comes of a smaller one -/
theorem unins {xs : List Int} {n : Nat} (h : xs.Perm (iota (n + 1))) : ∃ (ms : List Int) (g : Nat), ms.Perm (iota n) ∧ g ≤ ms.length ∧ xs = ins ms g := by
  have hm : (n : Int) ∈ xs := (perm_mem h).mpr (by omega)
  obtain ⟨s, t, rfl⟩ := List.append_of_mem hm
  have p : (s ++ t).Perm (iota n) := by
    have h1 : ((n : Int) :: (s ++ t)).Perm ((n : Int) :: iota n) := (List.perm_middle.symm.trans h).trans (by rw [iota_succ]; exact List.perm_append_comm)
    exact List.Perm.cons_inv h1
  refine ⟨s ++ t, s.length, p, by simp, ?_⟩
  unfold ins
  rw [perm_len p, List.take_left, List.drop_left, List.append_assoc]
  rfl
/-- all foldable piles of n stamps, each once -/
def AllP (n : Nat) (pss : List (List Int)) : Prop := pss.Nodup ∧ ∀ ms, ms ∈ pss ↔ ms.Perm (iota n) ∧ NoX (plc ms)
theorem grown_nodup {n : Nat} : ∀ {pss : List (List Int)}, pss.Nodup → (∀ ms ∈ pss, ms.Perm (iota n)) → (grown pss).Nodup
  | [], _, _ => List.nodup_nil
  | m :: r, nd, hp => by
    have pm := hp m (List.mem_cons_self ..)
    obtain ⟨nm, nr⟩ := List.nodup_cons.mp nd
    show (block m ++ grown r).Nodup
    refine List.nodup_append.mpr ⟨block_nodup pm, grown_nodup nr fun ms h => hp ms (List.mem_cons_of_mem _ h), fun a ha b hb e => ?_⟩
    subst e
    obtain ⟨y, h1, h2⟩ := mem_grown.mp hb
    obtain ⟨⟨g, _, rfl⟩, _⟩ := mem_block.mp ha
    obtain ⟨⟨g2, _, e2⟩, _⟩ := mem_block.mp h2
    have o1 := out_ins (g := g) pm
    have o2 := out_ins (g := g2) (hp y (List.mem_cons_of_mem _ h1))
    rw [e2, o2] at o1
    exact nm (o1 ▸ h1)
theorem AllP.step {n : Nat} {pss : List (List Int)} (h1 : 1 ≤ n) (h : AllP n pss) : AllP (n + 1) (grown pss) := by
  refine ⟨grown_nodup h.1 fun ms hm => ((h.2 ms).mp hm).1, fun x => ?_⟩
  rw [mem_grown]
  constructor
  · rintro ⟨ms, hm, hb⟩
    obtain ⟨⟨g, _, rfl⟩, hx⟩ := mem_block.mp hb
    exact ⟨ins_perm ((h.2 ms).mp hm).1 g, hx⟩
  · rintro ⟨hp, hx⟩
    obtain ⟨ms, g, pm, hg, rfl⟩ := unins hp
    have hl := perm_len pm
    exact ⟨ms, (h.2 ms).mpr ⟨pm, ((nox_ins pm h1 (by omega)).mp hx).1⟩, mem_block.mpr ⟨⟨g, hg, rfl⟩, hx⟩⟩
theorem AllP.one : AllP 1 [[0]] := by
  refine ⟨by decide, fun ms => ?_⟩
  rw [List.mem_singleton]
  constructor
  · rintro rfl
    exact ⟨List.Perm.refl _, nox_single⟩
  · rintro ⟨hp, _⟩
    exact List.perm_singleton.mp hp
theorem block_len (ms : List Int) : (block ms).length ≤ ms.length + 1 := by
  unfold block
  refine Nat.le_trans (List.length_filter_le _ _) ?_
  rw [List.length_map, List.length_range]
  exact Nat.le_refl _
theorem grown_len {n : Nat} : ∀ {pss : List (List Int)}, (∀ ms ∈ pss, ms.length = n) → (grown pss).length ≤ pss.length * (n + 1)
  | [], _ => Nat.zero_le _
  | m :: r, h => by
    have a := block_len m
    rw [h m (List.mem_cons_self ..)] at a
    have b := grown_len (pss := r) fun ms hm => h ms (List.mem_cons_of_mem _ hm)
    show (block m ++ grown r).length ≤ (r.length + 1) * (n + 1)
    rw [List.length_append, Nat.add_mul]
    omega
def fac : Nat → Nat
  | 0 => 1
  | n + 1 => fac n * (n + 1)
theorem fac7 {n : Nat} (h : n ≤ 7) : fac n ≤ 10000 := by
  have : n = 0 ∨ n = 1 ∨ n = 2 ∨ n = 3 ∨ n = 4 ∨ n = 5 ∨ n = 6 ∨ n = 7 := by omega
  rcases this with rfl | rfl | rfl | rfl | rfl | rfl | rfl | rfl <;> decide
end Pl
namespace L2
open PySem PySem.Spec PyProof.Rows
theorem sl_listK {X : Cx} {K : PySem.W.Frag} (h : X.K = K) : SlR X (rSlL K) := h ▸ sl_list
theorem keys_of : ∀ {vs : List V} {G : Nat → Addr → Prop}, (∀ i v, vs[i]? = some v → ∃ a, v = .ref a ∧ G i a) → ∃ as : List Addr, vs = as.map V.ref ∧ ∀ i a, as[i]? = some a → G i a
  | [], G, _ => ⟨[], rfl, fun i a z => by simp at z⟩
  | v :: vs, G, h => by
    obtain ⟨a, e, g⟩ := h 0 v rfl
    obtain ⟨as, e2, g2⟩ := keys_of (vs := vs) (G := fun i a => G (i + 1) a) fun i u hu => h (i + 1) u hu
    subst e e2
    refine ⟨a :: as, rfl, fun i b hb => ?_⟩
    cases i with
    | zero =>
      have : a = b := by simpa using hb
      subst this
      exact g
    | succ i => exact g2 i b hb
/-- a list of new lists, by their numbers -/
theorem lz_of {H : Hp} {l : Addr} {vs : List V} {n : Nat} {f : Nat → List Int} {G : Addr → Prop} (hl : H l = some (.lst vs)) (hn : vs.length = n) (hv : ∀ i v, vs[i]? = some v → ∃ a, v = .ref a ∧ G a ∧ H a = some (.lst ((f i).map V.int))) :
    ∃ zs : List (Addr × List Int), LZ H l zs ∧ (∀ z ∈ zs, G z.1) ∧ zs.map (·.2) = (List.range n).map f := by
  obtain ⟨as, e, g⟩ := keys_of hv
  subst e
  rw [List.length_map] at hn
  have lx : LL H l as ((List.range n).map f) := ⟨hl, by rw [List.length_map, List.length_range, hn], fun i a p h1 h2 => by
    obtain ⟨_, h3⟩ := g i a h1
    rw [List.getElem?_map] at h2
    cases e : (List.range n)[i]? with
    | none => rw [e] at h2; cases h2
    | some j =>
      have ej : i = j := by
        have hi := (List.getElem?_eq_some_iff.mp e).1
        rw [List.length_range] at hi
        rw [List.getElem?_range hi] at e
        exact Option.some.inj e
      subst ej
      rw [e] at h2
      have : f i = p := by simpa using h2
      rw [← this]
      exact h3⟩
  obtain ⟨z1, z2⟩ := lx.lz
  refine ⟨_, z1, fun z hz => ?_, z2⟩
  obtain ⟨h1, h2⟩ := List.of_mem_zip (a := z.1) (b := z.2) (by simpa using hz)
  obtain ⟨i, hi⟩ := List.getElem?_of_mem h1
  exact (g i z.1 hi).1
theorem line_big {n : Nat} (h : n ≤ 1048575) : n < sizeLine := by have := line20; omega
theorem LZ.nil {H : Hp} {l : Addr} (h : H l = some (.lst [])) : LZ H l [] := ⟨h, fun z hz => by cases hz⟩
end L2
namespace Sf
open PySem L2 Pl
def top (i : Nat) : Stmt := PySem.Challenge.pw_stripfold_k08_whole_listed.main.body.getD i (.Pass ⟨0, 0, 0, 0⟩)
abbrev s_StripError : Stmt := top 1
abbrev s_NoPile : Stmt := top 2
abbrev s_NoLetters : Stmt := top 3
abbrev s_NoCount : Stmt := top 4
abbrev sCheck : Stmt := top 6
abbrev sPlaces : Stmt := top 7
abbrev sLetter : Stmt := top 8
abbrev sLetters : Stmt := top 9
abbrev sWraps : Stmt := top 11
abbrev sCross : Stmt := top 12
abbrev sCrossing : Stmt := top 13
abbrev s_check_row : Stmt := top 16
abbrev s_check_count : Stmt := top 17
abbrev s_laid_in : Stmt := top 18
abbrev s_piles : Stmt := top 19
abbrev s_piles_with : Stmt := top 20
abbrev sDrawn : Stmt := top 22
abbrev sNumber : Stmt := top 23
abbrev sCounts : Stmt := top 24
abbrev s_law_is_pile : Stmt := top 25
abbrev sLPlaces : Stmt := top 26
abbrev sPile : Stmt := top 27
abbrev sFits : Stmt := top 28
abbrev sGood : Stmt := top 29
abbrev sLWraps : Stmt := top 30
abbrev sNone : Stmt := top 31
abbrev s_law_letters : Stmt := top 32
abbrev s_law_all_good : Stmt := top 33
abbrev sLaw : Stmt := top 34
end Sf
namespace Sf
open PySem L2 Pl
/-- Python's own names are not given another meaning at the text's top -/
structure Own (mg : Str → Option Value) : Prop where
  len : mg "len" = none
  sorted : mg "sorted" = none
  list : mg "list" = none
  range : mg "range" = none
  enumerate : mg "enumerate" = none
  isinstance : mg "isinstance" = none
  int : mg "int" = none
  str : mg "str" = none
/-- a def of the text, as the top has left it -/
structure Def (K : PySem.W.Frag) (mg : Str → Option Value) (x : Str) (st : Stmt) (ps : List Str) (f : Addr) (fd : FuncData) : Prop where
  fn : Fun K x x st f fd
  bd : Binds K fd ps []
  at_ : mg x = some (.ref f)
theorem boot_list : bootBuiltins "list" = some (.type "list") := by decide +kernel
theorem boot_range' : bootBuiltins "range" = some (.type "range") := by decide +kernel
theorem boot_int : bootBuiltins "int" = some (.type "int") := by decide +kernel
theorem boot_isinstance : bootBuiltins "isinstance" = some (.builtin "isinstance") := by decide +kernel

theorem same_new {H : Hp} {p : Addr} {o : HO} (h : H p = none) : Same H (upd H p o) := fun b u e => by rw [upd_ne (ne_of_none e h)]; exact e
theorem small_line {n : Nat} (h : n ≤ 1000) : n ≤ sizeLine := Nat.le_of_lt (small1000 h)

theorem at_int {ps : List Int} {c : Nat} (h : c < ps.length) : atI (ps.map V.int) (c : Int) = some (.int (ps.getD c 0)) := by
  refine atI_nat ?_
  rw [List.getElem?_map, List.getElem?_eq_getElem h]
  simp [List.getD, h]

theorem rep0 (n : Nat) : (List.replicate n ([V.int 0] : List V)).flatten = (List.replicate n (0 : Int)).map V.int := by
  induction n with
  | zero => rfl
  | succ n ih =>
    rw [List.replicate_succ, List.flatten_cons, ih, List.replicate_succ, List.map_cons]
    rfl

/-! ### the promises -/
def spCheck (K : PySem.W.Frag) : Sp := fun vs H Q _ => ∃ (p : Addr) (ns : List Int) (n : Nat), vs = [.ref p] ∧ SqL K H p (ns.map V.int) ∧ ns.Perm (iota n) ∧ 1 ≤ n ∧ n ≤ 100 ∧ ∀ H', Same H H' → Q .non H'
def spPlaces (K : PySem.W.Frag) : Sp := fun vs H Q _ => ∃ (p : Addr) (ns : List Int) (n : Nat), vs = [.ref p] ∧ SqL K H p (ns.map V.int) ∧ ns.Perm (iota n) ∧ 1 ≤ n ∧ n ≤ 100 ∧ ∀ l H', Same H H' → H l = none → H' l = some (.lst ((plc ns).map V.int)) → Q (.ref l) H'

section
variable {P : Program} {w : World} {K : PySem.W.Frag} {mg : Str → Option Value} {base : Heap}
theorem scCheck : FnScope ["pile"] ["pile"] (defScope sCheck) := ⟨rfl, rfl, rfl, by decide +kernel, rfl, by decide +kernel, by decide +kernel⟩
theorem ok_check {f : Addr} {fd : FuncData} (D : Def K mg "check_pile" sCheck ["pile"] f fd) (T : Own mg) : FnOk P w K mg base CX0 1 f fd ["pile"] (spCheck K) := by
  refine D.fn.ok scCheck (fun vs H Q E h => ?_) (fun cdv A outer s H vs Q E hr h => ?_)
  · obtain ⟨p, ns, n, rfl, _⟩ := h
    rfl
  · obtain ⟨p, ns, n, rfl, hq, hp, h1, h2, k⟩ := h
    have hl := perm_len hp
    refine ⟨_, pss_one (ps_if (pw_or (pt_cmpR op_eq (pe_callB call_len_seq (by rfl) T.len PySem.boot_len (pa_cons (pv 0) pa_nil)) pe_int (nomark _))
      (pw_or1 (pt_cmpR (op_ne_lst hr.units0) (pe_callB call_sorted (by rfl) T.sorted PyProof.Rows.boot_sorted (pa_cons (pv 0) pa_nil))
        (pe_callTy (call_list_rng rfl) (by rfl) T.list boot_list (pa_cons (pe_callTy call_range1 (by rfl) T.range boot_range' (pa_cons (pe_callB call_len_seq (by rfl) T.len PySem.boot_len (pa_cons (pv 0) pa_nil)) pa_nil)) pa_nil)) (nomark _)))).pt
      pss_never pss_nil), ?_⟩
    refine ⟨_, rfl, p, _, rfl, .inl hq, rfl, _, rfl, ?_⟩
    rw [List.length_map, hl]
    refine ite2 (fun z => ?_) (fun _ => ?_)
    · exfalso
      have := of_decide_eq_true z
      injection this with this
      omega
    · refine ⟨_, rfl, p, ns, rfl, hq, by omega, fun l ms hl1 pm so => ?_⟩
      have e : ms = iota n := same_sorted (pm.trans hp) so (iota_sorted n)
      subst e
      have s1 := same_new (o := .lst ((iota n).map V.int)) hl1
      refine ⟨_, rfl, p, _, rfl, .inl (s1.seq hq), _, rfl, fun r hr1 => ?_⟩
      have s2 := same_new (o := .rng 0 ((ns.map V.int).length : Int)) hr1
      rw [List.length_map, hl] at s2 ⊢
      refine ⟨r, 0, (n : Int), rfl, upd_same, by omega, by omega, by omega, by omega, by omega, fun l2 hl2 => ?_⟩
      have s3 := same_new (o := .lst (rngV 0 ((n : Int) - 0).toNat)) hl2
      refine ⟨l, l2, _, _, rfl, rfl, SqL.of (s3 _ _ (s2 _ _ upd_same)), SqL.of upd_same, flat_ints _, ?_, ?_⟩
      · rw [show ((n : Int) - 0).toNat = n by omega, rngV_iota]; exact flat_ints _
      · rw [show ((n : Int) - 0).toNat = n by omega, rngV_iota, eqVs_ints]
        refine ⟨_, rfl, ?_⟩
        simp only [decide_true, if_true, Bool.not_true]
        refine iteF ?_
        rw [show ((n : Int) - 0).toNat = n by omega, rngV_iota] at s3
        exact k _ (s1.trans (s2.trans s3))

theorem scPlaces : FnScope ["pile", "found", "place", "stamp"] ["pile"] (defScope sPlaces) := ⟨rfl, rfl, rfl, by decide +kernel, rfl, by decide +kernel, by decide +kernel⟩
theorem ok_places {f fC : Addr} {fd fdC : FuncData} (D : Def K mg "places" sPlaces ["pile"] f fd) (DC : Def K mg "check_pile" sCheck ["pile"] fC fdC) (T : Own mg) : FnOk P w K mg base CX0 2 f fd ["pile"] (spPlaces K) := by
  have GC : FnOk P w K mg base CX0 1 fC fdC ["pile"] (spCheck K) := ok_check DC T
  refine D.fn.ok scPlaces (fun vs H Q E h => ?_) (fun cdv A outer s H vs Q E hr h => ?_)
  · obtain ⟨p, ns, n, rfl, _⟩ := h
    rfl
  · obtain ⟨p, ns, n, rfl, hq, hp, h1, h2, k⟩ := h
    have hl := perm_len hp
    refine ⟨_, pss_cons (ps_expr (pe_call GC hr rfl DC.at_ DC.fn.kp DC.bd .nil pass0 (pa_cons (pv 0) pa_nil)))
      (pss_cons (ps_set (i := 1) scPlaces.nd rfl (Or.inl rfl) (pe_op op_rep (pe_lst (pa_cons pe_int pa_nil)) (pe_callB call_len_seq (by rfl) T.len PySem.boot_len (pa_cons (pv 0) pa_nil))))
      (pss_cons (ps_for PassesOwn.never rfl (pi_enum rfl T.enumerate (pa_cons (pv 0) pa_nil))
          (pg_tup rfl (pgs_cons (pg_name (i := 2) scPlaces.nd rfl (Or.inl rfl)) (pgs_cons (pg_name (i := 3) scPlaces.nd rfl (Or.inl rfl)) pgs_nil)))
          (pss_one (ps_asg (pv 2) (pg_sub (pv 1) (pv 3) set_list))))
      (pss_one (ps_ret (pv 1))))), ?_⟩
    -- check_pile(pile)
    refine ⟨_, rfl, p, ns, n, rfl, hq, hp, h1, h2, fun H1 s1 => ?_⟩
    -- found = [0] * len(pile)
    refine ⟨small_line (by decide), fun z hz => ⟨_, rfl, p, _, rfl, .inl ((same_new hz).seq (s1.seq hq)), z, _, [.int 0], rfl, rfl, upd_same, ?_, ?_, ?_, fun l hl2 => ?_⟩⟩
    · rw [List.length_map]; omega
    · rw [List.length_map]; omega
    · rw [List.length_map, hl]; exact small_line (by simp; omega)
    have s2 : Same H _ := s1.trans ((same_new hz).trans (same_new (o := .lst ((List.replicate n (0 : Int)).map V.int)) hl2))
    rw [List.length_map, hl, show ((n : Int)).toNat = n by omega, rep0]
    have hlH : H l = none := (s1.trans (same_new hz)).free hl2
    -- for place, stamp in enumerate(pile)
    refine ⟨_, rfl, p, rfl, ⟨_, s2.seq hq⟩, for_enum (K := K) (a := p) (xs := ns.map V.int) (fun i σ H2 => ∃ (fs : List Int) (v u : Option V), σ = [some (.ref p), some (.ref l), v, u] ∧ Same H H2 ∧ H2 l = some (.lst (fs.map V.int)) ∧ Fnd ns i fs)
      ⟨_, none, none, rfl, s2, upd_same, by simp [hl], fun j s hj => by omega⟩ (fun i σ H2 _ ⟨_, _, _, _, s3, _⟩ => s3.seq hq) ?_ ?_⟩
    · rintro i y t σ H2 hi ht ⟨fs, v, u, rfl, s3, hf, F⟩
      rw [List.getElem?_map] at hi
      cases e : ns[i]? with
      | none => rw [e] at hi; cases hi
      | some x =>
        rw [e] at hi
        cases hi
        have hx := (perm_mem hp).mp (List.mem_of_getElem? e)
        have nt : l ≠ t := ne_of_none hf ht
        have hfl := F.1
        have ht2 : (upd H2 t (.tup [.int (i : Nat), .int x])) l = some (.lst (fs.map V.int)) := by rw [upd_ne nt]; exact hf
        refine ⟨t, _, rfl, SqT.of upd_same, rfl, _, _, rfl, _, _, rfl, rfl, _, rfl, _, rfl, _, rfl, l, _, x, x.toNat, rfl, rfl, ht2, ?_, ?_⟩
        · rw [List.length_map]
          unfold ixN
          rw [if_pos hx.1, if_pos (by omega)]
        · refine ⟨fs.set x.toNat (i : Int), _, _, rfl, fun b o eb => ?_, ?_, F.step hp e⟩
          · have nb : b ≠ l := ne_of_none eb hlH
            rw [upd_ne nb]
            exact same_new ht b o (s3 b o eb)
          · rw [upd_same, List.map_set]
    · rintro σ H2 ⟨fs, v, u, rfl, s3, hf, F⟩
      rw [List.length_map, hl] at F
      have e := F.eq hp
      subst e
      exact ⟨_, rfl, k l H2 s3 hlH hf⟩
end
end Sf
namespace Sf
open PySem L2 Pl
def spLetter (K : PySem.W.Frag) : Sp := fun vs H Q _ => ∃ (a : Addr) (ps : List Int) (c : Nat), vs = [.ref a, .int (c : Int)] ∧ SqL K H a (ps.map V.int) ∧ c + 1 < ps.length ∧ Q (.str ⟨#[lc ps c]⟩) H
def spLetters (K : PySem.W.Frag) : Sp := fun vs H Q _ => ∃ (p : Addr) (ns : List Int) (n : Nat), vs = [.ref p] ∧ SqL K H p (ns.map V.int) ∧ ns.Perm (iota n) ∧ 1 ≤ n ∧ n ≤ 100 ∧ ∀ z H', Same H H' → z.cps.toList = lcs (plc ns) → Q (.str z) H'
section
variable {P : Program} {w : World} {K : PySem.W.Frag} {mg : Str → Option Value} {base : Heap}
theorem scLetter : FnScope ["at", "crease", "rises"] ["at", "crease"] (defScope sLetter) := ⟨rfl, rfl, rfl, by decide +kernel, rfl, by decide +kernel, by decide +kernel⟩
theorem ok_letter {f : Addr} {fd : FuncData} (D : Def K mg "letter" sLetter ["at", "crease"] f fd) : FnOk P w K mg base CX0 1 f fd ["at", "crease"] (spLetter K) := by
  refine D.fn.ok scLetter (fun vs H Q E h => ?_) (fun cdv A outer s H vs Q E hr h => ?_)
  · obtain ⟨a, ps, c, rfl, _⟩ := h
    rfl
  · obtain ⟨a, ps, c, rfl, hq, hc, k⟩ := h
    refine ⟨_, pss_cons (ps_set (i := 2) scLetter.nd rfl (Or.inl rfl) (pe_cmpR op_gt (pe_ix ix_list (pv 0) (pe_op op_add (pv 1) pe_int) (fun _ _ => rfl)) (pe_ix ix_list (pv 0) (pv 1) (fun _ _ => rfl)) (nomark _)))
      (pss_one (ps_ret (pe_ifExp (pt_cmpR op_eq (pv 2) (pe_cmpR op_eq (pe_op op_mod (pv 1) pe_int) pe_int (nomark _)) (nomark _)) pe_str pe_str))), ?_⟩
    refine ⟨_, rfl, _, rfl, _, _, rfl, rfl, a, _, _, _, rfl, rfl, hq, at_int (c := c + 1) hc, _, rfl, _, rfl, a, _, _, _, rfl, rfl, hq, at_int (c := c) (by omega), _, _, rfl, rfl, ?_⟩
    refine ⟨_, rfl, _, rfl, _, _, rfl, rfl, (by show (0 : Int) < 2; decide), rfl, rfl, _, rfl, ?_⟩
    have e2 : decide (V.int ((c : Int) % 2) = V.int 0) = decide (c % 2 = 0) := by
      by_cases h : c % 2 = 0
      · rw [decide_eq_true h, decide_eq_true]
        congr 1
        omega
      · rw [decide_eq_false h, decide_eq_false]
        intro z
        injection z with z
        omega
    rw [e2]
    show if decide (V.bl (decide (ps.getD c 0 < ps.getD (c + 1) 0)) = V.bl (decide (c % 2 = 0))) = true then Q (.str "V") H else Q (.str "M") H
    unfold lc at k
    by_cases e : decide (ps.getD c 0 < ps.getD (c + 1) 0) = decide (c % 2 = 0)
    · rw [if_pos e] at k
      rw [e, decide_eq_true rfl]
      exact iteT k
    · rw [if_neg e] at k
      rw [decide_eq_false (fun z => e (by injection z))]
      exact iteF k

theorem scLetters : FnScope ["pile", "at"] ["pile"] (defScope sLetters) := ⟨rfl, rfl, rfl, by decide +kernel, rfl, by decide +kernel, by decide +kernel⟩
theorem ok_letters {f fC fP fL : Addr} {fd fdC fdP fdL : FuncData} (D : Def K mg "letters" sLetters ["pile"] f fd) (DP : Def K mg "places" sPlaces ["pile"] fP fdP) (DC : Def K mg "check_pile" sCheck ["pile"] fC fdC)
    (DL : Def K mg "letter" sLetter ["at", "crease"] fL fdL) (T : Own mg) : FnOk P w K mg base CX0 3 f fd ["pile"] (spLetters K) := by
  have GP : FnOk P w K mg base CX0 2 fP fdP ["pile"] (spPlaces K) := ok_places DP DC T
  have GL : FnOk P w K mg base CX0 1 fL fdL ["at", "crease"] (spLetter K) := ok_letter DL
  refine D.fn.ok scLetters (fun vs H Q E h => ?_) (fun cdv A outer s H vs Q E hr h => ?_)
  · obtain ⟨p, ns, n, rfl, _⟩ := h
    rfl
  · obtain ⟨p, ns, n, rfl, hq, hp, h1, h2, k⟩ := h
    have hl := perm_len hp
    have pl := plc_length ns
    have hr1 := hr.mono (show 1 ≤ 2 by decide)
    refine ⟨_, pss_cons (ps_set (i := 1) scLetters.nd rfl (Or.inr rfl) (pe_call GP hr rfl DP.at_ DP.fn.kp DP.bd .nil pass0 (pa_cons (pv 0) pa_nil)))
      (pss_one (ps_ret (pe_bm PySem.F.plainAttrs_str PySem.F.slot_str_join PySem.F.type_str_join mt_join pe_str
        (pa_cons (pe_lcomp (cap := [1]) (caps := ["at"]) rfl (pi_range1 rfl T.range (pa_cons (pe_op op_sub (pe_callB call_len_seq (by rfl) T.len PySem.boot_len (pa_cons (pv 1) pa_nil)) pe_int) pa_nil))
          rfl (by decide +kernel) (by decide +kernel) rfl (by show ∀ y : Str × NameKind, y ∈ _ → y.2 = NameKind.free → (defScope sLetters).names.lookup y.1 = some .cell ∨ (defScope sLetters).names.lookup y.1 = some .free; decide +kernel) rfl (fun y hy => by rw [List.mem_singleton.mp hy]; exact ⟨.inl rfl, .inl rfl⟩) (by decide +kernel)
          (fun cl s₃ H₃ fp => ⟨pifs_nil, pe_call GL hr1 rfl DL.at_ DL.fn.kp DL.bd .nil pass0 (pa_cons (pv 1) (pa_cons (pv 0) pa_nil))⟩)) pa_nil)))), ?_⟩
    -- at = places(pile)
    refine ⟨_, rfl, p, ns, n, rfl, hq, hp, h1, h2, fun l H1 s1 hl0 hl1 => ?_⟩
    -- the letters, one by one
    refine ⟨rfl, _, rfl, l, _, rfl, .inl (SqL.of hl1), _, _, rfl, rfl, _, rfl, ?_, ?_, fun l2 hl2 => ?_⟩
    · rw [List.length_map, pl, hl]; omega
    · rw [List.length_map, pl, hl]; omega
    have en : (((plc ns).map V.int).length - 1 : Int).toNat = n - 1 := by rw [List.length_map, pl, hl]; omega
    rw [en]
    refine lc_range (lo := 0) (n := n - 1) (fun c => V.str ⟨#[lc (plc ns) c]⟩) (by omega) hl2 (fun i H2 R hi s2 hR => ?_) fun H2 s2 h2 => ?_
    · refine ⟨_, rfl, _, rfl, l, plc ns, i, ?_, s2.seq (SqL.of hl1), by omega, hR H2 (Same.refl _)⟩
      simp
    · refine ⟨_, l2, (lcs (plc ns)).map fun c => ⟨#[c]⟩, rfl, rfl, ?_, ?_, ?_⟩
      · refine SqL.of (h2.trans ?_)
        congr 2
        unfold lcs
        rw [List.map_map, List.map_map, pl, hl]
        rfl
      · have : ∀ cs : List Nat, ((cs.map fun c => (⟨#[c]⟩ : Str)).map (·.length)).sum = cs.length := fun cs => by
          induction cs with
          | nil => rfl
          | cons c cs ih =>
            rw [List.map_cons, List.map_cons, List.sum_cons, ih, List.length_cons]
            show 1 + cs.length = _
            omega
        rw [this, List.length_map]
        unfold lcs
        rw [List.length_map, List.length_range, pl, hl]
        show n - 1 + (n - 1) * 0 ≤ _
        omega
      · exact k _ H2 (s1.trans s2) (join_ones _)
end
end Sf
namespace Sf
open PySem L2 Pl
/-! ### the asker's own small defs -/
def spDrawn (K : PySem.W.Frag) : Sp := fun vs H Q _ => ∃ (a : Addr) (ns : List Int) (k : Nat), vs = [.ref a, .int (k : Int)] ∧ SqL K H a (ns.map V.int) ∧ Q (.int (ns.getD k 0)) H
def spNumber (K : PySem.W.Frag) : Sp := fun vs H Q _ => ∃ (a : Addr) (ns : List Int) (k : Nat), vs = [.ref a, .int (k : Int)] ∧ SqL K H a (ns.map V.int) ∧ k ≤ 100000 ∧ ∀ v H', Same H H' → 0 ≤ v → v < 2147483647 → Q (.int v) H'
def spCounts : Sp := fun vs H Q _ => ∃ i, vs = [.int i] ∧ Q (.bl true) H
def spSize : Sp := fun vs H Q _ => ∃ c, vs = [.int c] ∧ ∀ (n : Nat) H', Same H H' → 1 ≤ n → n ≤ 100 → Q (.int (n : Int)) H'
def spPile (K : PySem.W.Frag) : Sp := fun vs H Q _ => ∃ (a : Addr) (ns : List Int) (st n : Nat), vs = [.ref a, .int (st : Int), .int (n : Int)] ∧ SqL K H a (ns.map V.int) ∧ st ≤ 1000 ∧ n ≤ 100 ∧
  ∀ (l : Addr) (ms : List Int) H', Same H H' → H l = none → ms.Perm (iota n) → H' l = some (.lst (ms.map V.int)) → Q (.ref l) H'
theorem cut_take (xs : List V) {g : Nat} (hg : g ≤ xs.length) : cutV xs none (some (g : Int)) = xs.take g := by
  unfold cutV
  rw [HT.sIx_none, HT.sIx_nat, Nat.min_eq_left hg]
  rfl
theorem cut_drop (xs : List V) {g : Nat} (hg : g ≤ xs.length) : cutV xs (some (g : Int)) none = xs.drop g := by
  unfold cutV
  rw [HT.sIx_none, HT.sIx_nat, Nat.min_eq_left hg, List.take_of_length_le (by rw [List.length_drop]; omega)]
section
variable {P : Program} {w : World} {K : PySem.W.Frag} {mg : Str → Option Value} {base : Heap}
theorem scDrawn : FnScope ["_law_script", "_law_k"] ["_law_script", "_law_k"] (defScope sDrawn) := ⟨rfl, rfl, rfl, by decide +kernel, rfl, by decide +kernel, by decide +kernel⟩
theorem ok_drawn {f : Addr} {fd : FuncData} (D : Def K mg "_law_drawn" sDrawn ["_law_script", "_law_k"] f fd) (T : Own mg) : FnOk P w K mg base CX0 1 f fd ["_law_script", "_law_k"] (spDrawn K) := by
  refine D.fn.ok scDrawn (fun vs H Q E h => ?_) (fun cdv A outer s H vs Q E hr h => ?_)
  · obtain ⟨a, ns, k, rfl, _⟩ := h
    rfl
  · obtain ⟨a, ns, k, rfl, hq, q⟩ := h
    refine ⟨_, pss_one (ps_ret (pe_ifExp (pt_cmpR op_lt (pv 1) (pe_callB call_len_seq (by rfl) T.len PySem.boot_len (pa_cons (pv 0) pa_nil)) (nomark _)) (pe_ix ix_list (pv 0) (pv 1) (fun _ _ => rfl)) pe_int)), ?_⟩
    refine ⟨_, rfl, _, rfl, a, _, rfl, .inl hq, _, _, rfl, rfl, _, rfl, ?_⟩
    rw [List.length_map]
    refine ite2 (fun z => ?_) (fun z => ?_)
    · have z' := of_decide_eq_true z
      exact ⟨_, rfl, _, rfl, a, _, _, _, rfl, rfl, hq, at_int (by omega), q⟩
    · have z' : ¬ ((k : Int) < ns.length) := fun y => z (decide_eq_true y)
      have e : ns.getD k 0 = 0 := by
        rw [List.getD_eq_getElem?_getD, List.getElem?_eq_none (by omega)]
        rfl
      rw [e] at q
      exact q

theorem scNumber : FnScope ["_law_script", "_law_k", "_law_cell"] ["_law_script", "_law_k"] (defScope sNumber) := ⟨rfl, rfl, rfl, by decide +kernel, rfl, by decide +kernel, by decide +kernel⟩
theorem ok_number {f : Addr} {fd : FuncData} (D : Def K mg "_law_number" sNumber ["_law_script", "_law_k"] f fd) (T : Own mg) : FnOk P w K mg base CX0 1 f fd ["_law_script", "_law_k"] (spNumber K) := by
  refine D.fn.ok scNumber (fun vs H Q E h => ?_) (fun cdv A outer s H vs Q E hr h => ?_)
  · obtain ⟨a, ns, k, rfl, _⟩ := h
    rfl
  · obtain ⟨a, ns, k, rfl, hq, hk, q⟩ := h
    refine ⟨_, pss_cons (ps_set (i := 2) scNumber.nd rfl (Or.inl rfl) (pe_op op_add (pe_op op_mul (pe_op op_mul (pv 1) (pv 1)) pe_int) (pv 1)))
      (pss_cons (ps_if (pt_cmpR op_lt (pv 1) (pe_callB call_len_seq (by rfl) T.len PySem.boot_len (pa_cons (pv 0) pa_nil)) (nomark _))
        (pss_one (ps_set (i := 2) scNumber.nd rfl (Or.inl rfl) (pe_ix ix_list (pv 0) (pv 1) (fun _ _ => rfl))))
        (pss_one (ps_if (pt_cmpR (op_ne_lst hr.units0) (pv 0) (pe_lst pa_nil) (nomark _))
          (pss_one (ps_set (i := 2) scNumber.nd rfl (Or.inl rfl) (pe_op op_add (pv 2) (pe_ix ix_list (pv 0) (pe_op op_mod (pv 1) (pe_callB call_len_seq (by rfl) T.len PySem.boot_len (pa_cons (pv 0) pa_nil))) (fun _ _ => rfl)))))
          pss_nil)))
      (pss_one (ps_ret (pe_op op_mod (pe_op op_mul (pv 2) pe_int) pe_int)))), ?_⟩
    have last : ∀ (c : Int) H', Same H H' → tRet (tOp (rI (fun _ j => 0 < j) fun i j => V.int (i % j)) (tOp (rI CMul fun i j => V.int (i * j)) (tVar 2) (tC (.int 48271))) (tC (.int 2147483647))) { nx := fun _ H' => Q .non H', rt := Q } [some (.ref a), some (.int (k : Int)), some (.int c)] H' := fun c H' s' =>
      ⟨_, rfl, _, _, rfl, rfl, .inr ⟨by decide, by decide⟩, _, _, rfl, rfl, (by show (0 : Int) < 2147483647; decide), q _ H' s' (Int.emod_nonneg _ (by decide)) (Int.emod_lt_of_pos _ (by decide))⟩
    have kb : -(2 ^ 64) < (k : Int) ∧ (k : Int) < 2 ^ 64 := by constructor <;> omega
    have kk : -(2 ^ 64) < (k : Int) * (k : Int) ∧ (k : Int) * (k : Int) < 2 ^ 64 := by
      have h1 : (k : Int) * (k : Int) ≤ 100000 * 100000 := Int.mul_le_mul (by omega) (by omega) (by omega) (by omega)
      have h2 : 0 ≤ (k : Int) * (k : Int) := Int.mul_nonneg (by omega) (by omega)
      constructor <;> omega
    refine ⟨_, rfl, _, rfl, _, _, rfl, rfl, .inl kb, _, _, rfl, rfl, .inl kk, _, rfl, _, _, rfl, rfl, ?_⟩
    refine ⟨_, rfl, _, rfl, a, _, rfl, .inl hq, _, _, rfl, rfl, _, rfl, ?_⟩
    rw [List.length_map]
    refine ite2 (fun z => ?_) (fun z => ?_)
    · have z' := of_decide_eq_true z
      exact ⟨_, rfl, _, rfl, a, _, _, _, rfl, rfl, hq, at_int (by omega), last _ H (Same.refl H)⟩
    · refine ⟨_, rfl, small_line (by decide), fun e he => ⟨a, e, _, _, rfl, rfl, (same_new he).seq hq, SqL.of upd_same, flat_ints _, rfl, _, rfl, ?_⟩⟩
      have s1 := same_new (o := .lst []) he
      refine ite2 (fun y => ?_) (fun y => ?_)
      · have hne : ns ≠ [] := fun z => by subst z; cases y
        have hpos : 0 < ns.length := List.length_pos_iff.mpr hne
        have it : atI (ns.map V.int) ((k : Int) % ((ns.map V.int).length : Int)) = some (.int (ns.getD (k % ns.length) 0)) := by
          rw [List.length_map]
          have e := at_int (ps := ns) (c := k % ns.length) (Nat.mod_lt _ hpos)
          rw [Int.natCast_emod] at e
          exact e
        refine ⟨_, rfl, _, rfl, _, rfl, _, rfl, a, _, rfl, .inl (s1.seq hq), _, _, rfl, rfl, ?_, a, _, _, _, rfl, rfl, s1.seq hq, it, _, _, rfl, rfl, last _ _ s1⟩
        rw [List.length_map]
        omega
      · exact last _ _ s1

theorem scCounts : FnScope ["_law_thing"] ["_law_thing"] (defScope sCounts) := ⟨rfl, rfl, rfl, by decide +kernel, rfl, by decide +kernel, by decide +kernel⟩
theorem ok_counts {f : Addr} {fd : FuncData} (D : Def K mg "_law_counts" sCounts ["_law_thing"] f fd) (T : Own mg) : FnOk P w K mg base CX0 1 f fd ["_law_thing"] spCounts := by
  refine D.fn.ok scCounts (fun vs H Q E h => ?_) (fun cdv A outer s H vs Q E hr h => ?_)
  · obtain ⟨i, rfl, _⟩ := h
    rfl
  · obtain ⟨i, rfl, q⟩ := h
    refine ⟨_, pss_one (ps_ret (pe_and (pe_callB call_isinst (by rfl) T.isinstance boot_isinstance (pa_cons (pv 0) (pa_cons (pe_bltn (by rfl) T.int boot_int (v := .ty "int") rfl) pa_nil)))
      (pe_and (pe_cmpR op_notB (pv 0) pe_bl (nomark _)) (pe_one (pe_cmpR op_notB (pv 0) pe_bl (nomark _)))))), ?_⟩
    refine ⟨_, rfl, _, "int", _, true, rfl, .int i, rfl, true, rfl, iteT ?_⟩
    refine ⟨_, rfl, true, rfl, .inl ⟨i, rfl, true, rfl, iteT ?_⟩⟩
    exact ⟨_, rfl, false, rfl, .inl ⟨i, rfl, q⟩⟩

theorem scPile : FnScope ["_law_script", "_law_start", "_law_size", "_law_pile_here", "_law_stamp", "_law_gap"] ["_law_script", "_law_start", "_law_size"] (defScope sPile) := ⟨rfl, rfl, rfl, by decide +kernel, rfl, by decide +kernel, by decide +kernel⟩
theorem ok_pile {f fN : Addr} {fd fdN : FuncData} (D : Def K mg "_law_pile" sPile ["_law_script", "_law_start", "_law_size"] f fd) (DN : Def K mg "_law_number" sNumber ["_law_script", "_law_k"] fN fdN) (T : Own mg) :
    FnOk P w K mg base CX0 2 f fd ["_law_script", "_law_start", "_law_size"] (spPile K) := by
  have GN : FnOk P w K mg base CX0 1 fN fdN ["_law_script", "_law_k"] (spNumber K) := ok_number DN T
  refine D.fn.ok scPile (fun vs H Q E h => ?_) (fun cdv A outer s H vs Q E hr h => ?_)
  · obtain ⟨a, ns, st, n, rfl, _⟩ := h
    rfl
  · obtain ⟨a, ns, st, n, rfl, hq, h1, h2, k⟩ := h
    refine ⟨_, pss_cons (ps_set (i := 3) scPile.nd rfl (Or.inl rfl) (pe_lst pa_nil))
      (pss_cons (ps_for PassesOwn.never rfl (pi_range1 rfl T.range (pa_cons (pv 2) pa_nil)) (pg_name (i := 4) scPile.nd rfl (Or.inl rfl))
        (pss_cons (ps_set (i := 5) scPile.nd rfl (Or.inl rfl) (pe_op op_mod (pe_call GN hr rfl DN.at_ DN.fn.kp DN.bd .nil pass0 (pa_cons (pv 0) (pa_cons (pe_op op_add (pv 1) (pv 4)) pa_nil))) (pe_op op_add (pv 4) pe_int)))
        (pss_one (ps_set (i := 3) scPile.nd rfl (Or.inl rfl) (pe_op op_cat (pe_op op_cat (pe_slice sl_list (pv 3) po_none (po_some (pv 5))) (pe_lst (pa_cons (pv 4) pa_nil))) (pe_slice sl_list (pv 3) (po_some (pv 5)) po_none))))))
      (pss_one (ps_ret (pv 3)))), ?_⟩
    refine ⟨small_line (by decide), fun l0 hl0 => ?_⟩
    refine ⟨_, rfl, _, rfl, by omega, by omega, for_range (lo := 0) (n := (n : Int).toNat) (fun i σ H2 => ∃ (l : Addr) (ms : List Int) (v u : Option V), σ = [some (.ref a), some (.int (st : Int)), some (.int (n : Int)), some (.ref l), v, u] ∧ Same H H2 ∧ H l = none ∧ H2 l = some (.lst (ms.map V.int)) ∧ ms.Perm (iota i))
      ⟨l0, [], none, none, rfl, same_new hl0, hl0, upd_same, List.Perm.refl _⟩ ?_ ?_⟩
    · rintro i σ H2 hi ⟨l, ms, v, u, rfl, s2, hl, h3, pm⟩
      have ml := perm_len pm
      refine ⟨_, rfl, _, rfl, _, rfl, _, _, rfl, rfl, a, ns, st + i, ?_, s2.seq hq, by omega, fun y H3 s3 y1 y2 => ?_⟩
      · simp
      refine ⟨_, rfl, _, _, rfl, rfl, _, _, rfl, rfl, ?_, ?_⟩
      · show (0 : Int) < 0 + (i : Int) + 1
        omega
      have g0 := Int.emod_nonneg y (show (0 + (i : Int) + 1) ≠ 0 by omega)
      have g1 := Int.emod_lt_of_pos y (show (0 : Int) < 0 + (i : Int) + 1 by omega)
      obtain ⟨g, hg⟩ : ∃ g : Nat, y % (0 + (i : Int) + 1) = (g : Int) := ⟨(y % (0 + (i : Int) + 1)).toNat, by omega⟩
      show gName 5 (V.int (y % (0 + (i : Int) + 1))) _ _ _
      rw [hg] at g0 g1 ⊢
      have gl : g ≤ (ms.map V.int).length := by rw [List.length_map, ml]; omega
      have h3' := s3 _ _ h3
      -- pile[:gap] + [stamp] + pile[gap:]
      refine ⟨_, rfl, _, rfl, _, rfl, l, _, rfl, SqL.of h3', fun p1 hp1 => ?_⟩
      rw [cut_take _ gl]
      refine ⟨_, rfl, small_line (by show 1 ≤ 1000; decide), fun p2 hp2 => ?_⟩
      have t1 := same_new (o := .lst ((ms.map V.int).take g)) hp1
      have t2 := same_new (o := .lst [V.int (0 + (i : Int))]) hp2
      refine ⟨p1, p2, _, _, rfl, rfl, t2 _ _ upd_same, upd_same, ?_, fun p3 hp3 => ?_⟩
      · refine small_line ?_
        rw [List.length_take, List.length_map]
        simp
        omega
      have t3 := same_new (o := .lst ((ms.map V.int).take g ++ [V.int (0 + (i : Int))])) hp3
      refine ⟨_, rfl, _, rfl, _, rfl, l, _, rfl, SqL.of (t3 _ _ (t2 _ _ (t1 _ _ h3'))), fun p4 hp4 => ?_⟩
      rw [cut_drop _ gl]
      have t4 := same_new (o := .lst ((ms.map V.int).drop g)) hp4
      refine ⟨p3, p4, _, _, rfl, rfl, t4 _ _ upd_same, upd_same, ?_, fun p5 hp5 => ?_⟩
      · refine small_line ?_
        rw [List.length_append, List.length_take, List.length_drop, List.length_map]
        simp
        omega
      have s5 : Same H _ := s2.trans (s3.trans (t1.trans (t2.trans (t3.trans t4))))
      refine ⟨p5, ms.take g ++ [(i : Int)] ++ ms.drop g, _, _, rfl, s5.trans (same_new hp5), s5.free hp5, ?_, perm_ins pm g⟩
      rw [upd_same, List.map_append, List.map_append, List.map_take, List.map_drop]
      simp
    · rintro σ H2 ⟨l, ms, v, u, rfl, s2, hl, h3, pm⟩
      rw [show (n : Int).toNat = n by omega] at pm
      exact ⟨_, rfl, k l ms H2 s2 hl pm h3⟩
end
end Sf
namespace Sf
open PySem L2 Pl
theorem boot_min : bootBuiltins "min" = some (.builtin "min") := by decide +kernel
theorem boot_max : bootBuiltins "max" = some (.builtin "max") := by decide +kernel
/-- min and max too -/
structure OwnM (mg : Str → Option Value) : Prop where
  min : mg "min" = none
  max : mg "max" = none
def spWraps (K : PySem.W.Frag) : Sp := fun vs H Q _ => ∃ (l : Addr) (ps : List Int) (c s : Nat), vs = [.ref l, .int (c : Int), .int (s : Int)] ∧ SqL K H l (ps.map V.int) ∧ c + 1 < ps.length ∧ s < ps.length ∧ Q (.bl (wr ps c s)) H
def spCross (K : PySem.W.Frag) : Sp := fun vs H Q _ => ∃ (l : Addr) (ps : List Int) (a b : Nat), vs = [.ref l, .int (a : Int), .int (b : Int)] ∧ SqL K H l (ps.map V.int) ∧ a + 1 < ps.length ∧ b + 1 < ps.length ∧ Q (.bl (cr ps a b)) H
def spCrossing (K : PySem.W.Frag) : Sp := fun vs H Q _ => ∃ (p : Addr) (ns : List Int) (n : Nat), vs = [.ref p] ∧ SqL K H p (ns.map V.int) ∧ ns.Perm (iota n) ∧ 1 ≤ n ∧ n ≤ 100 ∧
  (∀ H', Same H H' → NoX (plc ns) → Q .non H') ∧ ∀ (t : Addr) (a b : Nat) H', Same H H' → H t = none → H' t = some (.tup [.int (a : Int), .int (b : Int)]) → a + 2 ≤ b → b + 1 < n → (b - a) % 2 = 0 → cr (plc ns) a b = true → Q (.ref t) H'
def spLPlaces (K : PySem.W.Frag) : Sp := fun vs H Q _ => ∃ (p : Addr) (ns : List Int) (n : Nat), vs = [.ref p] ∧ SqL K H p (ns.map V.int) ∧ ns.Perm (iota n) ∧ n ≤ 100 ∧ ∀ l H', Same H H' → H l = none → H' l = some (.lst ((plc ns).map V.int)) → Q (.ref l) H'
def spNone (K : PySem.W.Frag) : Sp := fun vs H Q _ => ∃ (l : Addr) (ps : List Int), vs = [.ref l] ∧ SqL K H l (ps.map V.int) ∧ 1 ≤ ps.length ∧ ps.length ≤ 100 ∧ ∀ b : Bool, (b = true ↔ NoX ps) → Q (.bl b) H
section
variable {P : Program} {w : World} {K : PySem.W.Frag} {mg : Str → Option Value} {base : Heap}
theorem scWraps : FnScope ["at", "crease", "stamp", "low", "high"] ["at", "crease", "stamp"] (defScope sWraps) := ⟨rfl, rfl, rfl, by decide +kernel, rfl, by decide +kernel, by decide +kernel⟩
theorem ok_wraps {f : Addr} {fd : FuncData} (D : Def K mg "wraps" sWraps ["at", "crease", "stamp"] f fd) (M : OwnM mg) : FnOk P w K mg base CX0 1 f fd ["at", "crease", "stamp"] (spWraps K) := by
  refine D.fn.ok scWraps (fun vs H Q E h => ?_) (fun cdv A outer s H vs Q E hr h => ?_)
  · obtain ⟨l, ps, c, s', rfl, _⟩ := h
    rfl
  · obtain ⟨l, ps, c, s', rfl, hq, h1, h2, k⟩ := h
    refine ⟨_, pss_cons (ps_set (i := 3) scWraps.nd rfl (Or.inl rfl) (pe_callB (call_min2 rfl) (by rfl) M.min boot_min (pa_cons (pe_ix ix_list (pv 0) (pv 1) (fun _ _ => rfl)) (pa_cons (pe_ix ix_list (pv 0) (pe_op op_add (pv 1) pe_int) (fun _ _ => rfl)) pa_nil))))
      (pss_cons (ps_set (i := 4) scWraps.nd rfl (Or.inl rfl) (pe_callB (call_max2 rfl) (by rfl) M.max boot_max (pa_cons (pe_ix ix_list (pv 0) (pv 1) (fun _ _ => rfl)) (pa_cons (pe_ix ix_list (pv 0) (pe_op op_add (pv 1) pe_int) (fun _ _ => rfl)) pa_nil))))
      (pss_one (ps_ret (pe_and (pe_cmpR op_lt (pv 3) (pe_ix ix_list (pv 0) (pv 2) (fun _ _ => rfl)) (nomark _)) (pe_one (pe_cmpR op_lt (pe_ix ix_list (pv 0) (pv 2) (fun _ _ => rfl)) (pv 4) (nomark _))))))), ?_⟩
    have e0 := at_int (ps := ps) (c := c) (by omega)
    have e1 := at_int (ps := ps) (c := c + 1) h1
    have e2 := at_int (ps := ps) (c := s') h2
    refine ⟨_, rfl, _, rfl, l, _, _, _, rfl, rfl, hq, e0, _, rfl, _, rfl, _, _, rfl, rfl, l, _, _, _, rfl, rfl, hq, e1, _, _, rfl, ?_⟩
    rw [min_if]
    refine ⟨_, rfl, _, rfl, l, _, _, _, rfl, rfl, hq, e0, _, rfl, _, rfl, _, _, rfl, rfl, l, _, _, _, rfl, rfl, hq, e1, _, _, rfl, ?_⟩
    rw [max_if]
    unfold wr at k
    refine ⟨_, rfl, _, rfl, _, rfl, l, _, _, _, rfl, rfl, hq, e2, _, _, rfl, rfl, _, rfl, ?_⟩
    refine ite2 (fun z => ?_) (fun z => ?_)
    · rw [z, Bool.true_and] at k
      exact ⟨_, rfl, _, rfl, l, _, _, _, rfl, rfl, hq, e2, _, rfl, _, _, rfl, rfl, k⟩
    · rw [Bool.eq_false_iff.mpr z, Bool.false_and] at k
      exact k

theorem scCross : FnScope ["at", "one", "other"] ["at", "one", "other"] (defScope sCross) := ⟨rfl, rfl, rfl, by decide +kernel, rfl, by decide +kernel, by decide +kernel⟩
theorem ok_cross {f fW : Addr} {fd fdW : FuncData} (D : Def K mg "cross" sCross ["at", "one", "other"] f fd) (DW : Def K mg "wraps" sWraps ["at", "crease", "stamp"] fW fdW) (M : OwnM mg) : FnOk P w K mg base CX0 2 f fd ["at", "one", "other"] (spCross K) := by
  have GW : FnOk P w K mg base CX0 1 fW fdW ["at", "crease", "stamp"] (spWraps K) := ok_wraps DW M
  refine D.fn.ok scCross (fun vs H Q E h => ?_) (fun cdv A outer s H vs Q E hr h => ?_)
  · obtain ⟨l, ps, a, b, rfl, _⟩ := h
    rfl
  · obtain ⟨l, ps, a, b, rfl, hq, h1, h2, k⟩ := h
    refine ⟨_, pss_one (ps_ret (pe_cmpR op_ne (pe_call GW hr rfl DW.at_ DW.fn.kp DW.bd .nil pass0 (pa_cons (pv 0) (pa_cons (pv 1) (pa_cons (pv 2) pa_nil))))
      (pe_call GW hr rfl DW.at_ DW.fn.kp DW.bd .nil pass0 (pa_cons (pv 0) (pa_cons (pv 1) (pa_cons (pe_op op_add (pv 2) pe_int) pa_nil)))) (nomark _))), ?_⟩
    refine ⟨_, rfl, _, rfl, _, rfl, l, ps, a, b, rfl, hq, h1, by omega, _, rfl, _, rfl, _, rfl, _, _, rfl, rfl, l, ps, a, b + 1, rfl, hq, h1, h2, rfl, ?_⟩
    rw [dec_bl]
    exact k

theorem scCrossing : FnScope ["pile", "at", "creases", "one", "other"] ["pile"] (defScope sCrossing) := ⟨rfl, rfl, rfl, by decide +kernel, rfl, by decide +kernel, by decide +kernel⟩
theorem ok_crossing {f fC fP fW fX : Addr} {fd fdC fdP fdW fdX : FuncData} (D : Def K mg "crossing" sCrossing ["pile"] f fd) (DP : Def K mg "places" sPlaces ["pile"] fP fdP) (DC : Def K mg "check_pile" sCheck ["pile"] fC fdC)
    (DX : Def K mg "cross" sCross ["at", "one", "other"] fX fdX) (DW : Def K mg "wraps" sWraps ["at", "crease", "stamp"] fW fdW) (T : Own mg) (M : OwnM mg) : FnOk P w K mg base CX0 3 f fd ["pile"] (spCrossing K) := by
  have GP : FnOk P w K mg base CX0 2 fP fdP ["pile"] (spPlaces K) := ok_places DP DC T
  have GX : FnOk P w K mg base CX0 2 fX fdX ["at", "one", "other"] (spCross K) := ok_cross DX DW M
  refine D.fn.ok scCrossing (fun vs H Q E h => ?_) (fun cdv A outer s H vs Q E hr h => ?_)
  · obtain ⟨p, ns, n, rfl, _⟩ := h
    rfl
  · obtain ⟨p, ns, n, rfl, hq, hp, h1, h2, kN, kT⟩ := h
    have hl := perm_len hp
    have pl := plc_length ns
    refine ⟨_, pss_cons (ps_set (i := 1) scCrossing.nd rfl (Or.inl rfl) (pe_call GP hr rfl DP.at_ DP.fn.kp DP.bd .nil pass0 (pa_cons (pv 0) pa_nil)))
      (pss_cons (ps_set (i := 2) scCrossing.nd rfl (Or.inl rfl) (pe_op op_sub (pe_callB call_len_seq (by rfl) T.len PySem.boot_len (pa_cons (pv 1) pa_nil)) pe_int))
      (pss_cons (ps_for PassesOwn.never rfl (pi_range1 rfl T.range (pa_cons (pv 2) pa_nil)) (pg_name (i := 3) scCrossing.nd rfl (Or.inl rfl))
        (pss_one (ps_for PassesOwn.never rfl (pi_range3 rfl T.range (pa_cons (pe_op op_add (pv 3) pe_int) (pa_cons (pv 2) (pa_cons pe_int pa_nil)))) (pg_name (i := 4) scCrossing.nd rfl (Or.inl rfl))
          (pss_one (ps_if (pt_val (pe_call GX hr (by rfl) DX.at_ DX.fn.kp DX.bd .nil pass0 (pa_cons (pv 1) (pa_cons (pv 3) (pa_cons (pv 4) pa_nil))))) (pss_one (ps_ret (pe_tup (pa_cons (pv 3) (pa_cons (pv 4) pa_nil))))) pss_nil)))))
      (pss_one (ps_ret pe_non)))), ?_⟩
    refine ⟨_, rfl, p, ns, n, rfl, hq, hp, h1, h2, fun la H1 s1 hla0 hla => ?_⟩
    refine ⟨_, rfl, la, _, rfl, .inl (SqL.of hla), _, _, rfl, rfl, ?_⟩
    rw [List.length_map, pl, hl]
    refine ⟨_, rfl, _, rfl, by omega, by omega, for_range (lo := 0) (n := ((n : Int) - 1).toNat) (fun i σ H2 => ∃ (v u : Option V), σ = [some (.ref p), some (.ref la), some (.int ((n : Int) - 1)), v, u] ∧ Same H1 H2 ∧
        ∀ a b : Nat, a < i → a + 2 ≤ b → b + 1 < n → (b - a) % 2 = 0 → cr (plc ns) a b = false) ⟨none, none, rfl, Same.refl _, fun a b ha => by omega⟩ ?_ ?_⟩
    · rintro i σ H2 hi ⟨v, u, rfl, s2, hno⟩
      refine ⟨_, rfl, _, _, rfl, rfl, _, rfl, _, _, rfl, ⟨by omega, by omega, by omega, by omega⟩, for_step (lo := 0 + (i : Int) + 2) (c := 2) (n := half2 (0 + (i : Int) + 2) ((n : Int) - 1)) (fun j σ H3 => ∃ (u : Option V), σ = [some (.ref p), some (.ref la), some (.int ((n : Int) - 1)), some (.int (0 + (i : Int))), u] ∧ Same H1 H3 ∧
        ∀ t : Nat, t < j → cr (plc ns) i (i + 2 + 2 * t) = false) ⟨_, rfl, s2, fun t ht => by omega⟩ ?_ ?_⟩
      · rintro j σ H3 hj ⟨u, rfl, s3, hj2⟩
        have hj' : i + 2 + 2 * j + 1 < n := by unfold half2 at hj; omega
        refine ⟨_, rfl, _, rfl, _, rfl, la, plc ns, i, i + 2 + 2 * j, ?_, SqL.of (s3 _ _ hla), by omega, by omega, _, rfl, ?_⟩
        · have e : (0 + (i : Int) + 2 + (j : Nat) * 2) = ((i + 2 + 2 * j : Nat) : Int) := by omega
          rw [e]
          simp
        refine ite2 (fun z => ?_) (fun z => ?_)
        · refine ⟨_, rfl, _, rfl, small_line (by show 2 ≤ 1000; decide), fun t ht => ?_⟩
          have s3' := s1.trans s3
          refine kT t i (i + 2 + 2 * j) _ (s3'.trans (same_new ht)) (s3'.free ht) ?_ (by omega) hj' (by omega) z
          have e : (0 + (i : Int) + 2 + (j : Nat) * 2) = ((i + 2 + 2 * j : Nat) : Int) := by omega
          rw [upd_same, e]
          simp
        · refine ⟨_, rfl, s3, fun t ht => ?_⟩
          by_cases e : t = j
          · rw [e]; exact Bool.eq_false_iff.mpr z
          · exact hj2 t (by omega)
      · rintro σ H3 ⟨u, rfl, s3, hj2⟩
        refine ⟨_, _, rfl, s3, fun a b ha hab hb hpar => ?_⟩
        by_cases e : a = i
        · subst e
          have := hj2 ((b - a - 2) / 2) (by unfold half2; omega)
          rw [show a + 2 + 2 * ((b - a - 2) / 2) = b by omega] at this
          exact this
        · exact hno a b (by omega) hab hb hpar
    · rintro σ H2 ⟨v, u, rfl, s2, hno⟩
      exact kN H2 (s1.trans s2) fun a b hab hb hpar => hno a b (by rw [pl, hl] at hb; omega) hab (by rw [pl, hl] at hb; exact hb) hpar
end
end Sf
namespace Sf
open PySem L2 Pl
abbrev Fit := @FitG
theorem nox_one : NoX (plc [0]) := fun a b hab hb => by have e : (plc [0]).length = 1 := rfl; omega
def spFits (K : PySem.W.Frag) : Sp := fun vs H Q _ => ∃ (l : Addr) (ps : List Int) (st g : Nat), vs = [.ref l, .int (st : Int), .int (g : Int)] ∧ SqL K H l (ps.map V.int) ∧ ps.length = st ∧ 1 ≤ st ∧ st ≤ 100 ∧ ∀ b : Bool, (b = true ↔ Fit ps st g) → Q (.bl b) H
def spGood (K : PySem.W.Frag) : Sp := fun vs H Q _ => ∃ (a : Addr) (ns : List Int) (st n : Nat), vs = [.ref a, .int (st : Int), .int (n : Int)] ∧ SqL K H a (ns.map V.int) ∧ st ≤ 1000 ∧ 1 ≤ n ∧ n ≤ 100 ∧
  ∀ (l : Addr) (ms : List Int) H', Same H H' → H l = none → ms.Perm (iota n) → NoX (plc ms) → H' l = some (.lst (ms.map V.int)) → Q (.ref l) H'
/-- the body of a for -/
def forBody (s : Stmt) : List Stmt := match s with
  | .For _ _ b _ _ => b
  | _ => []
section
variable {P : Program} {w : World} {K : PySem.W.Frag} {mg : Str → Option Value} {base : Heap}
theorem scLWraps : FnScope ["_law_at", "_law_crease", "_law_stamp", "_law_low", "_law_high"] ["_law_at", "_law_crease", "_law_stamp"] (defScope sLWraps) := ⟨rfl, rfl, rfl, by decide +kernel, rfl, by decide +kernel, by decide +kernel⟩
theorem ok_lwraps {f : Addr} {fd : FuncData} (D : Def K mg "_law_wraps" sLWraps ["_law_at", "_law_crease", "_law_stamp"] f fd) (M : OwnM mg) : FnOk P w K mg base CX0 1 f fd ["_law_at", "_law_crease", "_law_stamp"] (spWraps K) := by
  refine D.fn.ok scLWraps (fun vs H Q E h => ?_) (fun cdv A outer s H vs Q E hr h => ?_)
  · obtain ⟨l, ps, c, s', rfl, _⟩ := h
    rfl
  · obtain ⟨l, ps, c, s', rfl, hq, h1, h2, k⟩ := h
    refine ⟨_, pss_cons (ps_set (i := 3) scLWraps.nd rfl (Or.inl rfl) (pe_callB (call_min2 rfl) (by rfl) M.min boot_min (pa_cons (pe_ix ix_list (pv 0) (pv 1) (fun _ _ => rfl)) (pa_cons (pe_ix ix_list (pv 0) (pe_op op_add (pv 1) pe_int) (fun _ _ => rfl)) pa_nil))))
      (pss_cons (ps_set (i := 4) scLWraps.nd rfl (Or.inl rfl) (pe_callB (call_max2 rfl) (by rfl) M.max boot_max (pa_cons (pe_ix ix_list (pv 0) (pv 1) (fun _ _ => rfl)) (pa_cons (pe_ix ix_list (pv 0) (pe_op op_add (pv 1) pe_int) (fun _ _ => rfl)) pa_nil))))
      (pss_one (ps_ret (pe_and (pe_cmpR op_lt (pv 3) (pe_ix ix_list (pv 0) (pv 2) (fun _ _ => rfl)) (nomark _)) (pe_one (pe_cmpR op_lt (pe_ix ix_list (pv 0) (pv 2) (fun _ _ => rfl)) (pv 4) (nomark _))))))), ?_⟩
    have e0 := at_int (ps := ps) (c := c) (by omega)
    have e1 := at_int (ps := ps) (c := c + 1) h1
    have e2 := at_int (ps := ps) (c := s') h2
    refine ⟨_, rfl, _, rfl, l, _, _, _, rfl, rfl, hq, e0, _, rfl, _, rfl, _, _, rfl, rfl, l, _, _, _, rfl, rfl, hq, e1, _, _, rfl, ?_⟩
    rw [min_if]
    refine ⟨_, rfl, _, rfl, l, _, _, _, rfl, rfl, hq, e0, _, rfl, _, rfl, _, _, rfl, rfl, l, _, _, _, rfl, rfl, hq, e1, _, _, rfl, ?_⟩
    rw [max_if]
    unfold wr at k
    refine ⟨_, rfl, _, rfl, _, rfl, l, _, _, _, rfl, rfl, hq, e2, _, _, rfl, rfl, _, rfl, ?_⟩
    refine ite2 (fun z => ?_) (fun z => ?_)
    · rw [z, Bool.true_and] at k
      exact ⟨_, rfl, _, rfl, l, _, _, _, rfl, rfl, hq, e2, _, rfl, _, _, rfl, rfl, k⟩
    · rw [Bool.eq_false_iff.mpr z, Bool.false_and] at k
      exact k


theorem scLPlaces : FnScope ["_law_pile_here", "_law_at", "_law_k"] ["_law_pile_here"] (defScope sLPlaces) := ⟨rfl, rfl, rfl, by decide +kernel, rfl, by decide +kernel, by decide +kernel⟩
theorem ok_lplaces {f : Addr} {fd : FuncData} (D : Def K mg "_law_places" sLPlaces ["_law_pile_here"] f fd) (T : Own mg) : FnOk P w K mg base CX0 1 f fd ["_law_pile_here"] (spLPlaces K) := by
  refine D.fn.ok scLPlaces (fun vs H Q E h => ?_) (fun cdv A outer s H vs Q E hr h => ?_)
  · obtain ⟨p, ns, n, rfl, _⟩ := h
    rfl
  · obtain ⟨p, ns, n, rfl, hq, hp, h2, k⟩ := h
    have hl := perm_len hp
    refine ⟨_, pss_cons (ps_set (i := 1) scLPlaces.nd rfl (Or.inl rfl) (pe_op op_rep (pe_lst (pa_cons pe_int pa_nil)) (pe_callB call_len_seq (by rfl) T.len PySem.boot_len (pa_cons (pv 0) pa_nil))))
      (pss_cons (ps_for PassesOwn.never rfl (pi_range1 rfl T.range (pa_cons (pe_callB call_len_seq (by rfl) T.len PySem.boot_len (pa_cons (pv 0) pa_nil)) pa_nil)) (pg_name (i := 2) scLPlaces.nd rfl (Or.inl rfl))
          (pss_one (ps_asg (pv 2) (pg_sub (pv 1) (pe_ix ix_list (pv 0) (pv 2) (fun _ _ => rfl)) set_list))))
      (pss_one (ps_ret (pv 1)))), ?_⟩
    refine ⟨small_line (by decide), fun z hz => ⟨_, rfl, p, _, rfl, .inl ((same_new hz).seq hq), z, _, [.int 0], rfl, rfl, upd_same, ?_, ?_, ?_, fun l hl2 => ?_⟩⟩
    · rw [List.length_map]; omega
    · rw [List.length_map]; omega
    · rw [List.length_map, hl]; exact small_line (by simp; omega)
    have s2 : Same H _ := (same_new hz).trans (same_new (o := .lst ((List.replicate n (0 : Int)).map V.int)) hl2)
    rw [List.length_map, hl, show ((n : Int)).toNat = n by omega, rep0]
    have hlH : H l = none := (same_new hz).free hl2
    refine ⟨_, rfl, p, _, rfl, .inl (s2.seq hq), _, rfl, ?_, ?_, ?_⟩
    · rw [List.length_map]; omega
    · rw [List.length_map]; omega
    refine for_range (lo := 0) (n := (((ns.map V.int).length : Nat) : Int).toNat) (fun i σ H2 => ∃ (fs : List Int) (v : Option V), σ = [some (.ref p), some (.ref l), v] ∧ Same H H2 ∧ H2 l = some (.lst (fs.map V.int)) ∧ Fnd ns i fs)
      ⟨_, none, rfl, s2, upd_same, by simp [hl], fun j s hj => by omega⟩ ?_ ?_
    · rintro i σ H2 hi ⟨fs, v, rfl, s3, hf, F⟩
      rw [List.length_map, hl] at hi
      obtain ⟨x, e⟩ : ∃ x, ns[i]? = some x := ⟨_, List.getElem?_eq_getElem (show i < ns.length by omega)⟩
      have hx := (perm_mem hp).mp (List.mem_of_getElem? e)
      have hfl := F.1
      have ge : atI (ns.map V.int) (0 + (i : Int)) = some (.int x) := by
        rw [Int.zero_add]
        exact atI_nat (by rw [List.getElem?_map, e]; rfl)
      refine ⟨_, rfl, _, rfl, _, rfl, _, rfl, p, _, _, _, rfl, rfl, s3.seq hq, ge, l, _, x, x.toNat, rfl, rfl, hf, ?_, ?_⟩
      · rw [List.length_map]
        unfold ixN
        rw [if_pos hx.1, if_pos (by omega)]
      · refine ⟨fs.set x.toNat (i : Int), _, rfl, fun b o eb => ?_, ?_, F.step hp e⟩
        · rw [upd_ne (ne_of_none eb hlH)]
          exact s3 b o eb
        · rw [upd_same, List.map_set, Int.zero_add]
    · rintro σ H2 ⟨fs, v, rfl, s3, hf, F⟩
      rw [List.length_map, hl, show ((n : Int)).toNat = n by omega] at F
      have e := F.eq hp
      subst e
      exact ⟨_, rfl, k l H2 s3 hlH hf⟩

theorem scFits : FnScope ["_law_at", "_law_stamp", "_law_gap", "_law_crease", "_law_low", "_law_high"] ["_law_at", "_law_stamp", "_law_gap"] (defScope sFits) := ⟨rfl, rfl, rfl, by decide +kernel, rfl, by decide +kernel, by decide +kernel⟩
theorem ok_fits {f : Addr} {fd : FuncData} (D : Def K mg "_law_fits" sFits ["_law_at", "_law_stamp", "_law_gap"] f fd) (T : Own mg) (M : OwnM mg) : FnOk P w K mg base CX0 1 f fd ["_law_at", "_law_stamp", "_law_gap"] (spFits K) := by
  refine D.fn.ok scFits (fun vs H Q E h => ?_) (fun cdv A outer s H vs Q E hr h => ?_)
  · obtain ⟨l, ps, st, g, rfl, _⟩ := h
    rfl
  · obtain ⟨l, ps, st, g, rfl, hq, hl, h1, h2, k⟩ := h
    refine ⟨_, pss_cons (ps_for PassesOwn.never rfl (pi_range3 rfl T.range (pa_cons (pe_op op_mod (pe_op op_add (pv 1) pe_int) pe_int) (pa_cons (pe_op op_sub (pv 1) pe_int) (pa_cons pe_int pa_nil)))) (pg_name (i := 3) scFits.nd rfl (Or.inl rfl))
        (pss_cons (ps_set (i := 4) scFits.nd rfl (Or.inl rfl) (pe_callB (call_min2 rfl) (by rfl) M.min boot_min (pa_cons (pe_ix ix_list (pv 0) (pv 3) (fun _ _ => rfl)) (pa_cons (pe_ix ix_list (pv 0) (pe_op op_add (pv 3) pe_int) (fun _ _ => rfl)) pa_nil))))
        (pss_cons (ps_set (i := 5) scFits.nd rfl (Or.inl rfl) (pe_callB (call_max2 rfl) (by rfl) M.max boot_max (pa_cons (pe_ix ix_list (pv 0) (pv 3) (fun _ _ => rfl)) (pa_cons (pe_ix ix_list (pv 0) (pe_op op_add (pv 3) pe_int) (fun _ _ => rfl)) pa_nil))))
        (pss_one (ps_if (pt_cmpR op_ne
            (pe_and (pe_cmpR op_lt (pv 4) (pe_ix ix_list (pv 0) (pe_op op_sub (pv 1) pe_int) (fun _ _ => rfl)) (nomark _)) (pe_one (pe_cmpR op_lt (pe_ix ix_list (pv 0) (pe_op op_sub (pv 1) pe_int) (fun _ _ => rfl)) (pv 5) (nomark _))))
            (pe_and (pe_cmpR op_lt (pv 4) (pv 2) (nomark _)) (pe_one (pe_cmpR op_le (pv 2) (pv 5) (nomark _)))) (nomark _)) (pss_one (ps_ret pe_bl)) pss_nil)))))
      (pss_one (ps_ret pe_bl)), ?_⟩
    have m0 := Int.emod_nonneg ((st : Int) + 1) (show (2 : Int) ≠ 0 by decide)
    have m1 := Int.emod_lt_of_pos ((st : Int) + 1) (show (0 : Int) < 2 by decide)
    obtain ⟨m, hm⟩ : ∃ m : Nat, ((st : Int) + 1) % 2 = (m : Int) := ⟨(((st : Int) + 1) % 2).toNat, by omega⟩
    refine ⟨_, rfl, _, _, rfl, rfl, _, _, rfl, rfl, (by show (0 : Int) < 2; decide), _, rfl, _, _, rfl, rfl, ?_⟩
    show ∃ i j : Int, [V.int (((st : Int) + 1) % 2), V.int ((st : Int) - 1), V.int 2] = [.int i, .int j, .int 2] ∧ _
    rw [hm]
    refine ⟨_, _, rfl, ⟨by omega, by omega, by omega, by omega⟩, for_step (lo := (m : Int)) (c := 2) (n := half2 (m : Int) ((st : Int) - 1)) (fun j σ H2 => ∃ (u v w' : Option V), σ = [some (.ref l), some (.int (st : Int)), some (.int (g : Int)), u, v, w'] ∧ H2 = H ∧
        ∀ t : Nat, t < j → wr ps (m + 2 * t) (st - 1) = (decide (min (ps.getD (m + 2 * t) 0) (ps.getD (m + 2 * t + 1) 0) < (g : Int)) && decide ((g : Int) ≤ max (ps.getD (m + 2 * t) 0) (ps.getD (m + 2 * t + 1) 0))))
      ⟨_, _, _, rfl, rfl, fun t ht => by omega⟩ ?_ ?_⟩
    · rintro j σ H2 hj ⟨u, v, w', rfl, rfl, hj2⟩
      have hj' : m + 2 * j + 1 < st := by unfold half2 at hj; omega
      have ec : ((m : Int) + (j : Nat) * 2) = ((m + 2 * j : Nat) : Int) := by omega
      rw [ec]
      have e0 := at_int (ps := ps) (c := m + 2 * j) (by omega)
      have e1 : atI (ps.map V.int) (((m + 2 * j : Nat) : Int) + 1) = some (.int (ps.getD (m + 2 * j + 1) 0)) := at_int (c := m + 2 * j + 1) (by omega)
      have e2 : atI (ps.map V.int) ((st : Int) - 1) = some (.int (ps.getD (st - 1) 0)) := by
        have := at_int (ps := ps) (c := st - 1) (by omega)
        rw [show ((st - 1 : Nat) : Int) = (st : Int) - 1 by omega] at this
        exact this
      refine ⟨_, rfl, _, rfl, l, _, _, _, rfl, rfl, hq, e0, _, rfl, _, rfl, _, _, rfl, rfl, l, _, _, _, rfl, rfl, hq, e1, _, _, rfl, ?_⟩
      rw [min_if]
      refine ⟨_, rfl, _, rfl, l, _, _, _, rfl, rfl, hq, e0, _, rfl, _, rfl, _, _, rfl, rfl, l, _, _, _, rfl, rfl, hq, e1, _, _, rfl, ?_⟩
      rw [max_if]
      -- both sides of the test
      have fin : ∀ x y : Bool, x = wr ps (m + 2 * j) (st - 1) → y = (decide (min (ps.getD (m + 2 * j) 0) (ps.getD (m + 2 * j + 1) 0) < (g : Int)) && decide ((g : Int) ≤ max (ps.getD (m + 2 * j) 0) (ps.getD (m + 2 * j + 1) 0))) →
          if (!decide (V.bl x = V.bl y)) = true then Q (.bl false) H2 else ∃ (u v w' : Option V), ([some (V.ref l), some (.int (st : Int)), some (.int (g : Int)), some (.int ((m + 2 * j : Nat) : Int)), some (.int (min (ps.getD (m + 2 * j) 0) (ps.getD (m + 2 * j + 1) 0))), some (.int (max (ps.getD (m + 2 * j) 0) (ps.getD (m + 2 * j + 1) 0)))] : St) = [some (.ref l), some (.int (st : Int)), some (.int (g : Int)), u, v, w'] ∧ H2 = H2 ∧
            ∀ t : Nat, t < j + 1 → wr ps (m + 2 * t) (st - 1) = (decide (min (ps.getD (m + 2 * t) 0) (ps.getD (m + 2 * t + 1) 0) < (g : Int)) && decide ((g : Int) ≤ max (ps.getD (m + 2 * t) 0) (ps.getD (m + 2 * t + 1) 0))) := fun x y ex ey => by
        by_cases e : x = y
        · refine iteNS (by rw [e]) ⟨_, _, _, rfl, rfl, fun t ht => ?_⟩
          by_cases et : t = j
          · subst et
            rw [← ex, ← ey]
            exact e
          · exact hj2 t (by omega)
        · rw [decide_eq_false (fun z => e (by injection z))]
          refine iteT (k false ⟨fun z => (by cases z), fun F => ?_⟩)
          exact absurd (ex.trans ((F (m + 2 * j) hj' (by omega)).trans ey.symm)) e
      have yy : ∀ x : Bool, x = wr ps (m + 2 * j) (st - 1) → tAndV (tOp (rI0 fun i j => V.bl (decide (i < j))) (tVar 4) (tVar 2)) (tOp (rI0 fun i j => V.bl (decide (i ≤ j))) (tVar 2) (tVar 5))
          [some (V.ref l), some (.int (st : Int)), some (.int (g : Int)), some (.int ((m + 2 * j : Nat) : Int)), some (.int (min (ps.getD (m + 2 * j) 0) (ps.getD (m + 2 * j + 1) 0))), some (.int (max (ps.getD (m + 2 * j) 0) (ps.getD (m + 2 * j + 1) 0)))] H2
          (fun y H3 => rNe (.bl x) y H3 fun z H4 => ∃ b, z = .bl b ∧ if b = true then Q (.bl false) H4 else ∃ (u v w' : Option V), ([some (V.ref l), some (.int (st : Int)), some (.int (g : Int)), some (.int ((m + 2 * j : Nat) : Int)), some (.int (min (ps.getD (m + 2 * j) 0) (ps.getD (m + 2 * j + 1) 0))), some (.int (max (ps.getD (m + 2 * j) 0) (ps.getD (m + 2 * j + 1) 0)))] : St) = [some (.ref l), some (.int (st : Int)), some (.int (g : Int)), u, v, w'] ∧ H4 = H2 ∧
            ∀ t : Nat, t < j + 1 → wr ps (m + 2 * t) (st - 1) = (decide (min (ps.getD (m + 2 * t) 0) (ps.getD (m + 2 * t + 1) 0) < (g : Int)) && decide ((g : Int) ≤ max (ps.getD (m + 2 * t) 0) (ps.getD (m + 2 * t + 1) 0)))) := fun x ex => by
        refine ⟨_, rfl, _, rfl, _, _, rfl, rfl, _, rfl, ?_⟩
        refine ite2 (fun z => ?_) (fun z => ?_)
        · refine ⟨_, rfl, _, rfl, _, _, rfl, rfl, rfl, _, rfl, fin x _ ex ?_⟩
          rw [z, Bool.true_and]
        · refine ⟨rfl, _, rfl, fin x _ ex ?_⟩
          rw [Bool.eq_false_iff.mpr z, Bool.false_and]
      refine ⟨_, rfl, _, rfl, _, rfl, _, _, rfl, rfl, l, _, _, _, rfl, rfl, hq, e2, _, _, rfl, rfl, _, rfl, ?_⟩
      refine ite2 (fun z => ?_) (fun z => ?_)
      · refine ⟨_, rfl, _, rfl, _, _, rfl, rfl, l, _, _, _, rfl, rfl, hq, e2, _, rfl, _, _, rfl, rfl, yy _ ?_⟩
        unfold wr
        rw [z, Bool.true_and]
      · refine yy _ ?_
        unfold wr
        rw [Bool.eq_false_iff.mpr z, Bool.false_and]
    · rintro σ H2 ⟨u, v, w', rfl, rfl, hj2⟩
      refine k true ⟨fun _ c hc hpar => ?_, fun _ => rfl⟩
      have := hj2 ((c - m) / 2) (by unfold half2; omega)
      rw [show m + 2 * ((c - m) / 2) = c by omega] at this
      exact this

theorem scGood : FnScope ["_law_script", "_law_start", "_law_size", "_law_pile_here", "_law_stamp", "_law_at", "_law_number_here", "_law_gap"] ["_law_script", "_law_start", "_law_size"] (defScope sGood) := ⟨rfl, rfl, rfl, by decide +kernel, rfl, by decide +kernel, by decide +kernel⟩
theorem ok_good {f fN fLP fF : Addr} {fd fdN fdLP fdF : FuncData} (D : Def K mg "_law_good" sGood ["_law_script", "_law_start", "_law_size"] f fd) (DN : Def K mg "_law_number" sNumber ["_law_script", "_law_k"] fN fdN)
    (DLP : Def K mg "_law_places" sLPlaces ["_law_pile_here"] fLP fdLP) (DF : Def K mg "_law_fits" sFits ["_law_at", "_law_stamp", "_law_gap"] fF fdF) (T : Own mg) (M : OwnM mg) :
    FnOk P w K mg base CX0 2 f fd ["_law_script", "_law_start", "_law_size"] (spGood K) := by
  have GN : FnOk P w K mg base CX0 1 fN fdN ["_law_script", "_law_k"] (spNumber K) := ok_number DN T
  have GL : FnOk P w K mg base CX0 1 fLP fdLP ["_law_pile_here"] (spLPlaces K) := ok_lplaces DLP T
  have GF : FnOk P w K mg base CX0 1 fF fdF ["_law_at", "_law_stamp", "_law_gap"] (spFits K) := ok_fits DF T M
  refine D.fn.ok scGood (fun vs H Q E h => ?_) (fun cdv A outer s H vs Q E hr h => ?_)
  · obtain ⟨a, ns, st, n, rfl, _⟩ := h
    rfl
  · obtain ⟨a, ns, st, n, rfl, hq, h1, h2, h3, k⟩ := h
    obtain ⟨tc, hcat, hread⟩ : ∃ t, PS ((cxOf CX0 P w K mg base ["_law_script", "_law_start", "_law_size", "_law_pile_here", "_law_stamp", "_law_at", "_law_number_here", "_law_gap"] "_law_good" (defScope sGood) f cdv A outer s H E).nox) ((forBody ((defBody sGood).getD 1 (.Pass ⟨0, 0, 0, 0⟩))).getD 4 (.Pass ⟨0, 0, 0, 0⟩)) t ∧
        ∀ (D : Ends) (l : Addr) (ms : List Int) (i g : Nat) (u5 u6 : Option V) H2, H2 l = some (.lst (ms.map V.int)) → ms.length = i → i ≤ 100 → g ≤ i →
          (∀ (l' : Addr) H3, Same H2 H3 → H2 l' = none → H3 l' = some (.lst ((ms.take g ++ [(i : Int)] ++ ms.drop g).map V.int)) → D.nx [some (.ref a), some (.int (st : Int)), some (.int (n : Int)), some (.ref l'), some (.int (i : Int)), u5, u6, some (.int (g : Int))] H3) →
          t D [some (.ref a), some (.int (st : Int)), some (.int (n : Int)), some (.ref l), some (.int (i : Int)), u5, u6, some (.int (g : Int))] H2 := by
      refine ⟨_, ps_set (i := 3) scGood.nd rfl (Or.inl rfl) (pe_op op_cat (pe_op op_cat (pe_slice sl_list (pv 3) po_none (po_some (pv 7))) (pe_lst (pa_cons (pv 4) pa_nil))) (pe_slice sl_list (pv 3) (po_some (pv 7)) po_none)), ?_⟩
      intro D l ms i g u5 u6 H2 hl hm hi hg kk
      have gl : g ≤ (ms.map V.int).length := by rw [List.length_map, hm]; exact hg
      refine ⟨_, rfl, _, rfl, _, rfl, l, _, rfl, SqL.of hl, fun p1 hp1 => ?_⟩
      rw [cut_take _ gl]
      refine ⟨_, rfl, small_line (by show 1 ≤ 1000; decide), fun p2 hp2 => ?_⟩
      have t1 := same_new (o := .lst ((ms.map V.int).take g)) hp1
      have t2 := same_new (o := .lst [V.int (i : Int)]) hp2
      refine ⟨p1, p2, _, _, rfl, rfl, t2 _ _ upd_same, upd_same, ?_, fun p3 hp3 => ?_⟩
      · refine small_line ?_
        rw [List.length_take, List.length_map]
        simp
        omega
      have t3 := same_new (o := .lst ((ms.map V.int).take g ++ [V.int (i : Int)])) hp3
      refine ⟨_, rfl, _, rfl, _, rfl, l, _, rfl, SqL.of (t3 _ _ (t2 _ _ (t1 _ _ hl))), fun p4 hp4 => ?_⟩
      rw [cut_drop _ gl]
      have t4 := same_new (o := .lst ((ms.map V.int).drop g)) hp4
      refine ⟨p3, p4, _, _, rfl, rfl, t4 _ _ upd_same, upd_same, ?_, fun p5 hp5 => ?_⟩
      · refine small_line ?_
        rw [List.length_append, List.length_take, List.length_drop, List.length_map]
        simp
        omega
      have s5 : Same H2 _ := t1.trans (t2.trans (t3.trans t4))
      refine kk p5 _ (s5.trans (same_new hp5)) (s5.free hp5) ?_
      rw [upd_same, List.map_append, List.map_append, List.map_take, List.map_drop]
      rfl
    refine ⟨_, pss_cons (ps_set (i := 3) scGood.nd rfl (Or.inl rfl) (pe_lst (pa_cons pe_int pa_nil)))
      (pss_cons (ps_for PassesOwn.never rfl (pi_range2 rfl T.range (pa_cons pe_int (pa_cons (pv 2) pa_nil))) (pg_name (i := 4) scGood.nd rfl (Or.inl rfl))
        (pss_cons (ps_set (i := 5) scGood.nd rfl (Or.inl rfl) (pe_call GL hr rfl DLP.at_ DLP.fn.kp DLP.bd .nil pass0 (pa_cons (pv 3) pa_nil)))
        (pss_cons (ps_set (i := 6) scGood.nd rfl (Or.inl rfl) (pe_call GN hr rfl DN.at_ DN.fn.kp DN.bd .nil pass0 (pa_cons (pv 0) (pa_cons (pe_op op_add (pv 1) (pv 4)) pa_nil))))
        (pss_cons (ps_set (i := 7) scGood.nd rfl (Or.inl rfl) (pe_op op_mod (pv 6) (pe_op op_add (pv 4) pe_int)))
        (pss_cons (ps_if (pt_not (pt_val (pe_call GF hr (by rfl) DF.at_ DF.fn.kp DF.bd .nil pass0 (pa_cons (pv 5) (pa_cons (pv 4) (pa_cons (pv 7) pa_nil))))))
            (pss_one (ps_set (i := 7) scGood.nd rfl (Or.inl rfl) (pe_op op_add (pe_ix ix_list (pv 5) (pe_op op_sub (pv 4) pe_int) (fun _ _ => rfl)) (pe_op op_mod (pe_op op_fdiv (pv 6) pe_int) pe_int)))) pss_nil)
        (pss_one hcat))))))
      (pss_one (ps_ret (pv 3)))), ?_⟩
    refine ⟨small_line (by decide), fun l0 hl0 => ?_⟩
    refine ⟨_, rfl, _, _, rfl, ⟨by omega, by omega, by omega, by omega⟩, for_range (lo := 1) (n := ((n : Int) - 1).toNat) (fun i σ H2 => ∃ (l : Addr) (ms : List Int) (v4 v5 v6 v7 : Option V), σ = [some (.ref a), some (.int (st : Int)), some (.int (n : Int)), some (.ref l), v4, v5, v6, v7] ∧ Same H H2 ∧ H l = none ∧ H2 l = some (.lst (ms.map V.int)) ∧ ms.Perm (iota (i + 1)) ∧ NoX (plc ms))
      ⟨l0, [0], none, none, none, none, rfl, same_new hl0, hl0, upd_same, List.Perm.refl _, nox_one⟩ ?_ ?_⟩
    · rintro i σ H2 hi ⟨l, ms, v4, v5, v6, v7, rfl, s2, hl, hl2, pm, nx⟩
      have ml := perm_len pm
      rw [show (1 : Int) + (i : Nat) = ((i + 1 : Nat) : Int) by omega]
      refine ⟨_, rfl, l, ms, i + 1, rfl, SqL.of hl2, pm, by omega, fun la H3 s3 hla0 hla => ?_⟩
      have pl := plc_length ms
      refine ⟨_, rfl, _, rfl, _, rfl, _, _, rfl, rfl, a, ns, st + (i + 1), ?_, (s2.trans s3).seq hq, by omega, fun y H4 s4 y1 y2 => ?_⟩
      · simp
      refine ⟨_, rfl, _, rfl, _, _, rfl, rfl, _, _, rfl, rfl, ?_, ?_⟩
      · show (0 : Int) < ((i + 1 : Nat) : Int) + 1
        omega
      have g0 := Int.emod_nonneg y (show ((i + 1 : Nat) : Int) + 1 ≠ 0 by omega)
      have g1 := Int.emod_lt_of_pos y (show (0 : Int) < ((i + 1 : Nat) : Int) + 1 by omega)
      obtain ⟨g, hg⟩ : ∃ g : Nat, y % (((i + 1 : Nat) : Int) + 1) = (g : Int) := ⟨(y % (((i + 1 : Nat) : Int) + 1)).toNat, by omega⟩
      show gName 7 (V.int (y % (((i + 1 : Nat) : Int) + 1))) _ _ _
      rw [hg] at g0 g1 ⊢
      have hl4 := s4 _ _ (s3 _ _ hl2)
      have hla4 := s4 _ _ hla
      have ends : ∀ (D : Ends) (g' : Nat), g' ≤ i + 1 → FitG (plc ms) (i + 1) g' → (∀ σ H5, (∃ (l : Addr) (ms : List Int) (v4 v5 v6 v7 : Option V), σ = [some (.ref a), some (.int (st : Int)), some (.int (n : Int)), some (.ref l), v4, v5, v6, v7] ∧ Same H H5 ∧ H l = none ∧ H5 l = some (.lst (ms.map V.int)) ∧ ms.Perm (iota (i + 1 + 1)) ∧ NoX (plc ms)) → D.nx σ H5) →
          tc D [some (.ref a), some (.int (st : Int)), some (.int (n : Int)), some (.ref l), some (.int ((i + 1 : Nat) : Int)), some (.ref la), some (.int y), some (.int (g' : Int))] H4 := fun D g' hg' hF hD =>
        hread D l ms (i + 1) g' _ _ H4 hl4 ml (by omega) hg' fun l' H5 s5 f5 e5 => hD _ _ ⟨l', _, _, _, _, _, rfl, s2.trans (s3.trans (s4.trans s5)), (s2.trans (s3.trans s4)).free f5, e5, perm_ins pm g', by
          have := (nox_ins pm (by omega) hg').mpr ⟨nx, hF⟩
          unfold ins at this
          rw [ml] at this
          exact this⟩
      refine ⟨_, rfl, _, rfl, _, rfl, la, plc ms, i + 1, g, rfl, SqL.of hla4, by rw [pl, ml], by omega, by omega, fun b hb => ?_⟩
      cases b with
      | true => exact ⟨true, rfl, iteF (ends _ g (by omega) (hb.mp rfl) fun _ _ z => z)⟩
      | false =>
        refine ⟨false, rfl, iteT ?_⟩
        obtain ⟨j, j1, j2, j3⟩ := plc_get pm (s := i) (by omega)
        have ej : atI ((plc ms).map V.int) (((i + 1 : Nat) : Int) - 1) = some (.int (j : Int)) := by
          rw [show ((i + 1 : Nat) : Int) - 1 = ((i : Nat) : Int) by omega]
          exact atI_nat (by rw [List.getElem?_map, j1]; rfl)
        refine ⟨_, rfl, _, rfl, _, _, rfl, rfl, la, _, _, _, rfl, rfl, SqL.of hla4, ej, _, rfl, _, _, rfl, rfl, ⟨by decide, by decide⟩, _, _, rfl, rfl, (by show (0 : Int) < 2; decide), _, _, rfl, rfl, ?_⟩
        have b0 := Int.emod_nonneg (y / 64) (show (2 : Int) ≠ 0 by decide)
        have b1 := Int.emod_lt_of_pos (y / 64) (show (0 : Int) < 2 by decide)
        have := fun D hD => ends D (j + (y / 64 % 2).toNat) (by omega) (fit_beside (e := (y / 64 % 2).toNat) pm (by omega) (by omega) (by rw [show i + 1 - 1 = i by omega, plc_at pm j3]; omega)) hD
        rw [show ((j + (y / 64 % 2).toNat : Nat) : Int) = (j : Int) + y / 64 % 2 by omega] at this
        exact this _ fun _ _ z => z
    · rintro σ H2 ⟨l, ms, v4, v5, v6, v7, rfl, s2, hl, hl2, pm, nx⟩
      rw [show ((n : Int) - 1).toNat + 1 = n by omega] at pm
      exact ⟨_, rfl, k l ms H2 s2 hl pm nx hl2⟩
end
end Sf
namespace Sf
open PySem L2 Pl
section
variable {P : Program} {w : World} {K : PySem.W.Frag} {mg : Str → Option Value} {base : Heap}
theorem scNone : FnScope ["_law_at", "_law_one", "_law_other"] ["_law_at"] (defScope sNone) := ⟨rfl, rfl, rfl, by decide +kernel, rfl, by decide +kernel, by decide +kernel⟩
theorem ok_none {f fW : Addr} {fd fdW : FuncData} (D : Def K mg "_law_none_cross" sNone ["_law_at"] f fd)
    (DW : Def K mg "_law_wraps" sLWraps ["_law_at", "_law_crease", "_law_stamp"] fW fdW) (T : Own mg) (M : OwnM mg) : FnOk P w K mg base CX0 2 f fd ["_law_at"] (spNone K) := by
  have GW : FnOk P w K mg base CX0 1 fW fdW ["_law_at", "_law_crease", "_law_stamp"] (spWraps K) := ok_lwraps DW M
  refine D.fn.ok scNone (fun vs H Q E h => ?_) (fun cdv A outer s H vs Q E hr h => ?_)
  · obtain ⟨l, ps, rfl, _⟩ := h
    rfl
  · obtain ⟨l, ps, rfl, hq, h1, h2, k⟩ := h
    refine ⟨_, pss_cons (ps_for PassesOwn.never rfl (pi_range1 rfl T.range (pa_cons (pe_op op_sub (pe_callB call_len_seq (by rfl) T.len PySem.boot_len (pa_cons (pv 0) pa_nil)) pe_int) pa_nil)) (pg_name (i := 1) scNone.nd rfl (Or.inl rfl))
        (pss_one (ps_for PassesOwn.never rfl (pi_range3 rfl T.range (pa_cons (pe_op op_add (pv 1) pe_int) (pa_cons (pe_op op_sub (pe_callB call_len_seq (by rfl) T.len PySem.boot_len (pa_cons (pv 0) pa_nil)) pe_int) (pa_cons pe_int pa_nil)))) (pg_name (i := 2) scNone.nd rfl (Or.inl rfl))
          (pss_one (ps_if (pt_cmpR op_ne (pe_call GW hr rfl DW.at_ DW.fn.kp DW.bd .nil pass0 (pa_cons (pv 0) (pa_cons (pv 1) (pa_cons (pv 2) pa_nil)))) (pe_call GW hr rfl DW.at_ DW.fn.kp DW.bd .nil pass0 (pa_cons (pv 0) (pa_cons (pv 1) (pa_cons (pe_op op_add (pv 2) pe_int) pa_nil)))) (nomark _)) (pss_one (ps_ret pe_bl)) pss_nil)))))
      (pss_one (ps_ret pe_bl)), ?_⟩
    refine ⟨_, rfl, l, _, rfl, .inl hq, _, _, rfl, rfl, _, rfl, ?_, ?_, ?_⟩
    · rw [List.length_map]; omega
    · rw [List.length_map]; omega
    refine for_range (lo := 0) (n := ((((ps.map V.int).length : Nat) : Int) - 1).toNat) (fun i σ H2 => ∃ (v u : Option V), σ = [some (.ref l), v, u] ∧ H2 = H ∧ ∀ a b : Nat, a < i → a + 2 ≤ b → b + 1 < ps.length → (b - a) % 2 = 0 → cr ps a b = false) ⟨none, none, rfl, rfl, fun a b ha => by omega⟩ ?_ ?_
    · rintro i σ H2 hi ⟨v, u, rfl, rfl, hno⟩
      rw [List.length_map] at hi
      rw [show (0 : Int) + (i : Nat) = (i : Int) by omega]
      refine ⟨_, rfl, _, _, rfl, rfl, _, rfl, l, _, rfl, .inl hq, _, _, rfl, rfl, _, _, rfl, ?_, ?_⟩
      · rw [List.length_map]; exact ⟨by omega, by omega, by omega, by omega⟩
      rw [List.length_map]
      refine for_step (lo := (i : Int) + 2) (c := 2) (n := half2 ((i : Int) + 2) ((ps.length : Int) - 1)) (fun j σ H3 => ∃ (u : Option V), σ = [some (.ref l), some (.int (i : Int)), u] ∧ H3 = H2 ∧ ∀ t : Nat, t < j → cr ps i (i + 2 + 2 * t) = false) ⟨_, rfl, rfl, fun t ht => by omega⟩ ?_ ?_
      · rintro j σ H3 hj ⟨u, rfl, rfl, hj2⟩
        have hj' : i + 2 + 2 * j + 1 < ps.length := by unfold half2 at hj; omega
        rw [show ((i : Int) + 2 + (j : Nat) * 2) = ((i + 2 + 2 * j : Nat) : Int) by omega]
        refine ⟨_, rfl, _, rfl, _, rfl, l, ps, i, i + 2 + 2 * j, rfl, hq, by omega, by omega, _, rfl, _, rfl, _, rfl, _, _, rfl, rfl, l, ps, i, i + 2 + 2 * j + 1, rfl, hq, by omega, by omega, rfl, _, rfl, ?_⟩
        rw [dec_bl]
        show if cr ps i (i + 2 + 2 * j) = true then _ else _
        refine ite2 (fun z => ?_) (fun z => ?_)
        · refine k false ⟨fun y => (by cases y), fun N => ?_⟩
          rw [N i (i + 2 + 2 * j) (by omega) hj' (by omega)] at z
          cases z
        · refine ⟨_, rfl, rfl, fun t ht => ?_⟩
          by_cases e : t = j
          · rw [e]; exact Bool.eq_false_iff.mpr z
          · exact hj2 t (by omega)
      · rintro σ H3 ⟨u, rfl, rfl, hj2⟩
        refine ⟨_, _, rfl, rfl, fun a b ha hab hb hpar => ?_⟩
        by_cases e : a = i
        · subst e
          have := hj2 ((b - a - 2) / 2) (by unfold half2; omega)
          rw [show a + 2 + 2 * ((b - a - 2) / 2) = b by omega] at this
          exact this
        · exact hno a b (by omega) hab hb hpar
    · rintro σ H2 ⟨v, u, rfl, rfl, hno⟩
      rw [List.length_map] at hno
      exact k true ⟨fun _ a b hab hb hpar => hno a b (by omega) hab hb hpar, fun _ => rfl⟩
end
end Sf
namespace Sf
open PySem L2 Pl
/-- a list that is a pile of n stamps -/
def spIsPile (K : PySem.W.Frag) : Sp := fun vs H Q _ => ∃ (l : Addr) (ns : List Int) (n : Nat), vs = [.ref l, .int (n : Int)] ∧ H l = some (.lst (ns.map V.int)) ∧ ns.Perm (iota n) ∧ n ≤ 100 ∧ ∀ H', Same H H' → Q (.bl true) H'
/-- which stamps are seen behind the first i -/
def seen (ns : List Int) (n i : Nat) : List V := (List.range n).map fun (j : Nat) => V.bl (decide ((j : Int) ∈ ns.take i))
theorem seen_length (ns : List Int) (n i : Nat) : (seen ns n i).length = n := by simp [seen]
theorem seen_get (ns : List Int) {n i j : Nat} (h : j < n) : (seen ns n i)[j]? = some (.bl (decide ((j : Int) ∈ ns.take i))) := by
  unfold seen
  rw [List.getElem?_map, List.getElem?_range h]
  rfl
theorem seen_zero (ns : List Int) (n : Nat) : seen ns n 0 = (List.replicate n ([V.bl false] : List V)).flatten := by
  have e : (List.replicate n ([V.bl false] : List V)).flatten = List.replicate n (V.bl false) := by
    induction n with
    | zero => rfl
    | succ n ih => rw [List.replicate_succ, List.flatten_cons, ih, List.replicate_succ]; rfl
  rw [e]
  refine List.ext_getElem? fun j => ?_
  by_cases h : j < n
  · rw [seen_get ns h, List.getElem?_replicate, if_pos h]
    simp
  · rw [List.getElem?_eq_none (by rw [seen_length]; omega), List.getElem?_eq_none (by simp; omega)]
theorem seen_step {ns : List Int} {n i s : Nat} (h : ns.Perm (iota n)) (hs : ns[i]? = some (s : Int)) : (seen ns n i).set s (.bl true) = seen ns n (i + 1) := by
  have hm := (perm_mem h).mp (List.mem_of_getElem? hs)
  have tk : ns.take (i + 1) = ns.take i ++ [(s : Int)] := by rw [List.take_succ, hs]; rfl
  refine List.ext_getElem? fun j => ?_
  by_cases hj : j < n
  · rw [seen_get ns hj, tk]
    by_cases e : j = s
    · subst e
      rw [List.getElem?_set_self (by rw [seen_length]; omega)]
      simp
    · rw [List.getElem?_set_ne (by omega), seen_get ns hj]
      congr 2
      have : ¬ ((j : Int) = (s : Int)) := by omega
      simp [this]
  · rw [List.getElem?_eq_none (by rw [List.length_set, seen_length]; omega), List.getElem?_eq_none (by rw [seen_length]; omega)]
theorem seen_not {ns : List Int} {n i s : Nat} (h : ns.Perm (iota n)) (hs : ns[i]? = some (s : Int)) : (s : Int) ∉ ns.take i := fun z => by
  obtain ⟨j, hj⟩ := List.getElem?_of_mem z
  have hji : j < i := by
    have := (List.getElem?_eq_some_iff.mp hj).1
    rw [List.length_take] at this
    omega
  rw [List.getElem?_take_of_lt hji] at hj
  have := nodup_at (perm_nodup h) hj hs
  omega
section
variable {P : Program} {w : World} {K : PySem.W.Frag} {mg : Str → Option Value} {base : Heap}
theorem scIsPile : FnScope ["_law_found", "_law_size", "_law_seen", "_law_stamp"] ["_law_found", "_law_size"] (defScope s_law_is_pile) := ⟨rfl, rfl, rfl, by decide +kernel, rfl, by decide +kernel, by decide +kernel⟩
theorem ok_ispile {f fCo : Addr} {fd fdCo : FuncData} (D : Def K mg "_law_is_pile" s_law_is_pile ["_law_found", "_law_size"] f fd) (DCo : Def K mg "_law_counts" sCounts ["_law_thing"] fCo fdCo) (T : Own mg) :
    FnOk P w K mg base CX0 2 f fd ["_law_found", "_law_size"] (spIsPile K) := by
  have GCo : FnOk P w K mg base CX0 1 fCo fdCo ["_law_thing"] spCounts := ok_counts DCo T
  refine D.fn.ok scIsPile (fun vs H Q E h => ?_) (fun cdv A outer s H vs Q E hr h => ?_)
  · obtain ⟨l, ns, n, rfl, _⟩ := h
    rfl
  · obtain ⟨l, ns, n, rfl, hl, pm, n2, k⟩ := h
    have nl := perm_len pm
    refine ⟨_, pss_cons (ps_if (pw_or (pt_not (pt_val (pe_callB call_isinst (by rfl) T.isinstance boot_isinstance (pa_cons (pv 0) (pa_cons (pe_bltn (by rfl) T.list boot_list (v := .ty "list") rfl) pa_nil)))))
          (pw_or1 (pt_cmpR op_ne (pe_callB call_len_seq (by rfl) T.len PySem.boot_len (pa_cons (pv 0) pa_nil)) (pv 1) (nomark _)))).pt (pss_one (ps_ret pe_bl)) pss_nil)
      (pss_cons (ps_set (i := 2) scIsPile.nd rfl (Or.inl rfl) (pe_op op_rep (pe_lst (pa_cons pe_bl pa_nil)) (pv 1)))
      (pss_cons (ps_for PassesOwn.never rfl (pi_list (pv 0)) (pg_name (i := 3) scIsPile.nd rfl (Or.inl rfl))
        (pss_cons (ps_if (pw_or (pt_not (pt_val (pe_call GCo hr (by rfl) DCo.at_ DCo.fn.kp DCo.bd .nil pass0 (pa_cons (pv 3) pa_nil))))
            (pw_or (pt_cmpR op_lt (pv 3) pe_int (nomark _)) (pw_or (pt_cmpR op_ge (pv 3) (pv 1) (nomark _)) (pw_or1 (pt_val (pe_ix ix_list (pv 2) (pv 3) (fun _ _ => rfl))))))).pt (pss_one (ps_ret pe_bl)) pss_nil)
        (pss_one (ps_asg pe_bl (pg_sub (pv 2) (pv 3) set_list)))))
      (pss_one (ps_ret pe_bl)))), ?_⟩
    refine ⟨_, rfl, _, "list", _, true, rfl, .lst hl, rfl, true, rfl, iteF ?_⟩
    refine ⟨_, rfl, l, _, rfl, .inl (SqL.of hl), _, rfl, rfl, _, rfl, iteNS (by rw [List.length_map, nl]) ?_⟩
    refine ⟨small_line (by decide), fun z hz => ⟨_, rfl, z, _, [.bl false], rfl, rfl, upd_same, by omega, by omega, small_line (by simp; omega), fun ls hls => ?_⟩⟩
    have s2 : Same H _ := (same_new hz).trans (same_new (o := .lst (seen ns n 0)) hls)
    have hls0 : H ls = none := (same_new hz).free hls
    rw [show ((n : Int)).toNat = n by omega, ← seen_zero ns n]
    refine ⟨_, rfl, l, rfl, ⟨_, s2.seq (SqL.of hl)⟩, for_list (K := K) (a := l) (xs := ns.map V.int) (fun i σ H2 => ∃ (v : Option V), σ = [some (.ref l), some (.int (n : Int)), some (.ref ls), v] ∧ Same H H2 ∧ H2 ls = some (.lst (seen ns n i)))
      ⟨none, rfl, s2, upd_same⟩ (fun i σ H2 _ ⟨_, _, s3, _⟩ => s3.seq (SqL.of hl)) ?_ ?_⟩
    · rintro i x σ H2 hx ⟨v, rfl, s3, h3⟩
      rw [List.getElem?_map] at hx
      cases e : ns[i]? with
      | none => rw [e] at hx; cases hx
      | some y =>
        rw [e] at hx
        cases hx
        have hy := (perm_mem pm).mp (List.mem_of_getElem? e)
        obtain ⟨t, rfl⟩ : ∃ t : Nat, y = (t : Int) := ⟨y.toNat, by omega⟩
        have gx : atI (seen ns n i) (t : Int) = some (.bl false) := by
          refine atI_nat ?_
          rw [seen_get ns (by omega), decide_eq_false (seen_not pm e)]
        refine ⟨_, rfl, _, rfl, true, rfl, iteF ?_⟩
        refine ⟨_, rfl, _, _, rfl, rfl, _, rfl, ?_⟩
        refine ite2 (fun z => ?_) (fun _ => ?_)
        · have := of_decide_eq_true z
          omega
        refine ⟨_, rfl, _, rfl, _, _, rfl, rfl, _, rfl, ?_⟩
        refine ite2 (fun z => ?_) (fun _ => ?_)
        · have := of_decide_eq_true z
          omega
        refine ⟨_, rfl, _, rfl, ls, _, _, _, rfl, rfl, SqL.of h3, gx, false, rfl, iteF ?_⟩
        refine ⟨_, rfl, _, rfl, ls, _, _, t, rfl, rfl, h3, ?_, _, rfl, fun b o eb => ?_, ?_⟩
        · rw [seen_length]
          unfold ixN
          rw [if_pos (by omega), if_pos (by omega)]
          rfl
        · rw [upd_ne (ne_of_none eb hls0)]
          exact s3 b o eb
        · rw [upd_same, seen_step pm e]
    · rintro σ H2 ⟨v, rfl, s3, h3⟩
      exact k H2 s3
end
end Sf
set_option maxHeartbeats 4000000
namespace L2
open PySem PySem.Spec PyProof.Rows
/-- a comprehension over a list, with a test, of any length -/
theorem lc_list_big {K : PySem.W.Frag} {a : Addr} {xs : List V} {l : Addr} {H1 : Hp} {tt : TT} {te : TE} {σ' : St} {Q : VK} (p : V → Bool) (f : V → V) (hn : xs.length < sizeLine) (hl : H1 l = none) (hx : SqL K H1 a xs)
    (ht : ∀ x H2 (R : Bool → Hp → Prop), x ∈ xs → Same H1 H2 → (∀ H3, Same H2 H3 → R (p x) H3) → tt (some x :: σ') H2 R)
    (he : ∀ x H2 (R : VK), x ∈ xs → p x = true → Same H1 H2 → (∀ H3, Same H2 H3 → R (f x) H3) → te (some x :: σ') H2 R)
    (hq : ∀ H2, Same H1 H2 → H2 l = some (.lst ((xs.filter p).map f)) → Q (.ref l) H2) :
    LCG (Itl K a) l σ' tt te Q H1 := by
  refine ⟨fun i m H2 => m = xs.length - i ∧ i ≤ xs.length ∧ Same H1 H2 ∧ H2 l = some (.lst (((xs.take i).filter p).map f)), ⟨xs.length, by simp, Nat.zero_le _, fun b o e => by rw [upd_ne (ne_of_none e hl)]; exact e, by rw [upd_same]; rfl⟩, ?_⟩
  rintro i m H2 ⟨rfl, hi, s2, h2⟩
  by_cases hlt : i < xs.length
  · refine .inr ⟨⟨xs, xs[i], s2.seq hx, by simp [hlt]⟩, fun x H3 y => ?_⟩
    obtain ⟨e, y⟩ := y
    subst e
    have hxi := y xs (s2.seq hx)
    have hm := List.mem_of_getElem? hxi
    have tk : xs.take (i + 1) = xs.take i ++ [x] := by
      rw [List.take_succ, hxi]
      rfl
    refine ht x _ _ hm s2 fun H4 s4 => ?_
    have s14 : Same H1 H4 := s2.trans s4
    cases q : p x with
    | false =>
      rw [if_neg Bool.false_ne_true]
      refine ⟨xs.length - (i + 1), by omega, rfl, hlt, s14, ?_⟩
      rw [tk, List.filter_append, List.filter_cons, q, List.filter_nil]
      simp only [Bool.false_eq_true, if_false, List.append_nil]
      exact s4 _ _ h2
    | true =>
      rw [if_pos rfl]
      refine he x _ _ hm q s14 fun H5 s5 => ⟨_, xs.length - (i + 1), s5 _ _ (s4 _ _ h2), ?_, by omega, rfl, hlt, fun b o e => ?_, ?_⟩
      · rw [List.length_map]
        refine Nat.lt_of_le_of_lt (List.length_filter_le _ _) ?_
        rw [List.length_take]
        omega
      · rw [upd_ne (ne_of_none e hl)]
        exact s5 _ _ (s14 _ _ e)
      · rw [upd_same, tk, List.filter_append, List.filter_cons, q, List.filter_nil, List.map_append]
        rfl
  · have e : i = xs.length := by omega
    subst e
    rw [List.take_length] at h2
    exact .inl ⟨⟨xs, s2.seq hx, Nat.le_refl _⟩, hq H2 s2 h2⟩
end L2
namespace Sf
open PySem L2 Pl
theorem boot_tuple : bootBuiltins "tuple" = some (.type "tuple") := by decide +kernel
structure OwnT (mg : Str → Option Value) : Prop where
  tuple : mg "tuple" = none
/-- the program's own promises -/
def spPiles (K : PySem.W.Frag) : Sp := fun vs H Q _ => ∃ n : Nat, vs = [.int (n : Int)] ∧ 1 ≤ n ∧ n ≤ 7 ∧ ∀ (l : Addr) (as : List Addr) (pss : List (List Int)) H', Same H H' → LL H' l as pss → pss.length ≤ 10000 → pss.Nodup → (∀ ms, ms ∈ pss ↔ ms.Perm (iota n) ∧ NoX (plc ms)) → Q (.ref l) H'
def spPilesWith (K : PySem.W.Frag) : Sp := fun vs H Q _ => ∃ z : Str, vs = [.str z] ∧ Lets z.cps.toList ∧ z.length ≤ 6 ∧ ∀ (l : Addr) (as : List Addr) (pss : List (List Int)) H', Same H H' → LL H' l as pss → pss.length ≤ 10000 → pss.Nodup →
  (∀ ms, ms ∈ pss ↔ ms.Perm (iota (z.length + 1)) ∧ NoX (plc ms) ∧ lcs (plc ms) = z.cps.toList) → Q (.ref l) H'
def spLLetters (K : PySem.W.Frag) : Sp := fun vs H Q _ => ∃ (la : Addr) (ps : List Int), vs = [.ref la] ∧ SqL K H la (ps.map V.int) ∧ 1 ≤ ps.length ∧ ps.length ≤ 100 ∧ ∀ z H', Same H H' → z.cps.toList = lcs ps → Q (.str z) H'
def spAllGood (K : PySem.W.Frag) : Sp := fun vs H Q _ => ∃ (l : Addr) (as : List Addr) (pss : List (List Int)) (n : Nat), vs = [.ref l, .int (n : Int)] ∧ LL H l as pss ∧ pss.length ≤ 10000 ∧ pss.Nodup ∧ (∀ ms ∈ pss, ms.Perm (iota n) ∧ NoX (plc ms)) ∧ 1 ≤ n ∧ n ≤ 100 ∧ ∀ H', Same H H' → Q (.bl true) H'
/-- an int tuple as a key -/
def keyOf (ns : List Int) : List Key := ns.map Sum.inl
theorem keyOf_tup (ns : List Int) : (keyOf ns).map kV = ns.map V.int := by unfold keyOf; rw [List.map_map]; rfl
theorem keyOf_inj {a b : List Int} (h : keyOf a = keyOf b) : a = b := by
  have := congrArg (List.map fun (k : Key) => match k with | .inl i => i | .inr _ => 0) h
  unfold keyOf at this
  simpa [Function.comp_def] using this
theorem line_of {n : Nat} (h : n ≤ 10001) : n < sizeLine := by rw [sizeLine_eq]; omega
section
variable {P : Program} {w : World} {K : PySem.W.Frag} {mg : Str → Option Value} {base : Heap}
theorem scLLet : FnScope ["_law_at", "_law_told", "_law_crease", "_law_inward"] ["_law_at"] (defScope s_law_letters) := ⟨rfl, rfl, rfl, by decide +kernel, rfl, by decide +kernel, by decide +kernel⟩
theorem ok_lletters {f : Addr} {fd : FuncData} (D : Def K mg "_law_letters" s_law_letters ["_law_at"] f fd) (T : Own mg) : FnOk P w K mg base CX0 1 f fd ["_law_at"] (spLLetters K) := by
  refine D.fn.ok scLLet (fun vs H Q E h => ?_) (fun cdv A outer s H vs Q E hr h => ?_)
  · obtain ⟨la, ps, rfl, _⟩ := h
    rfl
  · obtain ⟨la, ps, rfl, ha, p1, p2, k⟩ := h
    refine ⟨_, pss_cons (ps_set (i := 1) scLLet.nd rfl (Or.inl rfl) (pe_lst pa_nil))
      (pss_cons (ps_for PassesOwn.never rfl (pi_range1 rfl T.range (pa_cons (pe_op op_sub (pe_callB call_len_seq (by rfl) T.len PySem.boot_len (pa_cons (pv 0) pa_nil)) pe_int) pa_nil)) (pg_name (i := 2) scLLet.nd rfl (Or.inl rfl))
        (pss_cons (ps_set (i := 3) scLLet.nd rfl (Or.inl rfl) (pe_cmpR op_eq (pe_cmpR op_gt (pe_ix ix_list (pv 0) (pe_op op_add (pv 2) pe_int) (fun _ _ => rfl)) (pe_ix ix_list (pv 0) (pv 2) (fun _ _ => rfl)) (nomark _)) (pe_cmpR op_eq (pe_op op_mod (pv 2) pe_int) pe_int (nomark _)) (nomark _)))
        (pss_one (ps_expr (pe_bm PySem.F.plainAttrs_list PySem.F.slot_list_append PySem.F.type_list_append mt_append (pv 1) (pa_cons (pe_ix ix_list (pe_lst (pa_cons pe_str (pa_cons pe_str pa_nil))) (pe_callTy call_int1 (by rfl) T.int boot_int (pa_cons (pv 3) pa_nil)) (fun _ _ => rfl)) pa_nil))))))
      (pss_one (ps_ret (pe_bm PySem.F.plainAttrs_str PySem.F.slot_str_join PySem.F.type_str_join mt_join pe_str (pa_cons (pv 1) pa_nil))))), ?_⟩
    refine ⟨small_line (by decide), fun lt hlt => ?_⟩
    refine ⟨_, rfl, la, _, rfl, .inl ((same_new hlt).seq ha), _, _, rfl, rfl, _, rfl, ?_, ?_, ?_⟩
    · rw [List.length_map]; omega
    · rw [List.length_map]; omega
    refine for_range (lo := 0) (n := ((((ps.map V.int).length : Nat) : Int) - 1).toNat) (fun i σ H2 => ∃ (u v : Option V), σ = [some (.ref la), some (.ref lt), u, v] ∧ Same H H2 ∧ H2 lt = some (.lst (((List.range i).map (lc ps)).map fun c => V.str ⟨#[c]⟩)))
      ⟨none, none, rfl, same_new hlt, upd_same⟩ ?_ ?_
    · rintro i σ H2 hi ⟨u, v, rfl, s2, h2⟩
      rw [List.length_map] at hi
      rw [show (0 : Int) + (i : Nat) = (i : Int) by omega]
      have i1 : i + 1 < ps.length := by omega
      have ga1 : atI (ps.map V.int) ((i : Int) + 1) = some (.int (ps.getD (i + 1) 0)) := at_int (c := i + 1) i1
      have ga : atI (ps.map V.int) (i : Int) = some (.int (ps.getD i 0)) := at_int (c := i) (by omega)
      have qa := s2.seq ha
      refine ⟨_, rfl, _, rfl, _, _, rfl, rfl, la, _, _, _, rfl, rfl, qa, ga1, _, rfl, _, rfl, la, _, _, _, rfl, rfl, qa, ga, _, _, rfl, rfl, _, rfl, _, _, rfl, rfl, (by show (0 : Int) < 2; decide), rfl, rfl, ?_⟩
      have e2 : decide (V.int ((i : Int) % 2) = V.int 0) = decide (i % 2 = 0) := by
        by_cases h : i % 2 = 0
        · rw [decide_eq_true h, decide_eq_true]
          congr 1
          omega
        · rw [decide_eq_false h, decide_eq_false]
          intro z
          injection z with z
          omega
      refine ⟨_, rfl, .inl ⟨rfl, _, SqL.of h2⟩, small_line (by decide), fun l2 hl2 => ⟨_, rfl, .inr ⟨_, rfl, ?_⟩⟩⟩
      have t2 := same_new (o := .lst [V.str "M", V.str "V"]) hl2
      have key : atI ([V.str "M", V.str "V"] : List V) (if decide (V.bl (decide (ps.getD i 0 < ps.getD (i + 1) 0)) = V.bl (decide (V.int ((i : Int) % 2) = V.int 0))) then 1 else 0) = some (.str ⟨#[lc ps i]⟩) := by
        rw [e2]
        unfold lc
        by_cases e : decide (ps.getD i 0 < ps.getD (i + 1) 0) = decide (i % 2 = 0)
        · rw [if_pos e, e, decide_eq_true rfl]
          rfl
        · rw [if_neg e, decide_eq_false (fun z => e (by injection z))]
          rfl
      refine ⟨l2, _, _, V.str ⟨#[lc ps i]⟩, rfl, rfl, SqL.of upd_same, key, lt, _, _, rfl, rfl, t2 _ _ h2, ?_, _, _, rfl, fun b o eb => ?_, ?_⟩
      · rw [List.length_map, List.length_map, List.length_range]; exact small1000 (by omega)
      · rw [upd_ne (ne_of_none eb hlt)]
        exact t2 _ _ (s2 _ _ eb)
      · rw [upd_same, List.range_succ, List.map_append, List.map_append]
        rfl
    · rintro σ H2 ⟨u, v, rfl, s2, h2⟩
      rw [List.length_map] at h2
      have en : ((ps.length : Int) - 1).toNat = ps.length - 1 := by omega
      rw [en] at h2
      have e1 : (Txt.join ⟨#[]⟩ ((lcs ps).map fun c => (⟨#[c]⟩ : Str))).cps.toList = lcs ps := join_ones _
      refine ⟨rfl, _, rfl, _, lt, (lcs ps).map fun c => ⟨#[c]⟩, rfl, rfl, ?_, ?_, k _ H2 s2 e1⟩
      · rw [List.map_map]
        exact SqL.of h2
      · have : ∀ cs : List Nat, ((cs.map fun c => (⟨#[c]⟩ : Str)).map (·.length)).sum = cs.length := fun cs => by
          induction cs with
          | nil => rfl
          | cons c cs ih =>
            rw [List.map_cons, List.map_cons, List.sum_cons, ih, List.length_cons]
            show 1 + cs.length = _
            omega
        rw [this, List.length_map, lcs_length]
        show ps.length - 1 + (ps.length - 1) * 0 ≤ _
        omega

theorem scAll : FnScope ["_law_found", "_law_size", "_law_seen", "_law_pile_here"] ["_law_found", "_law_size"] (defScope s_law_all_good) := ⟨rfl, rfl, rfl, by decide +kernel, rfl, by decide +kernel, by decide +kernel⟩
theorem ok_allgood {f fIP fCo fNo fW fLP : Addr} {fd fdIP fdCo fdNo fdW fdLP : FuncData} (D : Def K mg "_law_all_good" s_law_all_good ["_law_found", "_law_size"] f fd) (DIP : Def K mg "_law_is_pile" s_law_is_pile ["_law_found", "_law_size"] fIP fdIP) (DCo : Def K mg "_law_counts" sCounts ["_law_thing"] fCo fdCo)
    (DNo : Def K mg "_law_none_cross" sNone ["_law_at"] fNo fdNo) (DW : Def K mg "_law_wraps" sLWraps ["_law_at", "_law_crease", "_law_stamp"] fW fdW) (DLP : Def K mg "_law_places" sLPlaces ["_law_pile_here"] fLP fdLP) (T : Own mg) (M : OwnM mg) (U : OwnT mg) :
    FnOk P w K mg base CX0 3 f fd ["_law_found", "_law_size"] (spAllGood K) := by
  have GIP : FnOk P w K mg base CX0 2 fIP fdIP ["_law_found", "_law_size"] (spIsPile K) := ok_ispile DIP DCo T
  have GNo : FnOk P w K mg base CX0 2 fNo fdNo ["_law_at"] (spNone K) := ok_none DNo DW T M
  have GLP : FnOk P w K mg base CX0 1 fLP fdLP ["_law_pile_here"] (spLPlaces K) := ok_lplaces DLP T
  refine D.fn.ok scAll (fun vs H Q E h => ?_) (fun cdv A outer s H vs Q E hr h => ?_)
  · obtain ⟨l, as, pss, n, rfl, _⟩ := h
    rfl
  · obtain ⟨l, as, pss, n, rfl, hl, hlen, nd, hgood, n1, n2, k⟩ := h
    have hr1 := hr.mono (show 1 ≤ 2 by decide)
    have hu : _ := hu_of hr
    refine ⟨_, pss_cons (ps_if (pt_not (pt_val (pe_callB call_isinst (by rfl) T.isinstance boot_isinstance (pa_cons (pv 0) (pa_cons (pe_bltn (by rfl) T.list boot_list (v := .ty "list") rfl) pa_nil))))) (pss_one (ps_ret pe_bl)) pss_nil)
      (pss_cons (ps_set (i := 2) scAll.nd rfl (Or.inl rfl) pe_dnewT)
      (pss_cons (ps_for PassesOwn.never rfl (pi_list (pv 0)) (pg_name (i := 3) scAll.nd rfl (Or.inl rfl))
        (pss_cons (ps_if (pw_or (pt_not (pt_val (pe_call GIP hr (by rfl) DIP.at_ DIP.fn.kp DIP.bd .nil pass0 (pa_cons (pv 3) (pa_cons (pv 1) pa_nil))))) (pw_or (pt_cmp (pc_din hu (pe_callTy call_tuple_of (by rfl) U.tuple boot_tuple (pa_cons (pv 3) pa_nil)) (pv 2)))
            (pw_or1 (pt_not (pt_val (pe_call GNo hr (by rfl) DNo.at_ DNo.fn.kp DNo.bd .nil pass0 (pa_cons (pe_call GLP hr1 (by rfl) DLP.at_ DLP.fn.kp DLP.bd .nil pass0 (pa_cons (pv 3) pa_nil)) pa_nil))))))).pt (pss_one (ps_ret pe_bl)) pss_nil)
        (pss_one (ps_dput hu (pv 2) (pe_callTy call_tuple_of (by rfl) U.tuple boot_tuple (pa_cons (pv 3) pa_nil)) pe_bl rfl))))
      (pss_one (ps_ret pe_bl)))), ?_⟩
    refine ⟨_, rfl, _, "list", _, true, rfl, .lst hl.lst, rfl, true, rfl, iteF ?_⟩
    intro ld hld
    have s1 := same_new (o := .dT []) hld
    refine ⟨_, rfl, l, rfl, ⟨_, s1.seq (SqL.of hl.lst)⟩, for_list (K := K) (a := l) (xs := as.map V.ref) (fun i σ H2 => ∃ (v : Option V) (kvs : List (List Key × V)), σ = [some (.ref l), some (.int (n : Int)), some (.ref ld), v] ∧ Same H H2 ∧ H2 ld = some (.dT kvs) ∧ kvs.length ≤ i ∧ ∀ ms : List Int, (valV kvs (keyOf ms)).isSome = true ↔ ms ∈ pss.take i)
      ⟨none, [], rfl, s1, upd_same, Nat.le_refl _, fun ms => by rw [List.take_zero]; exact ⟨fun h => (by cases h), fun h => (by cases h)⟩⟩ (fun i σ H2 _ ⟨_, _, _, s3, _⟩ => s3.seq (SqL.of hl.lst)) ?_ ?_⟩
    · rintro i x σ H2 hx ⟨v, kvs, rfl, s2, hkv, kl, hks⟩
      rw [List.getElem?_map] at hx
      cases ei : as[i]? with
      | none => rw [ei] at hx; cases hx
      | some a =>
        rw [ei] at hx
        obtain rfl : x = V.ref a := (Option.some.inj hx).symm
        have hil := (List.getElem?_eq_some_iff.mp ei).1
        have hip : i < pss.length := by have := hl.len; omega
        have ep : pss[i]? = some pss[i] := List.getElem?_eq_getElem hip
        generalize pss[i] = ms at ep
        have hms := List.mem_of_getElem? ep
        obtain ⟨pm, nx⟩ := hgood ms hms
        have nl := perm_len pm
        have pl := plc_length ms
        have hla := hl.at_ i a ms ei ep
        have tk : pss.take (i + 1) = pss.take i ++ [ms] := by rw [List.take_succ, ep]; rfl
        have nin : ms ∉ pss.take i := fun z => by
          have q := nd.sublist (List.take_sublist (i + 1) pss)
          rw [tk] at q
          exact (List.nodup_append.mp q).2.2 ms z ms (by simp) rfl
        refine ⟨_, rfl, _, rfl, a, ms, n, rfl, s2 _ _ hla, pm, n2, fun H3 s3 => ⟨true, rfl, iteF ?_⟩⟩
        have s23 := s2.trans s3
        refine ⟨_, rfl, a, _, rfl, .inl ⟨SqL.of (s23 _ _ hla), fun t ht => ?_⟩⟩
        have s4 := same_new (o := .tup (ms.map V.int)) ht
        have hkv4 := s4 _ _ (s3 _ _ hkv)
        have htk : (upd H3 t (.tup (ms.map V.int))) t = some (.tup ((keyOf ms).map kV)) := by rw [upd_same, keyOf_tup]
        refine ⟨_, rfl, ld, _, rfl, DGet.t hkv4 htk, _, rfl, ?_⟩
        have no : (valV kvs (keyOf ms)).isSome = false := Bool.eq_false_iff.mpr fun z => nin ((hks ms).mp z)
        rw [no]
        refine iteF ?_
        have s24 := s23.trans s4
        refine ⟨_, rfl, a, ms, n, rfl, SqL.of (s24 _ _ hla), pm, n2, fun lq H5 s5 hq0 hq => ?_⟩
        refine ⟨lq, plc ms, rfl, SqL.of hq, by omega, by omega, fun bb hb => ?_⟩
        rw [hb.mpr nx]
        refine ⟨true, rfl, iteF ?_⟩
        have s25 := s24.trans s5
        refine ⟨_, rfl, _, rfl, a, _, rfl, .inl ⟨SqL.of (s25 _ _ hla), fun t2 ht2 => ?_⟩⟩
        have s6 := same_new (o := .tup (ms.map V.int)) ht2
        have hkv6 := s6 _ _ (s5 _ _ hkv4)
        have htk2 : (upd H5 t2 (.tup (ms.map V.int))) t2 = some (.tup ((keyOf ms).map kV)) := by rw [upd_same, keyOf_tup]
        refine ⟨ld, _, rfl, DPut.t hkv6 htk2 (line_of (by have := hl.len; omega)), _, putK kvs (keyOf ms) (.bl true), rfl, fun b o eb => ?_, upd_same, ?_, fun ms' => ?_⟩
        · rw [upd_ne (ne_of_none eb hld)]
          exact s6 _ _ (s25 _ _ eb)
        · have := length_putK kvs (keyOf ms) (.bl true)
          omega
        · rw [valV_put, tk, List.mem_append]
          by_cases e : ms' = ms
          · subst e
            rw [if_pos rfl]
            simp
          · rw [if_neg (fun z => e (keyOf_inj z)), hks ms']
            simp [e]
    · rintro σ H2 ⟨v, kvs, rfl, s2, _⟩
      exact k H2 s2
end
end Sf
set_option maxHeartbeats 4000000
namespace L2
open PySem PySem.Spec PyProof.Rows
/-- two lists of unlike lengths are not equal -/
def rEqLen (K : PySem.W.Frag) : R2 := fun x y H Q => ∃ p q xs ys, x = .ref p ∧ y = .ref q ∧ SqL K H p xs ∧ SqL K H q ys ∧ xs.length ≠ ys.length ∧ Q (.bl false) H
theorem op_eq_len {X : Cx} (hu : X.A.units < cLine) : OpR X (compareOp .Eq) (rEqLen X.K) := by
  intro pins s σ H x y v u Q I rx ry h
  obtain ⟨p, q, xs, ys, rfl, rfl, hp, hq, hne, k⟩ := h
  cases rx
  cases ry
  obtain ⟨us, r1, p1, _⟩ := I.list hp
  obtain ⟨ws, r2, p2, _⟩ := I.list hq
  have l1 := r1.length
  have l2 := r2.length
  exact SeqAt.eq_list_lengthsAt p1.isList p2.isList (by rw [List.size_toArray, List.size_toArray]; simp; omega) hu ⟨.bl false, H, I, rfl, k⟩
end L2
namespace Sf
open PySem L2 Pl
def ifBody (s : Stmt) : List Stmt := match s with | .If _ b _ _ => b | _ => []
theorem str_ext {a b : Str} (h : a.cps.toList = b.cps.toList) : a = b := by
  cases a; cases b
  simp only at h
  congr 1
  exact Array.toList_inj.mp h
def spLaw (K : PySem.W.Frag) : Sp := fun vs H Q _ => ∃ (a : Addr) (ns : List Int), vs = [.ref a] ∧ SqL K H a (ns.map V.int) ∧ ns.length ≤ 63 ∧ ∀ H', Q (.bl true) H'
section
variable {P : Program} {w : World} {K : PySem.W.Frag} {mg : Str → Option Value} {base : Heap}
abbrev nmLaw : List Str := ["_law_script", "_law_size", "_law_some", "_law_good_here", "_law_way", "_law_found", "_law_row", "_law_told", "_law_pile_here", "_law_at"]
seal PS PSs PE PA
theorem scLaw : FnScope nmLaw ["_law_script"] (defScope sLaw) := ⟨rfl, rfl, rfl, by decide +kernel, rfl, by decide +kernel, by decide +kernel⟩
theorem ok_law {f fPs fPw fD fN fCo fIP fLP fPi fF fG fW fNo fLe fAG : Addr} {fd fdPs fdPw fdD fdN fdCo fdIP fdLP fdPi fdF fdG fdW fdNo fdLe fdAG : FuncData} {kP kW : Nat} (hkP : kP ≤ 29) (hkW : kW ≤ 29) (D : Def K mg "law" sLaw ["_law_script"] f fd) (T : Own mg) (M : OwnM mg) (U : OwnT mg)
    (DPs : Def K mg "piles" s_piles ["many"] fPs fdPs) (GPs : FnOk P w K mg base CX0 kP fPs fdPs ["many"] (spPiles K)) (DPw : Def K mg "piles_with" s_piles_with ["row"] fPw fdPw) (GPw : FnOk P w K mg base CX0 kW fPw fdPw ["row"] (spPilesWith K))
    (DD : Def K mg "_law_drawn" sDrawn ["_law_script", "_law_k"] fD fdD) (DN : Def K mg "_law_number" sNumber ["_law_script", "_law_k"] fN fdN) (DCo : Def K mg "_law_counts" sCounts ["_law_thing"] fCo fdCo)
    (DIP : Def K mg "_law_is_pile" s_law_is_pile ["_law_found", "_law_size"] fIP fdIP) (DLP : Def K mg "_law_places" sLPlaces ["_law_pile_here"] fLP fdLP) (DPi : Def K mg "_law_pile" sPile ["_law_script", "_law_start", "_law_size"] fPi fdPi)
    (DF : Def K mg "_law_fits" sFits ["_law_at", "_law_stamp", "_law_gap"] fF fdF) (DG : Def K mg "_law_good" sGood ["_law_script", "_law_start", "_law_size"] fG fdG) (DW : Def K mg "_law_wraps" sLWraps ["_law_at", "_law_crease", "_law_stamp"] fW fdW)
    (DNo : Def K mg "_law_none_cross" sNone ["_law_at"] fNo fdNo) (DLe : Def K mg "_law_letters" s_law_letters ["_law_at"] fLe fdLe) (DAG : Def K mg "_law_all_good" s_law_all_good ["_law_found", "_law_size"] fAG fdAG) : FnOk P w K mg base CX0 30 f fd ["_law_script"] (spLaw K) := by
  have GD : FnOk P w K mg base CX0 1 fD fdD ["_law_script", "_law_k"] (spDrawn K) := ok_drawn DD T
  have GLP : FnOk P w K mg base CX0 1 fLP fdLP ["_law_pile_here"] (spLPlaces K) := ok_lplaces DLP T
  have GPi : FnOk P w K mg base CX0 2 fPi fdPi ["_law_script", "_law_start", "_law_size"] (spPile K) := ok_pile DPi DN T
  have GG : FnOk P w K mg base CX0 2 fG fdG ["_law_script", "_law_start", "_law_size"] (spGood K) := ok_good DG DN DLP DF T M
  have GNo : FnOk P w K mg base CX0 2 fNo fdNo ["_law_at"] (spNone K) := ok_none DNo DW T M
  have GLe : FnOk P w K mg base CX0 1 fLe fdLe ["_law_at"] (spLLetters K) := ok_lletters DLe T
  have GAG : FnOk P w K mg base CX0 3 fAG fdAG ["_law_found", "_law_size"] (spAllGood K) := ok_allgood DAG DIP DCo DNo DW DLP T M U
  refine D.fn.ok scLaw (fun vs H Q E h => ?_) (fun cdv A outer s H vs Q E hr h => ?_)
  · obtain ⟨a, ns, rfl, _⟩ := h
    rfl
  · obtain ⟨a, ss, rfl, hS, hlen, k⟩ := h
    have hr1 := hr.mono (show 1 ≤ 29 by decide)
    have hr2 := hr.mono (show 2 ≤ 29 by decide)
    have hr3 := hr.mono (show 3 ≤ 29 by decide)
    have hrP := hr.mono hkP
    have hrW := hr.mono hkW
    have hin1 := in1_units hr
    -- from the seventh step on: the row is there
    obtain ⟨t7, h7, r7⟩ : ∃ t, PSs ((cxOf CX0 P w K mg base nmLaw "law" (defScope sLaw) f cdv A outer s H E).nox) ((defBody sLaw).drop 7) t ∧
        ∀ (D : Ends) (n : Nat) (ls lg : Addr) (ms gs : List Int) (wy : Int) (v5 : Option V) (z : Str) H2, 1 ≤ n → n ≤ 7 → H2 ls = some (.lst (ms.map V.int)) → H2 lg = some (.lst (gs.map V.int)) → ms.Perm (iota n) → gs.Perm (iota n) → Lets z.cps.toList → z.length + 1 = n → (∀ H', D.rt (.bl true) H') →
          t D [some (.ref a), some (.int (n : Int)), some (.ref ls), some (.ref lg), some (.int wy), v5, some (.str z), none, none, none] H2 := by
      refine ⟨_, pss_cons (ps_set (i := 7) scLaw.nd rfl (Or.inl rfl) (pe_call GPw hrW rfl DPw.at_ DPw.fn.kp DPw.bd .nil pass0 (pa_cons (pv 6) pa_nil)))
        (pss_cons (ps_if (pw_or (pt_not (pt_val (pe_call GAG hr3 (by rfl) DAG.at_ DAG.fn.kp DAG.bd .nil pass0 (pa_cons (pv 7) (pa_cons (pv 1) pa_nil))))) (pw_or1 (pt_cmpR (op_eq_len hr.units0) (pv 7) (pe_lst pa_nil) (nomark _)))).pt (pss_one (ps_ret pe_bl)) pss_nil)
        (pss_cons (ps_if (pt_cmpR (op_ne_lst hr.units0) (pe_lcomp (cap := [6]) (caps := ["_law_row"]) rfl (pi_list (pv 7)) rfl (by decide +kernel) (by decide +kernel) rfl
            (by show ∀ y : Str × NameKind, y ∈ _ → y.2 = NameKind.free → (defScope sLaw).names.lookup y.1 = some .cell ∨ (defScope sLaw).names.lookup y.1 = some .free; decide +kernel) rfl (fun y hy => by rw [List.mem_singleton.mp hy]; exact ⟨.inl rfl, .inl rfl⟩) (by decide +kernel)
            (fun cl s₃ H₃ fp => ⟨pifs_one (pt_cmpR op_ne (pe_call GLe hr1 rfl DLe.at_ DLe.fn.kp DLe.bd .nil pass0 (pa_cons (pe_call GLP hr1 rfl DLP.at_ DLP.fn.kp DLP.bd .nil pass0 (pa_cons (pv 0) pa_nil)) pa_nil)) (pv 1) (nomark _)), pv 0⟩)) (pe_lst pa_nil) (nomark _)) (pss_one (ps_ret pe_bl)) pss_nil)
        (pss_cons (ps_for PassesOwn.never rfl (pi_list (pe_lst (pa_cons (pv 2) (pa_cons (pv 3) pa_nil)))) (pg_name (i := 8) scLaw.nd rfl (Or.inl rfl))
          (pss_cons (ps_set (i := 9) scLaw.nd rfl (Or.inl rfl) (pe_call GLP hr1 rfl DLP.at_ DLP.fn.kp DLP.bd .nil pass0 (pa_cons (pv 8) pa_nil)))
          (pss_one (ps_if (pt_cmpR op_ne (pe_cmpR (op_inLL (K := K) rfl hin1) (pv 8) (pv 7) rfl) (pe_and (pe_call GNo hr2 rfl DNo.at_ DNo.fn.kp DNo.bd .nil pass0 (pa_cons (pv 9) pa_nil)) (pe_one (pe_cmpR op_eq (pe_call GLe hr1 rfl DLe.at_ DLe.fn.kp DLe.bd .nil pass0 (pa_cons (pv 9) pa_nil)) (pv 6) (nomark _)))) (nomark _)) (pss_one (ps_ret pe_bl)) pss_nil))))
        (pss_one (ps_ret pe_bl))))), ?_⟩
      intro D n ls lg ms gs wy v5 z H2 n1 n2 hls hlg pm pg hz zl kk
      refine ⟨_, rfl, z, rfl, hz, by omega, fun lt as pss H3 s3 hlt hlen3 nd3 all3 => ?_⟩
      have ll3 := hlt.len
      rw [zl] at all3
      have pos : 0 < pss.length := by
        obtain ⟨ps, q1, q2, q3⟩ := some_pile z.cps.toList hz
        have e : z.cps.toList.length + 1 = n := by rw [Array.length_toList]; exact zl
        rw [e] at q1
        exact List.length_pos_of_mem ((all3 ps).mpr ⟨q1, q2, q3⟩)
      refine ⟨_, rfl, _, rfl, lt, as, pss, n, rfl, hlt, hlen3, nd3, fun ps hps => let ⟨q1, q2, _⟩ := (all3 ps).mp hps; ⟨q1, q2⟩, n1, by omega, fun H4 s4 => ⟨true, rfl, iteF ?_⟩⟩
      have hlt4 := hlt.same s4
      refine ⟨_, rfl, small_line (by decide), fun le hle => ⟨lt, le, _, _, rfl, rfl, SqL.of (same_new hle _ _ hlt4.lst), SqL.of upd_same, by rw [List.length_map]; show as.length ≠ 0; omega, _, rfl, iteF ?_⟩⟩
      have hlt5 := hlt4.same (same_new (o := .lst []) hle)
      have s5 : Same H2 _ := s3.trans (s4.trans (same_new (o := .lst []) hle))
      generalize upd H4 le (.lst []) = H5 at hlt5 s5 ⊢
      -- each has the row's letters
      refine ⟨_, rfl, lt, rfl, ⟨_, SqL.of hlt5.lst⟩, fun lk hlk => ?_⟩
      refine lc_list_big (K := K) (xs := as.map V.ref) (fun _ => false) (fun x => x) (by rw [List.length_map]; exact line_of (by omega)) hlk (SqL.of hlt5.lst) (fun x H6 R hx s6 hR => ?_) (fun x H6 R hx hf s6 hR => by cases hf) fun H6 s6 h6 => ?_
      · obtain ⟨b, hb, rfl⟩ := List.mem_map.mp hx
        obtain ⟨i, hi⟩ := List.getElem?_of_mem hb
        have hil := (List.getElem?_eq_some_iff.mp hi).1
        have ep : pss[i]? = some (pss[i]'(by omega)) := List.getElem?_eq_getElem _
        generalize pss[i]'(by omega) = ps at ep
        obtain ⟨q1, q2, q3⟩ := (all3 ps).mp (List.mem_of_getElem? ep)
        have hb6 := s6 _ _ (hlt5.at_ i b ps hi ep)
        have pl := plc_length ps
        have nl := perm_len q1
        refine ⟨_, rfl, b, ps, n, rfl, SqL.of hb6, q1, by omega, fun lq H7 s7 hq0 hq => ?_⟩
        refine ⟨lq, plc ps, rfl, SqL.of hq, by omega, by omega, fun z1 H8 s8 hz1 => ?_⟩
        have ez : z1 = z := str_ext (by rw [hz1, q3])
        subst ez
        refine ⟨_, rfl, rfl, _, rfl, ?_⟩
        rw [decide_eq_true rfl]
        exact hR H8 (s7.trans s8)
      rw [List.filter_eq_nil_iff.mpr (fun _ _ h => by cases h)] at h6
      refine ⟨small_line (by decide), fun le2 hle2 => ⟨lk, le2, _, _, rfl, rfl, SqL.of (same_new hle2 _ _ h6), SqL.of upd_same, rfl, rfl, _, rfl, iteF ?_⟩⟩
      have s56 := s6.trans (same_new (o := .lst []) hle2)
      have hlt7 := hlt5.same s56
      have s27 : Same H2 _ := s5.trans s56
      generalize upd H6 le2 (.lst []) = H7 at hlt7 s27 ⊢
      -- both drawn ones
      refine ⟨_, rfl, _, rfl, small_line (by show 2 ≤ 1000; decide), fun lb hlb => ?_⟩
      have s8 := same_new (o := .lst [V.ref ls, V.ref lg]) hlb
      have hlt8 := hlt7.same s8
      have s28 := s27.trans s8
      refine ⟨lb, rfl, ⟨_, SqL.of upd_same⟩, for_list (K := K) (a := lb) (xs := [V.ref ls, V.ref lg]) (fun i σ H9 => ∃ (v8 v9 : Option V), σ = [some (.ref a), some (.int (n : Int)), some (.ref ls), some (.ref lg), some (.int wy), v5, some (.str z), some (.ref lt), v8, v9] ∧ Same (upd H7 lb (.lst [V.ref ls, V.ref lg])) H9)
        ⟨none, none, rfl, Same.refl _⟩ (fun i σ H9 _ ⟨_, _, _, s9⟩ => s9.seq (SqL.of upd_same)) ?_ ?_⟩
      · rintro i x σ H9 hx ⟨v8, v9, rfl, s9⟩
        have one : ∃ (b : Addr) (ps : List Int), x = V.ref b ∧ H2 b = some (.lst (ps.map V.int)) ∧ ps.Perm (iota n) := by
          match i, hx with
          | 0, hx => exact ⟨ls, ms, (Option.some.inj hx).symm, hls, pm⟩
          | 1, hx => exact ⟨lg, gs, (Option.some.inj hx).symm, hlg, pg⟩
        obtain ⟨b, ps, rfl, hb, pp⟩ := one
        have s29 := s28.trans s9
        have pl := plc_length ps
        have nl := perm_len pp
        refine ⟨_, rfl, b, ps, n, rfl, SqL.of (s29 _ _ hb), pp, by omega, fun lq H10 s10 hq0 hq => ?_⟩
        have s210 := s29.trans s10
        refine ⟨_, rfl, _, rfl, b, lt, ps, as, pss, rfl, rfl, SqL.of (s210 _ _ hb), (hlt8.same s9).same s10, ?_⟩
        have fin : ∀ (y : Bool) H11, Same H10 H11 → (y = true ↔ ps ∈ pss) → rNe (.bl (if false = true then !decide (ps ∈ pss) else decide (ps ∈ pss))) (.bl y) H11 (fun zv H12 => ∃ c, zv = .bl c ∧ if c = true then D.rt (.bl false) H12 else ∃ (v8 v9 : Option V), ([some (.ref a), some (.int (n : Int)), some (.ref ls), some (.ref lg), some (.int wy), v5, some (.str z), some (.ref lt), some (.ref b), some (.ref lq)] : St) = [some (.ref a), some (.int (n : Int)), some (.ref ls), some (.ref lg), some (.int wy), v5, some (.str z), some (.ref lt), v8, v9] ∧ Same (upd H7 lb (.lst [V.ref ls, V.ref lg])) H12) := fun y H11 s11 hy => by
          refine ⟨rfl, _, rfl, ?_⟩
          have e : decide (ps ∈ pss) = y := Bool.eq_iff_iff.mpr (by rw [decide_eq_true_eq]; exact hy.symm)
          refine iteNS (by rw [if_neg Bool.false_ne_true, e]) ⟨_, _, rfl, s9.trans (s10.trans s11)⟩
        refine ⟨_, rfl, lq, plc ps, rfl, SqL.of hq, by omega, by omega, fun bb hb2 => ⟨bb, rfl, ?_⟩⟩
        cases bb with
        | false =>
          refine iteF (fin false H10 (Same.refl _) ⟨fun h => (by cases h), fun h => ?_⟩)
          exact hb2.mpr ((all3 ps).mp h).2.1
        | true =>
          refine iteT ?_
          refine ⟨_, rfl, lq, plc ps, rfl, SqL.of hq, by omega, by omega, fun z1 H11 s11 hz1 => ?_⟩
          refine ⟨_, rfl, rfl, fin _ H11 s11 ?_⟩
          rw [decide_eq_true_eq, all3 ps]
          constructor
          · intro h
            have h' : z1 = z := by injection h
            exact ⟨pp, hb2.mp rfl, by rw [← hz1, h']⟩
          · rintro ⟨_, _, h⟩
            rw [str_ext (hz1.trans h)]
      · rintro σ H9 ⟨v8, v9, rfl, s9⟩
        exact kk H9
    -- from the fifth step on
    obtain ⟨t5, h5, r5⟩ : ∃ t, PSs ((cxOf CX0 P w K mg base nmLaw "law" (defScope sLaw) f cdv A outer s H E).nox) ((defBody sLaw).drop 5) t ∧
        ∀ (D : Ends) (n : Nat) (ls lg : Addr) (ms gs : List Int) (wy : Int) (v5 : Option V) H2, SqL K H2 a (ss.map V.int) → 1 ≤ n → n ≤ 7 → H2 ls = some (.lst (ms.map V.int)) → H2 lg = some (.lst (gs.map V.int)) → ms.Perm (iota n) → gs.Perm (iota n) → (∀ H', D.rt (.bl true) H') →
          t D [some (.ref a), some (.int (n : Int)), some (.ref ls), some (.ref lg), some (.int wy), v5, none, none, none, none] H2 := by
      refine ⟨_, pss_cons (ps_set (i := 6) scLaw.nd rfl (Or.inr rfl) (pe_call GLe hr1 rfl DLe.at_ DLe.fn.kp DLe.bd .nil pass0 (pa_cons (pe_call GLP hr1 rfl DLP.at_ DLP.fn.kp DLP.bd .nil pass0 (pa_cons (pv 3) pa_nil)) pa_nil)))
        (pss_cons (ps_if (pt_cmpR op_eq (pe_op op_mod (pv 4) pe_int) pe_int (nomark _))
          (pss_one (ps_set (i := 6) scLaw.nd rfl (Or.inr rfl) (pe_bm PySem.F.plainAttrs_str PySem.F.slot_str_join PySem.F.type_str_join mt_join pe_str (pa_cons (pe_lcomp (cap := [0]) (caps := ["_law_script"]) rfl (pi_range1 rfl T.range (pa_cons (pe_op op_sub (pv 1) pe_int) pa_nil)) rfl (by decide +kernel) (by decide +kernel) rfl
            (by show ∀ y : Str × NameKind, y ∈ _ → y.2 = NameKind.free → (defScope sLaw).names.lookup y.1 = some .cell ∨ (defScope sLaw).names.lookup y.1 = some .free; decide +kernel) rfl (fun y hy => by rw [List.mem_singleton.mp hy]; exact ⟨.inl rfl, .inl rfl⟩) (by decide +kernel)
            (fun cl s₃ H₃ fp => ⟨pifs_nil, pe_ix (ix_listK (K := K) rfl) (pe_lst (pa_cons pe_str (pa_cons pe_str pa_nil))) (pe_op op_mod (pe_op op_fdiv (pe_call GD hr1 rfl DD.at_ DD.fn.kp DD.bd .nil pass0 (pa_cons (pv 1) (pa_cons pe_int pa_nil))) (pe_op op_add (pe_op op_mul (pv 0) (pv 0)) pe_int)) pe_int) (fun _ _ => rfl)⟩)) pa_nil)))) pss_nil)
        h7), ?_⟩
      intro D n ls lg ms gs wy v5 H2 hS2 n1 n2 hls hlg pm pg kk
      have pl := plc_length gs
      have nl := perm_len pg
      refine ⟨_, rfl, lg, gs, n, rfl, SqL.of hlg, pg, by omega, fun lq H3 s3 hq0 hq => ?_⟩
      refine ⟨lq, plc gs, rfl, SqL.of hq, by omega, by omega, fun z H4 s4 hz => ?_⟩
      have s24 := s3.trans s4
      refine ⟨_, rfl, _, _, rfl, rfl, (by show (0 : Int) < 2; decide), rfl, _, rfl, ?_⟩
      refine ite2 (fun _ => ?_) (fun _ => ?_)
      · -- a row by numbers
        refine ⟨rfl, _, rfl, _, _, rfl, rfl, _, rfl, by omega, by omega, fun lc' hlc => ?_⟩
        let g : Nat → Nat := fun i => if (ss.getD 1 0) / ((i : Int) * (i : Int) + 4) % 2 = 0 then 86 else 77
        refine lc_range (lo := 0) (n := ((n : Int) - 1).toNat) (fun i => V.str ⟨#[g i]⟩) (by omega) hlc (fun i H5 R hi s5 hR => ?_) fun H5 s5 h5 => ?_
        · rw [show (0 : Int) + (i : Nat) = (i : Int) by omega]
          have ib : (i : Int) * (i : Int) ≤ 6 * 6 := Int.mul_le_mul (by omega) (by omega) (by omega) (by omega)
          have i0 : 0 ≤ (i : Int) * (i : Int) := Int.mul_nonneg (by omega) (by omega)
          refine ⟨small_line (by decide), fun lm hlm => ?_⟩
          have t5 := same_new (o := .lst [V.str "V", V.str "M"]) hlm
          refine ⟨_, rfl, a, ss, 1, rfl, (s24.trans (s5.trans t5)).seq hS2, _, rfl, _, rfl, _, _, rfl, rfl, .inl ⟨by omega, by omega⟩, _, _, rfl, rfl, _, _, rfl, rfl, ⟨?_, ?_⟩, _, _, rfl, rfl, (by show (0 : Int) < 2; decide), ?_⟩
          · show (0 : Int) < (i : Int) * (i : Int) + 4
            omega
          · show (i : Int) * (i : Int) + 4 < (1073741824 : Int)
            omega
          have q0 := Int.emod_nonneg (ss.getD 1 0 / ((i : Int) * (i : Int) + 4)) (show (2 : Int) ≠ 0 by decide)
          have q1 := Int.emod_lt_of_pos (ss.getD 1 0 / ((i : Int) * (i : Int) + 4)) (show (0 : Int) < 2 by decide)
          have key : atI ([V.str "V", V.str "M"] : List V) (ss.getD 1 0 / ((i : Int) * (i : Int) + 4) % 2) = some (.str ⟨#[g i]⟩) := by
            have : ss.getD 1 0 / ((i : Int) * (i : Int) + 4) % 2 = 0 ∨ ss.getD 1 0 / ((i : Int) * (i : Int) + 4) % 2 = 1 := by omega
            show atI _ _ = some (V.str ⟨#[if ss.getD 1 0 / ((i : Int) * (i : Int) + 4) % 2 = 0 then 86 else 77]⟩)
            rcases this with e | e <;> rw [e] <;> rfl
          exact ⟨lm, _, _, _, rfl, rfl, SqL.of upd_same, key, hR _ t5⟩
        · have e1 : (Txt.join ⟨#[]⟩ (((List.range ((n : Int) - 1).toNat).map g).map fun c => (⟨#[c]⟩ : Str))).cps.toList = (List.range ((n : Int) - 1).toNat).map g := join_ones _
          refine ⟨_, lc', ((List.range ((n : Int) - 1).toNat).map g).map fun c => ⟨#[c]⟩, rfl, rfl, ?_, ?_, ?_⟩
          · refine SqL.of (h5.trans ?_)
            rw [List.map_map, List.map_map]
            rfl
          · have : ∀ cs : List Nat, ((cs.map fun c => (⟨#[c]⟩ : Str)).map (·.length)).sum = cs.length := fun cs => by
              induction cs with
              | nil => rfl
              | cons c cs ih =>
                rw [List.map_cons, List.map_cons, List.sum_cons, ih, List.length_cons]
                show 1 + cs.length = _
                omega
            rw [this, List.length_map, List.length_map, List.length_range]
            show ((n : Int) - 1).toNat + ((n : Int) - 1).toNat * 0 ≤ _
            omega
          · have s25 := s24.trans s5
            refine r7 _ n ls lg ms gs wy v5 (Txt.join ⟨#[]⟩ (((List.range ((n : Int) - 1).toNat).map g).map fun c => (⟨#[c]⟩ : Str))) H5 n1 n2 (s25 _ _ hls) (s25 _ _ hlg) pm pg ?_ ?_ kk
            · rw [e1]
              intro c hc
              obtain ⟨i, _, rfl⟩ := List.mem_map.mp hc
              show (if _ then 86 else 77) = 86 ∨ (if _ then 86 else 77) = 77
              split
              · exact .inl rfl
              · exact .inr rfl
            · show (Txt.join ⟨#[]⟩ (((List.range ((n : Int) - 1).toNat).map g).map fun c => (⟨#[c]⟩ : Str))).cps.size + 1 = n
              rw [← Array.length_toList, e1, List.length_map, List.length_range]
              omega
      · refine r7 _ n ls lg ms gs wy v5 z H4 n1 n2 (s24 _ _ hls) (s24 _ _ hlg) pm pg (by rw [hz]; exact lcs_lets _) ?_ kk
        show z.cps.size + 1 = n
        rw [← Array.length_toList, hz, lcs_length, pl, nl]
        omega
    -- what is asked of the list of all
    obtain ⟨t6, h6, r6⟩ : ∃ t, PSs ((cxOf CX0 P w K mg base nmLaw "law" (defScope sLaw) f cdv A outer s H E).nox) (ifBody ((defBody sLaw).getD 4 (.Pass ⟨0, 0, 0, 0⟩))) t ∧
        ∀ (D : Ends) (n : Nat) (ls lg : Addr) (ms gs : List Int) (wy : Int) H3, 1 ≤ n → n ≤ 7 → H3 ls = some (.lst (ms.map V.int)) → H3 lg = some (.lst (gs.map V.int)) → ms.Perm (iota n) → gs.Perm (iota n) → NoX (plc gs) → (∀ H', D.rt (.bl true) H') →
          (∀ v5 H4, Same H3 H4 → D.nx [some (.ref a), some (.int (n : Int)), some (.ref ls), some (.ref lg), some (.int wy), v5, none, none, none, none] H4) →
          t D [some (.ref a), some (.int (n : Int)), some (.ref ls), some (.ref lg), some (.int wy), none, none, none, none, none] H3 := by
      refine ⟨_, (pss_cons (ps_set (i := 5) scLaw.nd rfl (Or.inl rfl) (pe_call GPs hrP rfl DPs.at_ DPs.fn.kp DPs.bd .nil pass0 (pa_cons (pv 1) pa_nil)))
          (pss_cons (ps_if (pw_or (pt_not (pt_val (pe_call GAG hr3 (by rfl) DAG.at_ DAG.fn.kp DAG.bd .nil pass0 (pa_cons (pv 5) (pa_cons (pv 1) pa_nil))))) (pw_or1 (pt_cmpR (op_notInLL (K := K) rfl hin1) (pv 3) (pv 5) rfl))).pt (pss_one (ps_ret pe_bl)) pss_nil)
          (pss_cons (ps_if (pt_cmpR op_ne (pe_cmpR (op_inLL (K := K) rfl hin1) (pv 2) (pv 5) rfl) (pe_call GNo hr2 rfl DNo.at_ DNo.fn.kp DNo.bd .nil pass0 (pa_cons (pe_call GLP hr1 rfl DLP.at_ DLP.fn.kp DLP.bd .nil pass0 (pa_cons (pv 2) pa_nil)) pa_nil)) (nomark _)) (pss_one (ps_ret pe_bl)) pss_nil)
          (pss_one (ps_if (pt_cmpR op_eq (pv 1) pe_int (nomark _)) (pss_one (ps_ret pe_bl)) pss_nil))))), ?_⟩
      intro D n ls lg ms gs wy H3 n1 n2 hls hlg pm pg nxg k rest
      refine ⟨_, rfl, n, rfl, n1, n2, fun lf as pss H4 s4 hlf len4 nd4 all4 => ?_⟩
      refine ⟨_, rfl, _, rfl, lf, as, pss, n, rfl, hlf, len4, nd4, fun ps hps => (all4 ps).mp hps, n1, by omega, fun H5 s5 => ⟨true, rfl, iteF ?_⟩⟩
      have s35 := s4.trans s5
      refine ⟨_, rfl, _, rfl, lg, lf, gs, as, pss, rfl, rfl, SqL.of (s35 _ _ hlg), hlf.same s5, _, rfl, ?_⟩
      rw [decide_eq_true ((all4 gs).mpr ⟨pg, nxg⟩)]
      refine iteF ?_
      refine ⟨_, rfl, _, rfl, ls, lf, ms, as, pss, rfl, rfl, SqL.of (s35 _ _ hls), hlf.same s5, ?_⟩
      have pl := plc_length ms
      have nl := perm_len pm
      refine ⟨_, rfl, ls, ms, n, rfl, SqL.of (s35 _ _ hls), pm, by omega, fun lq H6 s6 hq0 hq => ?_⟩
      refine ⟨lq, plc ms, rfl, SqL.of hq, by omega, by omega, fun bb hb => ⟨rfl, _, rfl, ?_⟩⟩
      have e : decide (ms ∈ pss) = bb := Bool.eq_iff_iff.mpr (by rw [decide_eq_true_eq, all4 ms, hb]; exact ⟨fun h => h.2, fun h => ⟨pm, h⟩⟩)
      refine iteNS (by rw [if_neg Bool.false_ne_true, e]) ?_
      refine ⟨_, rfl, rfl, _, rfl, ?_⟩
      refine ite2 (fun _ => k H6) (fun _ => rest _ H6 (s35.trans s6))
    refine ⟨_, pss_cons (ps_set (i := 1) scLaw.nd rfl (Or.inl rfl) (pe_ix ix_list (pe_lst (pa_ints (ns := [1, 2, 3, 4, 5, 3, 4, 5, 4, 5, 2, 3, 6, 4, 6, 7]) rfl))
        (pe_op op_mod (pe_call GD hr1 rfl DD.at_ DD.fn.kp DD.bd .nil pass0 (pa_cons (pv 0) (pa_cons pe_int pa_nil))) pe_int) (fun _ _ => rfl)))
      (pss_cons (ps_set (i := 2) scLaw.nd rfl (Or.inl rfl) (pe_call GPi hr2 rfl DPi.at_ DPi.fn.kp DPi.bd .nil pass0 (pa_cons (pv 0) (pa_cons pe_int (pa_cons (pv 1) pa_nil)))))
      (pss_cons (ps_set (i := 3) scLaw.nd rfl (Or.inl rfl) (pe_call GG hr2 rfl DG.at_ DG.fn.kp DG.bd .nil pass0 (pa_cons (pv 0) (pa_cons (pe_op op_add pe_int (pv 1)) (pa_cons (pv 1) pa_nil)))))
      (pss_cons (ps_set (i := 4) scLaw.nd rfl (Or.inl rfl) (pe_op op_mod (pe_call GD hr1 rfl DD.at_ DD.fn.kp DD.bd .nil pass0 (pa_cons (pv 0) (pa_cons pe_int pa_nil))) pe_int))
      (pss_cons (ps_if (pw_or (pt_cmpR op_lt (pv 1) pe_int (nomark _)) (pw_or1 (pt_cmpR op_lt (pv 4) pe_int (nomark _)))).pt
          h6
          pss_nil)
      h5)))), ?_⟩
    refine ⟨small_line (by decide), fun l0 hl0 => ⟨_, rfl, a, ss, 0, rfl, (same_new hl0).seq hS, _, _, rfl, rfl, (by show (0 : Int) < 16; decide), ?_⟩⟩
    have b0 := Int.emod_nonneg (ss.getD 0 0) (show (16 : Int) ≠ 0 by decide)
    have b1 := Int.emod_lt_of_pos (ss.getD 0 0) (show (0 : Int) < 16 by decide)
    have key : ∃ n : Nat, atI (List.map V.int ([1, 2, 3, 4, 5, 3, 4, 5, 4, 5, 2, 3, 6, 4, 6, 7] : List Int)) (ss.getD 0 0 % 16) = some (.int (n : Int)) ∧ 1 ≤ n ∧ n ≤ 7 := by
      generalize ss.getD 0 0 % 16 = m at b0 b1
      have : m = 0 ∨ m = 1 ∨ m = 2 ∨ m = 3 ∨ m = 4 ∨ m = 5 ∨ m = 6 ∨ m = 7 ∨ m = 8 ∨ m = 9 ∨ m = 10 ∨ m = 11 ∨ m = 12 ∨ m = 13 ∨ m = 14 ∨ m = 15 := by omega
      rcases this with h | h | h | h | h | h | h | h | h | h | h | h | h | h | h | h <;> rw [h]
      · exact ⟨1, rfl, by decide, by decide⟩
      · exact ⟨2, rfl, by decide, by decide⟩
      · exact ⟨3, rfl, by decide, by decide⟩
      · exact ⟨4, rfl, by decide, by decide⟩
      · exact ⟨5, rfl, by decide, by decide⟩
      · exact ⟨3, rfl, by decide, by decide⟩
      · exact ⟨4, rfl, by decide, by decide⟩
      · exact ⟨5, rfl, by decide, by decide⟩
      · exact ⟨4, rfl, by decide, by decide⟩
      · exact ⟨5, rfl, by decide, by decide⟩
      · exact ⟨2, rfl, by decide, by decide⟩
      · exact ⟨3, rfl, by decide, by decide⟩
      · exact ⟨6, rfl, by decide, by decide⟩
      · exact ⟨4, rfl, by decide, by decide⟩
      · exact ⟨6, rfl, by decide, by decide⟩
      · exact ⟨7, rfl, by decide, by decide⟩
    obtain ⟨n, en, n1, n2⟩ := key
    refine ⟨l0, _, _, _, rfl, rfl, SqL.of upd_same, en, ?_⟩
    have s1 := same_new (o := .lst (List.map V.int ([1, 2, 3, 4, 5, 3, 4, 5, 4, 5, 2, 3, 6, 4, 6, 7] : List Int))) hl0
    refine ⟨_, rfl, _, rfl, a, ss, 2, n, rfl, s1.seq hS, by decide, by omega, fun ls ms H2 s2 hls0 pm hls => ?_⟩
    refine ⟨_, rfl, _, rfl, _, _, rfl, rfl, _, rfl, a, ss, 2 + n, n, ?_, (s1.trans s2).seq hS, by omega, n1, by omega, fun lg gs H3 s3 hlg0 pg nxg hlg => ?_⟩
    · rw [show ((2 + n : Nat) : Int) = 2 + (n : Int) by omega]
      rfl
    have hls3 := s3 _ _ hls
    have s13 := s1.trans (s2.trans s3)
    refine ⟨_, rfl, a, ss, 1, rfl, s13.seq hS, _, _, rfl, rfl, (by show (0 : Int) < 4; decide), ?_⟩
    have rest : ∀ v5 H4, Same H3 H4 → t5 { nx := fun _ H' => Q .non H', rt := Q } [some (.ref a), some (.int (n : Int)), some (.ref ls), some (.ref lg), some (.int (ss.getD 1 0 % 4)), v5, none, none, none, none] H4 := fun v5 H4 s4 =>
      r5 _ n ls lg ms gs _ v5 H4 ((s13.trans s4).seq hS) n1 n2 (s4 _ _ hls3) (s4 _ _ hlg) pm pg k
    refine ⟨_, rfl, _, _, rfl, rfl, _, rfl, ?_⟩
    refine ite2 (fun _ => r6 _ n ls lg ms gs _ H3 n1 n2 hls3 hlg pm pg nxg k rest) (fun _ => ?_)
    refine ⟨_, rfl, _, _, rfl, rfl, _, rfl, ?_⟩
    exact ite2 (fun _ => r6 _ n ls lg ms gs _ H3 n1 n2 hls3 hlg pm pg nxg k rest) (fun _ => rest _ H3 (Same.refl _))
end
end Sf
set_option maxHeartbeats 4000000
namespace Sf
open PySem L2 Pl
def spCheckCount : Sp := fun vs H Q _ => ∃ n : Nat, vs = [.int (n : Int)] ∧ 1 ≤ n ∧ n ≤ 7 ∧ Q .non H
def spCheckRow : Sp := fun vs H Q _ => ∃ z : Str, vs = [.str z] ∧ Lets z.cps.toList ∧ z.length ≤ 99 ∧ Q .non H
def spLaid (K : PySem.W.Frag) : Sp := fun vs H Q _ => ∃ (p : Addr) (ns : List Int) (n : Nat), vs = [.ref p, .int (n : Int)] ∧ SqL K H p (ns.map V.int) ∧ ns.length = n ∧ n ≤ 100 ∧
  ∀ (l : Addr) (zs : List (Addr × List Int)) H', Same H H' → LZ H' l zs → (∀ z ∈ zs, H z.1 = none) → zs.map (·.2) = (List.range (n + 1)).map (ins ns) → Q (.ref l) H'
section
variable {P : Program} {w : World} {K : PySem.W.Frag} {mg : Str → Option Value} {base : Heap}
seal PS PSs PE PA
theorem scCheckRow : FnScope ["row"] ["row"] (defScope s_check_row) := ⟨rfl, rfl, rfl, by decide +kernel, rfl, by decide +kernel, by decide +kernel⟩
theorem ok_checkrow {f : Addr} {fd : FuncData} (D : Def K mg "check_row" s_check_row ["row"] f fd) (T : Own mg) : FnOk P w K mg base CX0 1 f fd ["row"] spCheckRow := by
  refine D.fn.ok scCheckRow (fun vs H Q E h => ?_) (fun cdv A outer s H vs Q E hr h => ?_)
  · obtain ⟨z, rfl, _⟩ := h
    rfl
  · obtain ⟨z, rfl, hL, hz, k⟩ := h
    refine ⟨_, pss_one (ps_if (pt_cmpR op_ne (pe_op op_add (pe_bm PySem.F.plainAttrs_str PySem.F.slot_str_count PySem.F.type_str_count mt_count (pv 0) (pa_cons pe_str pa_nil)) (pe_bm PySem.F.plainAttrs_str PySem.F.slot_str_count PySem.F.type_str_count mt_count (pv 0) (pa_cons pe_str pa_nil)))
      (pe_callB call_len_str (by rfl) T.len PySem.boot_len (pa_cons (pv 0) pa_nil)) (nomark _)) pss_never pss_nil), ?_⟩
    refine ⟨_, rfl, rfl, z, _, rfl, rfl, _, rfl, rfl, z, _, rfl, rfl, _, _, rfl, rfl, _, rfl, z, rfl, small_line (by omega), rfl, _, rfl, ?_⟩
    refine iteNS ?_ k
    show V.int _ = V.int _
    rw [(count_lets z).mpr hL]
theorem scCount : FnScope ["many"] ["many"] (defScope s_check_count) := ⟨rfl, rfl, rfl, by decide +kernel, rfl, by decide +kernel, by decide +kernel⟩
theorem ok_count {f : Addr} {fd : FuncData} {tk : Tok} (D : Def K mg "check_count" s_check_count ["many"] f fd) (C : mg "MOST_STAMPS" = some (.int 7 tk)) : FnOk P w K mg base CX0 1 f fd ["many"] spCheckCount := by
  refine D.fn.ok scCount (fun vs H Q E h => ?_) (fun cdv A outer s H vs Q E hr h => ?_)
  · obtain ⟨n, rfl, _⟩ := h
    rfl
  · obtain ⟨n, rfl, h1, h2, k⟩ := h
    refine ⟨_, pss_one (ps_if (pw_or (pt_cmpR op_lt (pv 0) pe_int (nomark _)) (pw_or1 (pt_cmpR op_gt (pv 0) (pe_glob (v := .int 7) (by rfl) C ⟨_, rfl⟩) (nomark _)))).pt pss_never pss_nil), ?_⟩
    refine ⟨_, rfl, _, _, rfl, rfl, _, rfl, ite2 (fun z => ?_) (fun _ => ?_)⟩
    · have := of_decide_eq_true z
      omega
    · refine ⟨_, rfl, _, _, rfl, rfl, _, rfl, ite2 (fun z => ?_) (fun _ => ?_)⟩
      · have := of_decide_eq_true z
        omega
      · exact k
theorem scLaid : FnScope ["pile", "stamp"] ["pile", "stamp"] (defScope s_laid_in) := ⟨rfl, rfl, rfl, by decide +kernel, rfl, by decide +kernel, by decide +kernel⟩
theorem ok_laid {f : Addr} {fd : FuncData} (D : Def K mg "laid_in" s_laid_in ["pile", "stamp"] f fd) (T : Own mg) : FnOk P w K mg base CX0 1 f fd ["pile", "stamp"] (spLaid K) := by
  refine D.fn.ok scLaid (fun vs H Q E h => ?_) (fun cdv A outer s H vs Q E hr h => ?_)
  · obtain ⟨p, ns, n, rfl, _⟩ := h
    rfl
  · obtain ⟨p, ns, n, rfl, hq, hn, h2, k⟩ := h
    refine ⟨_, pss_one (ps_ret (pe_lcomp (cap := [0, 1]) (caps := ["pile", "stamp"]) rfl (pi_range1 rfl T.range (pa_cons (pe_op op_add (pe_callB call_len_seq (by rfl) T.len PySem.boot_len (pa_cons (pv 0) pa_nil)) pe_int) pa_nil))
          rfl (by decide +kernel) (by decide +kernel) rfl (by show ∀ y : Str × NameKind, y ∈ _ → y.2 = NameKind.free → (defScope s_laid_in).names.lookup y.1 = some .cell ∨ (defScope s_laid_in).names.lookup y.1 = some .free; decide +kernel) rfl
          (fun y hy => by rcases List.mem_cons.mp hy with rfl | hy; exact ⟨.inl rfl, .inl rfl⟩; rw [List.mem_singleton.mp hy]; exact ⟨.inl rfl, .inl rfl⟩) (by decide +kernel)
          (fun cl s₃ H₃ fp => ⟨pifs_nil, pe_op op_cat (pe_op op_cat (pe_slice (sl_listK (K := K) rfl) (pv 1) po_none (po_some (pv 0))) (pe_lst (pa_cons (pv 2) pa_nil))) (pe_slice (sl_listK (K := K) rfl) (pv 1) (po_some (pv 0)) po_none)⟩))), ?_⟩
    refine ⟨_, rfl, p, _, rfl, .inl hq, _, _, rfl, rfl, _, rfl, ?_, ?_, fun l hl => ?_⟩
    · rw [List.length_map, hn]; omega
    · rw [List.length_map, hn]; omega
    have en : (((ns.map V.int).length : Int) + 1).toNat = n + 1 := by rw [List.length_map, hn]; omega
    rw [en]
    refine lc_rangeR (lo := 0) (n := n + 1) (fun i v H2 => ∃ a, v = .ref a ∧ H a = none ∧ a ≠ l ∧ H2 a = some (.lst ((ins ns i).map V.int))) ?_ (by omega) hl ?_ ?_
    · rintro i v H2 H3 ⟨a, rfl, h1, h2, h3⟩ kp
      exact ⟨a, rfl, h1, h2, kp a _ h2 h3⟩
    · intro i ys H2 R hi s2 h2l kR
      rw [show (0 : Int) + (i : Nat) = (i : Int) by omega]
      have gl : i ≤ (ns.map V.int).length := by rw [List.length_map]; omega
      have h3 : SqL K H2 p (ns.map V.int) := s2.seq hq
      refine ⟨_, rfl, _, rfl, _, rfl, p, _, rfl, h3, fun p1 hp1 => ?_⟩
      rw [cut_take _ gl]
      refine ⟨_, rfl, small_line (by show 1 ≤ 1000; decide), fun p2 hp2 => ?_⟩
      have t1 := same_new (o := .lst ((ns.map V.int).take i)) hp1
      have t2 := same_new (o := .lst [V.int (n : Int)]) hp2
      refine ⟨p1, p2, _, _, rfl, rfl, t2 _ _ upd_same, upd_same, ?_, fun p3 hp3 => ?_⟩
      · refine small_line ?_
        rw [List.length_take, List.length_map]
        simp
        omega
      have t3 := same_new (o := .lst ((ns.map V.int).take i ++ [V.int (n : Int)])) hp3
      refine ⟨_, rfl, _, rfl, _, rfl, p, _, rfl, t3.seq (t2.seq (t1.seq h3)), fun p4 hp4 => ?_⟩
      rw [cut_drop _ gl]
      have t4 := same_new (o := .lst ((ns.map V.int).drop i)) hp4
      refine ⟨p3, p4, _, _, rfl, rfl, t4 _ _ upd_same, upd_same, ?_, fun p5 hp5 => ?_⟩
      · refine small_line ?_
        rw [List.length_append, List.length_take, List.length_drop, List.length_map]
        simp
        omega
      have t5 := same_new (o := .lst ((ns.map V.int).take i ++ [V.int (n : Int)] ++ (ns.map V.int).drop i)) hp5
      have s5 := t1.trans (t2.trans (t3.trans t4))
      refine kR _ _ (s5.trans t5) ⟨p5, rfl, ?_, ?_, ?_⟩
      · exact s2.free (s5.free hp5)
      · intro z
        subst z
        rw [s5 _ _ h2l] at hp5
        cases hp5
      · rw [upd_same]
        unfold ins
        rw [List.map_append, List.map_append, List.map_take, List.map_drop, hn]
        rfl
    · intro vs H2 s2 hl2 vl hv
      obtain ⟨zs, z1, z2, z3⟩ := lz_of (f := ins ns) (G := fun a => H a = none) hl2 vl fun i v hi => by
        obtain ⟨a, h1, h2, h3, h4⟩ := hv i v hi
        exact ⟨a, h1, h2, h4⟩
      exact k l zs H2 s2 z1 z2 z3
open Classical in
/-- the list at a value is a foldable pile -/
noncomputable def noxAt (H : Hp) : V → Bool
  | .ref a => decide (∃ ms : List Int, H a = some (.lst (ms.map V.int)) ∧ NoX (plc ms))
  | _ => false
theorem noxAt_eq {H : Hp} {a : Addr} {ms : List Int} (h : H a = some (.lst (ms.map V.int))) : noxAt H (.ref a) = noxb ms := by
  refine Bool.eq_iff_iff.mpr ?_
  rw [noxb_iff]
  unfold noxAt
  simp only [decide_eq_true_eq]
  constructor
  · rintro ⟨xs, h1, h2⟩
    rw [h] at h1
    have : ms = xs := map_int_inj (by injection h1 with h1; injection h1)
    exact this ▸ h2
  · exact fun h2 => ⟨ms, h, h2⟩
theorem scPiles : FnScope ["many", "found", "stamp", "grown", "smaller"] ["many"] (defScope s_piles) := ⟨rfl, rfl, rfl, by decide +kernel, rfl, by decide +kernel, by decide +kernel⟩
theorem ok_piles {f fC fL fX fCk fP fCr fW : Addr} {fd fdC fdL fdX fdCk fdP fdCr fdW : FuncData} {tk : Tok} (D : Def K mg "piles" s_piles ["many"] f fd) (DC : Def K mg "check_count" s_check_count ["many"] fC fdC) (C : mg "MOST_STAMPS" = some (.int 7 tk)) (DL : Def K mg "laid_in" s_laid_in ["pile", "stamp"] fL fdL)
    (DX : Def K mg "crossing" sCrossing ["pile"] fX fdX) (DP : Def K mg "places" sPlaces ["pile"] fP fdP) (DCk : Def K mg "check_pile" sCheck ["pile"] fCk fdCk)
    (DCr : Def K mg "cross" sCross ["at", "one", "other"] fCr fdCr) (DW : Def K mg "wraps" sWraps ["at", "crease", "stamp"] fW fdW) (T : Own mg) (M : OwnM mg) : FnOk P w K mg base CX0 4 f fd ["many"] (spPiles K) := by
  have GC : FnOk P w K mg base CX0 1 fC fdC ["many"] spCheckCount := ok_count DC C
  have GL : FnOk P w K mg base CX0 1 fL fdL ["pile", "stamp"] (spLaid K) := ok_laid DL T
  have GX : FnOk P w K mg base CX0 3 fX fdX ["pile"] (spCrossing K) := ok_crossing DX DP DCk DCr DW T M
  refine D.fn.ok scPiles (fun vs H Q E h => ?_) (fun cdv A outer s H vs Q E hr h => ?_)
  · obtain ⟨n, rfl, _⟩ := h
    rfl
  · obtain ⟨n, rfl, n1, n2, k⟩ := h
    have hr1 := hr.mono (show 1 ≤ 3 by decide)
    refine ⟨_, pss_cons (ps_expr (pe_call GC hr1 rfl DC.at_ DC.fn.kp DC.bd .nil pass0 (pa_cons (pv 0) pa_nil)))
      (pss_cons (ps_set (i := 1) scPiles.nd rfl (Or.inl rfl) (pe_lst (pa_cons (pe_lst (pa_cons pe_int pa_nil)) pa_nil)))
      (pss_cons (ps_for PassesOwn.never rfl (pi_range2 rfl T.range (pa_cons pe_int (pa_cons (pv 0) pa_nil))) (pg_name (i := 2) scPiles.nd rfl (Or.inl rfl))
        (pss_cons (ps_set (i := 3) scPiles.nd rfl (Or.inl rfl) (pe_lst pa_nil))
        (pss_cons (ps_for PassesOwn.never rfl (pi_list (pv 1)) (pg_name (i := 4) scPiles.nd rfl (Or.inl rfl))
          (pss_one (ps_expr (pe_bm PySem.F.plainAttrs_list PySem.F.slot_list_extend PySem.F.type_list_extend mt_extend (pv 3) (pa_cons
            (pe_lcomp (cap := []) (caps := []) rfl (pi_list (pe_call GL hr1 rfl DL.at_ DL.fn.kp DL.bd .nil pass0 (pa_cons (pv 4) (pa_cons (pv 2) pa_nil))))
              rfl (by decide +kernel) (by decide +kernel) rfl (by show ∀ y : Str × NameKind, y ∈ _ → y.2 = NameKind.free → (defScope s_piles).names.lookup y.1 = some .cell ∨ (defScope s_piles).names.lookup y.1 = some .free; decide +kernel) rfl (fun y hy => by cases hy) (by decide +kernel)
              (fun cl s₃ H₃ fp => ⟨pifs_one (pt_cmpR op_isN (pe_call GX hr rfl DX.at_ DX.fn.kp DX.bd .nil pass0 (pa_cons (pv 0) pa_nil)) pe_non (nomark _)), pv 0⟩)) pa_nil)))))
        (pss_one (ps_set (i := 1) scPiles.nd rfl (Or.inl rfl) (pv 3))))))
      (pss_one (ps_ret (pv 1))))), ?_⟩
    refine ⟨_, rfl, n, rfl, n1, n2, small_line (by decide), fun a0 h0 => ⟨small_line (by show 1 ≤ 1000; decide), fun l0 hl0 => ?_⟩⟩
    have t0 := same_new (o := .lst [V.int 0]) h0
    have t1 := same_new (o := .lst [V.ref a0]) hl0
    have z0 : LZ (upd (upd H a0 (.lst [V.int 0])) l0 (.lst [V.ref a0])) l0 [(a0, [0])] := ⟨upd_same, fun z hz => by
      rw [List.mem_singleton.mp hz]
      exact t1 _ _ upd_same⟩
    refine ⟨_, rfl, 1, (n : Int), rfl, ⟨by decide, by decide, by omega, by omega⟩, for_range (lo := 1) (n := ((n : Int) - 1).toNat) (fun i σ H2 => ∃ (l : Addr) (zs : List (Addr × List Int)) (u v r : Option V), σ = [some (.int (n : Int)), some (.ref l), u, v, r] ∧ Same H H2 ∧ LZ H2 l zs ∧ AllP (i + 1) (zs.map fun (z : Addr × List Int) => z.2) ∧ zs.length ≤ fac (i + 1))
      ⟨l0, [(a0, [0])], none, none, none, rfl, t0.trans t1, z0, AllP.one, Nat.le_refl 1⟩ ?_ ?_⟩
    · rintro i σ H2 hi ⟨l, zs, u, v, r, rfl, s2, hz, hA, hf⟩
      have zl : ∀ z ∈ zs, z.2.Perm (iota (i + 1)) := fun z hz => ((hA.2 z.2).mp (List.mem_map_of_mem hz)).1
      refine ⟨small_line (by decide), fun lg hlg => ?_⟩
      have t2 := same_new (o := .lst []) hlg
      have lH : H lg = none := s2.free hlg
      have nl : l ≠ lg := ne_of_none hz.lst hlg
      have nz : ∀ z ∈ zs, z.1 ≠ lg := fun z h => ne_of_none (hz.at_ z h) hlg
      have n7 : i + 1 ≤ 6 := by omega
      refine ⟨_, rfl, l, rfl, ⟨_, SqL.of (hz.same t2).lst⟩, for_list (K := K) (a := l) (xs := zs.map fun z => V.ref z.1) (fun j σ H3 => ∃ (gs : List (Addr × List Int)) (v : Option V), σ = [some (.int (n : Int)), some (.ref l), some (.int (1 + (i : Int))), some (.ref lg), v] ∧ Same H H3 ∧ LZ H3 l zs ∧ LZ H3 lg gs ∧ (∀ z ∈ gs, z.1 ≠ lg) ∧ gs.map (fun (z : Addr × List Int) => z.2) = grown ((zs.take j).map fun (z : Addr × List Int) => z.2))
        ⟨[], r, rfl, s2.trans t2, hz.same t2, LZ.nil upd_same, fun z h => (by cases h), rfl⟩ (fun j σ H3 _ ⟨_, _, _, _, h3, _⟩ => SqL.of h3.lst) ?_ ?_⟩
      · rintro j x σ H3 hj ⟨gs, v3, rfl, s3, hz3, hg3, ng, eg⟩
        rw [List.getElem?_map] at hj
        cases ez : zs[j]? with
        | none => rw [ez] at hj; cases hj
        | some z =>
          rw [ez] at hj
          obtain rfl : V.ref z.1 = x := by simpa using hj
          have hm := List.mem_of_getElem? ez
          have pz := zl z hm
          have lz := perm_len pz
          refine ⟨_, rfl, .inl ⟨rfl, _, SqL.of hg3.lst⟩, ?_⟩
          refine ⟨_, rfl, _, rfl, z.1, z.2, i + 1, ?_, SqL.of (hz3.at_ z hm), lz, by omega, fun ll bs H4 s4 hb fb eb => ?_⟩
          · show [V.ref z.1, V.int (1 + (i : Int))] = [V.ref z.1, V.int ((i + 1 : Nat) : Int)]
            rw [show ((i + 1 : Nat) : Int) = 1 + (i : Int) by omega]
          refine ⟨ll, rfl, ⟨_, SqL.of hb.lst⟩, fun l5 hl5 => ?_⟩
          have bl : bs.length = i + 2 := by
            have := congrArg List.length eb
            rw [List.length_map, List.length_map, List.length_range] at this
            exact this
          have pb : ∀ b ∈ bs, b.2.Perm (iota (i + 2)) := fun b hb => by
            have : b.2 ∈ bs.map (·.2) := List.mem_map_of_mem hb
            rw [eb] at this
            obtain ⟨g, _, e⟩ := List.mem_map.mp this
            rw [← e]
            exact ins_perm pz g
          refine lc_list_if (p := noxAt H4) (f := id) (by rw [List.length_map]; omega) hl5 (SqL.of hb.lst) ?_ ?_ ?_
          · intro x H5 R hx s5 kR
            obtain ⟨b, hbm, rfl⟩ := List.mem_map.mp hx
            have hb4 := hb.at_ b hbm
            refine ⟨_, rfl, b.1, b.2, i + 2, rfl, SqL.of (s5 _ _ hb4), pb b hbm, by omega, by omega, fun H6 s6 nx => ?_, fun t a1 a2 H6 s6 ht _ h1 h2 h3 h4 => ?_⟩
            · refine ⟨rfl, _, rfl, ?_⟩
              have e : noxAt H4 (.ref b.1) = true := (noxAt_eq hb4).trans ((noxb_iff _).mpr nx)
              have := kR H6 s6
              rw [e] at this
              exact this
            · refine ⟨rfl, _, rfl, ?_⟩
              have e : noxAt H4 (.ref b.1) = false := (noxAt_eq hb4).trans (by
                cases q : noxb b.2 with
                | false => rfl
                | true =>
                  have := (noxb_iff _).mp q a1 a2 h1 (by rw [plc_length, perm_len (pb b hbm)]; exact h2) h3
                  rw [h4] at this
                  cases this)
              have := kR H6 s6
              rw [e] at this
              exact this
          · intro x H5 R hx _ s5 kR
            exact ⟨_, rfl, kR H5 (Same.refl _)⟩
          · intro H5 s5 h5
            have fl : ((bs.map fun z => V.ref z.1).filter (noxAt H4)).map id = (bs.filter fun b => noxb b.2).map fun z => V.ref z.1 := by
              rw [List.map_id, List.filter_map]
              congr 1
              refine List.filter_congr fun b hbm => ?_
              exact noxAt_eq (hb.at_ b hbm)
            rw [fl] at h5
            have hb5 : LZ H5 l5 (bs.filter fun b => noxb b.2) := ⟨h5, fun b hbm => s5 _ _ (hb.at_ b (List.mem_filter.mp hbm).1)⟩
            have hg5 := (hg3.same s4).same s5
            have gb : gs.length ≤ zs.length * 7 := by
              have := congrArg List.length eg
              rw [List.length_map] at this
              rw [this]
              refine Nat.le_trans (grown_len (n := i + 1) fun ms hm => ?_) ?_
              · obtain ⟨y, hy, rfl⟩ := List.mem_map.mp hm
                exact perm_len (zl y (List.mem_of_mem_take hy))
              · rw [List.length_map, List.length_take]
                exact Nat.mul_le_mul (Nat.min_le_right _ _) (by omega)
            have f7 := fac7 (show i + 1 ≤ 7 by omega)
            refine ⟨lg, l5, _, _, rfl, rfl, hg5.lst, h5, ?_, ?_⟩
            · rw [List.length_map, List.length_map]
              have : (bs.filter fun b => noxb b.2).length ≤ bs.length := List.length_filter_le _ _
              refine Nat.le_of_lt (line_big (n := _) ?_)
              omega
            · have kp : ∀ b o, b ≠ lg → H5 b = some o → upd H5 lg (.lst ((gs.map fun z => V.ref z.1) ++ ((bs.filter fun b => noxb b.2).map fun z => V.ref z.1))) b = some o := fun b o nb e => by rw [upd_ne nb]; exact e
              have nb : ∀ b ∈ bs, b.1 ≠ lg := fun b hbm e => by
                have := fb b hbm
                rw [e, hg3.lst] at this
                cases this
              refine ⟨gs ++ bs.filter fun b => noxb b.2, _, rfl, fun b o e => ?_, (((hz3.same s4).same s5)).but nl nz kp, ⟨by rw [upd_same, List.map_append], fun b hbm => ?_⟩, fun b hbm => ?_, ?_⟩
              · exact kp b o (ne_of_none e lH) (s5 _ _ (s4 _ _ (s3 _ _ e)))
              · rcases List.mem_append.mp hbm with h | h
                · exact kp _ _ (ng b h) (hg5.at_ b h)
                · exact kp _ _ (nb b (List.mem_filter.mp h).1) (hb5.at_ b h)
              · rcases List.mem_append.mp hbm with h | h
                · exact ng b h
                · exact nb b (List.mem_filter.mp h).1
              · rw [List.map_append, eg, List.take_succ, ez]
                rw [show (zs.take j ++ (some z).toList) = zs.take j ++ [z] from rfl, List.map_append, grown_app]
                congr 1
                rw [show ([z] : List (Addr × List Int)).map (·.2) = [z.2] from rfl, grown_one]
                unfold block
                rw [lz, ← eb, List.filter_map]
                rfl
      · rintro σ H3 ⟨gs, v3, rfl, s3, hz3, hg3, ng, eg⟩
        rw [List.length_map, List.take_length] at eg
        refine ⟨_, rfl, lg, gs, _, _, _, rfl, s3, hg3, ?_, ?_⟩
        · rw [eg]
          exact hA.step (by omega)
        · have := congrArg List.length eg
          rw [List.length_map] at this
          rw [this]
          refine Nat.le_trans (grown_len (n := i + 1) fun ms hm => ?_) ?_
          · obtain ⟨y, hy, rfl⟩ := List.mem_map.mp hm
            exact perm_len (zl y hy)
          · rw [List.length_map]
            exact Nat.mul_le_mul hf (Nat.le_refl _)
    · rintro σ H2 ⟨l, zs, u, v, r, rfl, s2, hz, hA, hf⟩
      have e : ((n : Int) - 1).toNat + 1 = n := by omega
      rw [e] at hA hf
      refine ⟨_, rfl, k l _ _ H2 s2 hz.ll ?_ hA.1 hA.2⟩
      rw [List.length_map]
      exact Nat.le_trans hf (fac7 n2)
theorem scPilesWith : FnScope ["row"] ["row"] (defScope s_piles_with) := ⟨rfl, rfl, rfl, by decide +kernel, rfl, by decide +kernel, by decide +kernel⟩
open Classical in
noncomputable def letAt (H : Hp) (z : Str) : V → Bool
  | .ref a => decide (∃ ms : List Int, H a = some (.lst (ms.map V.int)) ∧ lcs (plc ms) = z.cps.toList)
  | _ => false
theorem letAt_eq {H : Hp} {z : Str} {a : Addr} {ms : List Int} (h : H a = some (.lst (ms.map V.int))) : letAt H z (.ref a) = decide (lcs (plc ms) = z.cps.toList) := by
  refine Bool.eq_iff_iff.mpr ?_
  unfold letAt
  simp only [decide_eq_true_eq]
  constructor
  · rintro ⟨xs, h1, h2⟩
    rw [h] at h1
    have : ms = xs := map_int_inj (by injection h1 with h1; injection h1)
    exact this ▸ h2
  · exact fun h2 => ⟨ms, h, h2⟩
theorem ok_pileswith {f fR fPs fLe : Addr} {fd fdR fdPs fdLe : FuncData} (D : Def K mg "piles_with" s_piles_with ["row"] f fd) (DR : Def K mg "check_row" s_check_row ["row"] fR fdR) (DPs : Def K mg "piles" s_piles ["many"] fPs fdPs) (GPs : FnOk P w K mg base CX0 4 fPs fdPs ["many"] (spPiles K))
    (DLe : Def K mg "letters" sLetters ["pile"] fLe fdLe) (GLe : FnOk P w K mg base CX0 3 fLe fdLe ["pile"] (spLetters K)) (T : Own mg) : FnOk P w K mg base CX0 5 f fd ["row"] (spPilesWith K) := by
  have GR : FnOk P w K mg base CX0 1 fR fdR ["row"] spCheckRow := ok_checkrow DR T
  refine D.fn.ok scPilesWith (fun vs H Q E h => ?_) (fun cdv A outer s H vs Q E hr h => ?_)
  · obtain ⟨z, rfl, _⟩ := h
    rfl
  · obtain ⟨z, rfl, hL, hz, k⟩ := h
    have hr1 := hr.mono (show 1 ≤ 4 by decide)
    have hr3 := hr.mono (show 3 ≤ 4 by decide)
    refine ⟨_, pss_cons (ps_expr (pe_call GR hr1 rfl DR.at_ DR.fn.kp DR.bd .nil pass0 (pa_cons (pv 0) pa_nil)))
      (pss_one (ps_ret (pe_lcomp (cap := [0]) (caps := ["row"]) rfl (pi_list (pe_call GPs hr rfl DPs.at_ DPs.fn.kp DPs.bd .nil pass0 (pa_cons (pe_op op_add (pe_callB call_len_str (by rfl) T.len PySem.boot_len (pa_cons (pv 0) pa_nil)) pe_int) pa_nil)))
          rfl (by decide +kernel) (by decide +kernel) rfl (by show ∀ y : Str × NameKind, y ∈ _ → y.2 = NameKind.free → (defScope s_piles_with).names.lookup y.1 = some .cell ∨ (defScope s_piles_with).names.lookup y.1 = some .free; decide +kernel) rfl (fun y hy => by rw [List.mem_singleton.mp hy]; exact ⟨.inl rfl, .inl rfl⟩) (by decide +kernel)
          (fun cl s₃ H₃ fp => ⟨pifs_one (pt_cmpR op_eq (pe_call GLe hr3 rfl DLe.at_ DLe.fn.kp DLe.bd .nil pass0 (pa_cons (pv 0) pa_nil)) (pv 1) (nomark _)), pv 0⟩)))), ?_⟩
    refine ⟨_, rfl, z, rfl, hL, by omega, _, rfl, z, rfl, small_line (by omega), _, _, rfl, rfl, z.length + 1, ?_, by omega, by omega, fun l as pss H1 s1 hl pb nd hm => ?_⟩
    · rw [show ((z.length + 1 : Nat) : Int) = (z.length : Int) + 1 by omega]
      rfl
    obtain ⟨lz, e2⟩ := hl.lz
    have hp : ∀ b ∈ as.zip pss, b.2.Perm (iota (z.length + 1)) := fun b hb => ((hm b.2).mp (by rw [← e2]; exact List.mem_map_of_mem hb)).1
    have hzl : (as.zip pss).length ≤ 10000 := by
      have := congrArg List.length e2
      rw [List.length_map] at this
      omega
    refine ⟨l, rfl, ⟨_, SqL.of lz.lst⟩, fun l5 hl5 => ?_⟩
    refine lc_list_big (p := letAt H1 z) (f := id) (by rw [List.length_map]; exact line_of (by omega)) hl5 (SqL.of lz.lst) ?_ ?_ ?_
    · intro x H5 R hx s5 kR
      obtain ⟨b, hbm, rfl⟩ := List.mem_map.mp hx
      have hb4 := lz.at_ b hbm
      refine ⟨_, rfl, b.1, b.2, z.length + 1, rfl, SqL.of (s5 _ _ hb4), hp b hbm, by omega, by omega, fun y H6 s6 ey => ?_⟩
      refine ⟨_, rfl, rfl, _, rfl, ?_⟩
      have e : decide (V.str y = V.str z) = letAt H1 z (.ref b.1) := by
        rw [letAt_eq hb4, ← ey]
        refine Bool.eq_iff_iff.mpr ?_
        rw [decide_eq_true_eq, decide_eq_true_eq]
        constructor
        · intro q
          injection q with q
          rw [q]
        · intro q
          have : y.cps = z.cps := Array.ext' q
          cases y
          cases z
          cases this
          rfl
      rw [e]
      exact kR H6 s6
    · intro x H5 R hx _ s5 kR
      exact ⟨_, rfl, kR H5 (Same.refl _)⟩
    · intro H5 s5 h5
      have fl : (((as.zip pss).map fun z => V.ref z.1).filter (letAt H1 z)).map id = ((as.zip pss).filter fun b => decide (lcs (plc b.2) = z.cps.toList)).map fun z => V.ref z.1 := by
        rw [List.map_id, List.filter_map]
        congr 1
        refine List.filter_congr fun b hbm => ?_
        exact letAt_eq (lz.at_ b hbm)
      rw [fl] at h5
      have lz5 : LZ H5 l5 ((as.zip pss).filter fun b => decide (lcs (plc b.2) = z.cps.toList)) := ⟨h5, fun b hbm => s5 _ _ (lz.at_ b (List.mem_filter.mp hbm).1)⟩
      have em : ((as.zip pss).filter fun b => decide (lcs (plc b.2) = z.cps.toList)).map (·.2) = pss.filter fun m => decide (lcs (plc m) = z.cps.toList) := by
        conv => rhs; rw [← e2]
        rw [List.filter_map]
        rfl
      have fin := k l5 _ _ H5 (s1.trans s5) lz5.ll
      rw [em] at fin
      refine fin (Nat.le_trans (List.length_filter_le _ _) pb) (nd.sublist List.filter_sublist) fun ms => ?_
      rw [List.mem_filter, hm, decide_eq_true_eq, and_assoc]
end
end Sf
namespace Sf
open PySem L2 Pl
theorem def_mk {K : PySem.W.Frag} {h : Heap} {mg : Str → Option Value} {x : Str} {st : Stmt} {f : Addr} {oc : Value} {od an : Option Addr} {sl : Array (Option Value)} {kV dc pm cd ct : Value} {ps : List Str} (X : K.In h) (G : h.Ns mainGlobals mg)
    (a : PySem.W.nsIn K mainGlobals x = some (some (.ref f))) (l : K.lookup f = some ⟨oc, od, .func (PySem.W.fnOf x x (defArgs st) (defBody st) (defScope st) .none kV dc pm an cd ct), sl⟩) (c : PySem.W.codeIn K cd x = true) (k : PySem.W.keepIn K (.ref f) = true)
    (hb : ∀ (kV doc pm : Value) (an : Option Addr) (cdv ct : Value) (us : List Value), us.length = ps.length → bindArgs (PySem.W.fnOf x x (defArgs st) (defBody st) (defScope st) .none kV doc pm an cdv ct) ⟨us, []⟩ = pure (ps.zip us)) :
    Def K mg x st ps f (PySem.W.fnOf x x (defArgs st) (defBody st) (defScope st) .none kV dc pm an cd ct) := ⟨fun_mk l c k, (fun_mk l c k).binds hb, PySem.W.mg_of X G a⟩
end Sf
namespace Sf
open PySem L2 Pl
theorem all_mk {l : PySem.W.OpenLaw} {w : World} {K : PySem.W.Frag} {h : Heap} {mg : Str → Option Value} {fa f1 f2 f3 f4 f5 f6 f7 f8 f9 f10 f11 f12 f13 f14 f15 f16 f17 f18 f19 f20 f21 f22 f23 f24 f25 : Addr} (X : K.In h) (G : h.Ns mainGlobals mg) (hfa : mg "law" = some (.ref fa))
    {od1 an1 od2 an2 od3 an3 od4 an4 od5 an5 od6 an6 od7 an7 od8 an8 od9 an9 od10 an10 od11 an11 od12 an12 od13 an13 od14 an14 od15 an15 od16 an16 od17 an17 od18 an18 od19 an19 od20 an20 od21 an21 od22 an22 od23 an23 od24 an24 od25 an25 : Option Addr} {sl1 sl2 sl3 sl4 sl5 sl6 sl7 sl8 sl9 sl10 sl11 sl12 sl13 sl14 sl15 sl16 sl17 sl18 sl19 sl20 sl21 sl22 sl23 sl24 sl25 : Array (Option Value)} {oc1 kV1 dc1 pm1 cd1 ct1 oc2 kV2 dc2 pm2 cd2 ct2 oc3 kV3 dc3 pm3 cd3 ct3 oc4 kV4 dc4 pm4 cd4 ct4 oc5 kV5 dc5 pm5 cd5 ct5 oc6 kV6 dc6 pm6 cd6 ct6 oc7 kV7 dc7 pm7 cd7 ct7 oc8 kV8 dc8 pm8 cd8 ct8 oc9 kV9 dc9 pm9 cd9 ct9 oc10 kV10 dc10 pm10 cd10 ct10 oc11 kV11 dc11 pm11 cd11 ct11 oc12 kV12 dc12 pm12 cd12 ct12 oc13 kV13 dc13 pm13 cd13 ct13 oc14 kV14 dc14 pm14 cd14 ct14 oc15 kV15 dc15 pm15 cd15 ct15 oc16 kV16 dc16 pm16 cd16 ct16 oc17 kV17 dc17 pm17 cd17 ct17 oc18 kV18 dc18 pm18 cd18 ct18 oc19 kV19 dc19 pm19 cd19 ct19 oc20 kV20 dc20 pm20 cd20 ct20 oc21 kV21 dc21 pm21 cd21 ct21 oc22 kV22 dc22 pm22 cd22 ct22 oc23 kV23 dc23 pm23 cd23 ct23 oc24 kV24 dc24 pm24 cd24 ct24 oc25 kV25 dc25 pm25 cd25 ct25 : Value}
    (a1 : PySem.W.nsIn K mainGlobals "check_pile" = some (some (.ref f1))) (l1 : K.lookup f1 = some ⟨oc1, od1, .func (PySem.W.fnOf "check_pile" "check_pile" (defArgs sCheck) (defBody sCheck) (defScope sCheck) .none kV1 dc1 pm1 an1 cd1 ct1), sl1⟩) (c1 : PySem.W.codeIn K cd1 "check_pile" = true) (k1 : PySem.W.keepIn K (.ref f1) = true)
    (a2 : PySem.W.nsIn K mainGlobals "places" = some (some (.ref f2))) (l2 : K.lookup f2 = some ⟨oc2, od2, .func (PySem.W.fnOf "places" "places" (defArgs sPlaces) (defBody sPlaces) (defScope sPlaces) .none kV2 dc2 pm2 an2 cd2 ct2), sl2⟩) (c2 : PySem.W.codeIn K cd2 "places" = true) (k2 : PySem.W.keepIn K (.ref f2) = true)
    (a3 : PySem.W.nsIn K mainGlobals "letter" = some (some (.ref f3))) (l3 : K.lookup f3 = some ⟨oc3, od3, .func (PySem.W.fnOf "letter" "letter" (defArgs sLetter) (defBody sLetter) (defScope sLetter) .none kV3 dc3 pm3 an3 cd3 ct3), sl3⟩) (c3 : PySem.W.codeIn K cd3 "letter" = true) (k3 : PySem.W.keepIn K (.ref f3) = true)
    (a4 : PySem.W.nsIn K mainGlobals "letters" = some (some (.ref f4))) (l4 : K.lookup f4 = some ⟨oc4, od4, .func (PySem.W.fnOf "letters" "letters" (defArgs sLetters) (defBody sLetters) (defScope sLetters) .none kV4 dc4 pm4 an4 cd4 ct4), sl4⟩) (c4 : PySem.W.codeIn K cd4 "letters" = true) (k4 : PySem.W.keepIn K (.ref f4) = true)
    (a5 : PySem.W.nsIn K mainGlobals "wraps" = some (some (.ref f5))) (l5 : K.lookup f5 = some ⟨oc5, od5, .func (PySem.W.fnOf "wraps" "wraps" (defArgs sWraps) (defBody sWraps) (defScope sWraps) .none kV5 dc5 pm5 an5 cd5 ct5), sl5⟩) (c5 : PySem.W.codeIn K cd5 "wraps" = true) (k5 : PySem.W.keepIn K (.ref f5) = true)
    (a6 : PySem.W.nsIn K mainGlobals "cross" = some (some (.ref f6))) (l6 : K.lookup f6 = some ⟨oc6, od6, .func (PySem.W.fnOf "cross" "cross" (defArgs sCross) (defBody sCross) (defScope sCross) .none kV6 dc6 pm6 an6 cd6 ct6), sl6⟩) (c6 : PySem.W.codeIn K cd6 "cross" = true) (k6 : PySem.W.keepIn K (.ref f6) = true)
    (a7 : PySem.W.nsIn K mainGlobals "crossing" = some (some (.ref f7))) (l7 : K.lookup f7 = some ⟨oc7, od7, .func (PySem.W.fnOf "crossing" "crossing" (defArgs sCrossing) (defBody sCrossing) (defScope sCrossing) .none kV7 dc7 pm7 an7 cd7 ct7), sl7⟩) (c7 : PySem.W.codeIn K cd7 "crossing" = true) (k7 : PySem.W.keepIn K (.ref f7) = true)
    (a8 : PySem.W.nsIn K mainGlobals "check_row" = some (some (.ref f8))) (l8 : K.lookup f8 = some ⟨oc8, od8, .func (PySem.W.fnOf "check_row" "check_row" (defArgs s_check_row) (defBody s_check_row) (defScope s_check_row) .none kV8 dc8 pm8 an8 cd8 ct8), sl8⟩) (c8 : PySem.W.codeIn K cd8 "check_row" = true) (k8 : PySem.W.keepIn K (.ref f8) = true)
    (a9 : PySem.W.nsIn K mainGlobals "check_count" = some (some (.ref f9))) (l9 : K.lookup f9 = some ⟨oc9, od9, .func (PySem.W.fnOf "check_count" "check_count" (defArgs s_check_count) (defBody s_check_count) (defScope s_check_count) .none kV9 dc9 pm9 an9 cd9 ct9), sl9⟩) (c9 : PySem.W.codeIn K cd9 "check_count" = true) (k9 : PySem.W.keepIn K (.ref f9) = true)
    (a10 : PySem.W.nsIn K mainGlobals "laid_in" = some (some (.ref f10))) (l10 : K.lookup f10 = some ⟨oc10, od10, .func (PySem.W.fnOf "laid_in" "laid_in" (defArgs s_laid_in) (defBody s_laid_in) (defScope s_laid_in) .none kV10 dc10 pm10 an10 cd10 ct10), sl10⟩) (c10 : PySem.W.codeIn K cd10 "laid_in" = true) (k10 : PySem.W.keepIn K (.ref f10) = true)
    (a11 : PySem.W.nsIn K mainGlobals "piles" = some (some (.ref f11))) (l11 : K.lookup f11 = some ⟨oc11, od11, .func (PySem.W.fnOf "piles" "piles" (defArgs s_piles) (defBody s_piles) (defScope s_piles) .none kV11 dc11 pm11 an11 cd11 ct11), sl11⟩) (c11 : PySem.W.codeIn K cd11 "piles" = true) (k11 : PySem.W.keepIn K (.ref f11) = true)
    (a12 : PySem.W.nsIn K mainGlobals "piles_with" = some (some (.ref f12))) (l12 : K.lookup f12 = some ⟨oc12, od12, .func (PySem.W.fnOf "piles_with" "piles_with" (defArgs s_piles_with) (defBody s_piles_with) (defScope s_piles_with) .none kV12 dc12 pm12 an12 cd12 ct12), sl12⟩) (c12 : PySem.W.codeIn K cd12 "piles_with" = true) (k12 : PySem.W.keepIn K (.ref f12) = true)
    (a13 : PySem.W.nsIn K mainGlobals "_law_drawn" = some (some (.ref f13))) (l13 : K.lookup f13 = some ⟨oc13, od13, .func (PySem.W.fnOf "_law_drawn" "_law_drawn" (defArgs sDrawn) (defBody sDrawn) (defScope sDrawn) .none kV13 dc13 pm13 an13 cd13 ct13), sl13⟩) (c13 : PySem.W.codeIn K cd13 "_law_drawn" = true) (k13 : PySem.W.keepIn K (.ref f13) = true)
    (a14 : PySem.W.nsIn K mainGlobals "_law_number" = some (some (.ref f14))) (l14 : K.lookup f14 = some ⟨oc14, od14, .func (PySem.W.fnOf "_law_number" "_law_number" (defArgs sNumber) (defBody sNumber) (defScope sNumber) .none kV14 dc14 pm14 an14 cd14 ct14), sl14⟩) (c14 : PySem.W.codeIn K cd14 "_law_number" = true) (k14 : PySem.W.keepIn K (.ref f14) = true)
    (a15 : PySem.W.nsIn K mainGlobals "_law_counts" = some (some (.ref f15))) (l15 : K.lookup f15 = some ⟨oc15, od15, .func (PySem.W.fnOf "_law_counts" "_law_counts" (defArgs sCounts) (defBody sCounts) (defScope sCounts) .none kV15 dc15 pm15 an15 cd15 ct15), sl15⟩) (c15 : PySem.W.codeIn K cd15 "_law_counts" = true) (k15 : PySem.W.keepIn K (.ref f15) = true)
    (a16 : PySem.W.nsIn K mainGlobals "_law_is_pile" = some (some (.ref f16))) (l16 : K.lookup f16 = some ⟨oc16, od16, .func (PySem.W.fnOf "_law_is_pile" "_law_is_pile" (defArgs s_law_is_pile) (defBody s_law_is_pile) (defScope s_law_is_pile) .none kV16 dc16 pm16 an16 cd16 ct16), sl16⟩) (c16 : PySem.W.codeIn K cd16 "_law_is_pile" = true) (k16 : PySem.W.keepIn K (.ref f16) = true)
    (a17 : PySem.W.nsIn K mainGlobals "_law_places" = some (some (.ref f17))) (l17 : K.lookup f17 = some ⟨oc17, od17, .func (PySem.W.fnOf "_law_places" "_law_places" (defArgs sLPlaces) (defBody sLPlaces) (defScope sLPlaces) .none kV17 dc17 pm17 an17 cd17 ct17), sl17⟩) (c17 : PySem.W.codeIn K cd17 "_law_places" = true) (k17 : PySem.W.keepIn K (.ref f17) = true)
    (a18 : PySem.W.nsIn K mainGlobals "_law_pile" = some (some (.ref f18))) (l18 : K.lookup f18 = some ⟨oc18, od18, .func (PySem.W.fnOf "_law_pile" "_law_pile" (defArgs sPile) (defBody sPile) (defScope sPile) .none kV18 dc18 pm18 an18 cd18 ct18), sl18⟩) (c18 : PySem.W.codeIn K cd18 "_law_pile" = true) (k18 : PySem.W.keepIn K (.ref f18) = true)
    (a19 : PySem.W.nsIn K mainGlobals "_law_fits" = some (some (.ref f19))) (l19 : K.lookup f19 = some ⟨oc19, od19, .func (PySem.W.fnOf "_law_fits" "_law_fits" (defArgs sFits) (defBody sFits) (defScope sFits) .none kV19 dc19 pm19 an19 cd19 ct19), sl19⟩) (c19 : PySem.W.codeIn K cd19 "_law_fits" = true) (k19 : PySem.W.keepIn K (.ref f19) = true)
    (a20 : PySem.W.nsIn K mainGlobals "_law_good" = some (some (.ref f20))) (l20 : K.lookup f20 = some ⟨oc20, od20, .func (PySem.W.fnOf "_law_good" "_law_good" (defArgs sGood) (defBody sGood) (defScope sGood) .none kV20 dc20 pm20 an20 cd20 ct20), sl20⟩) (c20 : PySem.W.codeIn K cd20 "_law_good" = true) (k20 : PySem.W.keepIn K (.ref f20) = true)
    (a21 : PySem.W.nsIn K mainGlobals "_law_wraps" = some (some (.ref f21))) (l21 : K.lookup f21 = some ⟨oc21, od21, .func (PySem.W.fnOf "_law_wraps" "_law_wraps" (defArgs sLWraps) (defBody sLWraps) (defScope sLWraps) .none kV21 dc21 pm21 an21 cd21 ct21), sl21⟩) (c21 : PySem.W.codeIn K cd21 "_law_wraps" = true) (k21 : PySem.W.keepIn K (.ref f21) = true)
    (a22 : PySem.W.nsIn K mainGlobals "_law_none_cross" = some (some (.ref f22))) (l22 : K.lookup f22 = some ⟨oc22, od22, .func (PySem.W.fnOf "_law_none_cross" "_law_none_cross" (defArgs sNone) (defBody sNone) (defScope sNone) .none kV22 dc22 pm22 an22 cd22 ct22), sl22⟩) (c22 : PySem.W.codeIn K cd22 "_law_none_cross" = true) (k22 : PySem.W.keepIn K (.ref f22) = true)
    (a23 : PySem.W.nsIn K mainGlobals "_law_letters" = some (some (.ref f23))) (l23 : K.lookup f23 = some ⟨oc23, od23, .func (PySem.W.fnOf "_law_letters" "_law_letters" (defArgs s_law_letters) (defBody s_law_letters) (defScope s_law_letters) .none kV23 dc23 pm23 an23 cd23 ct23), sl23⟩) (c23 : PySem.W.codeIn K cd23 "_law_letters" = true) (k23 : PySem.W.keepIn K (.ref f23) = true)
    (a24 : PySem.W.nsIn K mainGlobals "_law_all_good" = some (some (.ref f24))) (l24 : K.lookup f24 = some ⟨oc24, od24, .func (PySem.W.fnOf "_law_all_good" "_law_all_good" (defArgs s_law_all_good) (defBody s_law_all_good) (defScope s_law_all_good) .none kV24 dc24 pm24 an24 cd24 ct24), sl24⟩) (c24 : PySem.W.codeIn K cd24 "_law_all_good" = true) (k24 : PySem.W.keepIn K (.ref f24) = true)
    (a25 : PySem.W.nsIn K mainGlobals "law" = some (some (.ref f25))) (l25 : K.lookup f25 = some ⟨oc25, od25, .func (PySem.W.fnOf "law" "law" (defArgs sLaw) (defBody sLaw) (defScope sLaw) .none kV25 dc25 pm25 an25 cd25 ct25), sl25⟩) (c25 : PySem.W.codeIn K cd25 "law" = true) (k25 : PySem.W.keepIn K (.ref f25) = true)
    {tk_MOST_STAMPS : Tok} (cc_MOST_STAMPS : PySem.W.nsIn K mainGlobals "MOST_STAMPS" = some (some (.int 7 tk_MOST_STAMPS)))
    (z1 : PySem.W.nsIn K mainGlobals "len" = some none) (z2 : PySem.W.nsIn K mainGlobals "sorted" = some none) (z3 : PySem.W.nsIn K mainGlobals "list" = some none) (z4 : PySem.W.nsIn K mainGlobals "range" = some none) (z5 : PySem.W.nsIn K mainGlobals "enumerate" = some none) (z6 : PySem.W.nsIn K mainGlobals "isinstance" = some none) (z7 : PySem.W.nsIn K mainGlobals "int" = some none) (z8 : PySem.W.nsIn K mainGlobals "str" = some none) (z9 : PySem.W.nsIn K mainGlobals "min" = some none) (z10 : PySem.W.nsIn K mainGlobals "max" = some none) (z11 : PySem.W.nsIn K mainGlobals "tuple" = some none) :
    ∃ fd : FuncData, (∀ (s : Shared) (v : Value), BindsTo s fd ⟨[v], []⟩ [("_law_script", v)]) ∧ ∀ base : Heap, K.In base → base.Ns mainGlobals mg → FnOk l.prog w K mg base CX0 30 fa fd ["_law_script"] (spLaw K) := by
  have e := hfa.symm.trans (PySem.W.mg_of X G a25)
  cases e
  have T : Own mg := ⟨PySem.W.mg_none_of X G z1, PySem.W.mg_none_of X G z2, PySem.W.mg_none_of X G z3, PySem.W.mg_none_of X G z4, PySem.W.mg_none_of X G z5, PySem.W.mg_none_of X G z6, PySem.W.mg_none_of X G z7, PySem.W.mg_none_of X G z8⟩
  have M : OwnM mg := ⟨PySem.W.mg_none_of X G z9, PySem.W.mg_none_of X G z10⟩
  have U : OwnT mg := ⟨PySem.W.mg_none_of X G z11⟩
  have D1 := def_mk (st := sCheck) (ps := ["pile"]) X G a1 l1 c1 k1 fun _ _ _ _ _ _ us hl => match us, hl with | [_], _ => rfl
  have D2 := def_mk (st := sPlaces) (ps := ["pile"]) X G a2 l2 c2 k2 fun _ _ _ _ _ _ us hl => match us, hl with | [_], _ => rfl
  have D3 := def_mk (st := sLetter) (ps := ["at", "crease"]) X G a3 l3 c3 k3 fun _ _ _ _ _ _ us hl => match us, hl with | [_, _], _ => rfl
  have D4 := def_mk (st := sLetters) (ps := ["pile"]) X G a4 l4 c4 k4 fun _ _ _ _ _ _ us hl => match us, hl with | [_], _ => rfl
  have D5 := def_mk (st := sWraps) (ps := ["at", "crease", "stamp"]) X G a5 l5 c5 k5 fun _ _ _ _ _ _ us hl => match us, hl with | [_, _, _], _ => rfl
  have D6 := def_mk (st := sCross) (ps := ["at", "one", "other"]) X G a6 l6 c6 k6 fun _ _ _ _ _ _ us hl => match us, hl with | [_, _, _], _ => rfl
  have D7 := def_mk (st := sCrossing) (ps := ["pile"]) X G a7 l7 c7 k7 fun _ _ _ _ _ _ us hl => match us, hl with | [_], _ => rfl
  have D8 := def_mk (st := s_check_row) (ps := ["row"]) X G a8 l8 c8 k8 fun _ _ _ _ _ _ us hl => match us, hl with | [_], _ => rfl
  have D9 := def_mk (st := s_check_count) (ps := ["many"]) X G a9 l9 c9 k9 fun _ _ _ _ _ _ us hl => match us, hl with | [_], _ => rfl
  have D10 := def_mk (st := s_laid_in) (ps := ["pile", "stamp"]) X G a10 l10 c10 k10 fun _ _ _ _ _ _ us hl => match us, hl with | [_, _], _ => rfl
  have D11 := def_mk (st := s_piles) (ps := ["many"]) X G a11 l11 c11 k11 fun _ _ _ _ _ _ us hl => match us, hl with | [_], _ => rfl
  have D12 := def_mk (st := s_piles_with) (ps := ["row"]) X G a12 l12 c12 k12 fun _ _ _ _ _ _ us hl => match us, hl with | [_], _ => rfl
  have D13 := def_mk (st := sDrawn) (ps := ["_law_script", "_law_k"]) X G a13 l13 c13 k13 fun _ _ _ _ _ _ us hl => match us, hl with | [_, _], _ => rfl
  have D14 := def_mk (st := sNumber) (ps := ["_law_script", "_law_k"]) X G a14 l14 c14 k14 fun _ _ _ _ _ _ us hl => match us, hl with | [_, _], _ => rfl
  have D15 := def_mk (st := sCounts) (ps := ["_law_thing"]) X G a15 l15 c15 k15 fun _ _ _ _ _ _ us hl => match us, hl with | [_], _ => rfl
  have D16 := def_mk (st := s_law_is_pile) (ps := ["_law_found", "_law_size"]) X G a16 l16 c16 k16 fun _ _ _ _ _ _ us hl => match us, hl with | [_, _], _ => rfl
  have D17 := def_mk (st := sLPlaces) (ps := ["_law_pile_here"]) X G a17 l17 c17 k17 fun _ _ _ _ _ _ us hl => match us, hl with | [_], _ => rfl
  have D18 := def_mk (st := sPile) (ps := ["_law_script", "_law_start", "_law_size"]) X G a18 l18 c18 k18 fun _ _ _ _ _ _ us hl => match us, hl with | [_, _, _], _ => rfl
  have D19 := def_mk (st := sFits) (ps := ["_law_at", "_law_stamp", "_law_gap"]) X G a19 l19 c19 k19 fun _ _ _ _ _ _ us hl => match us, hl with | [_, _, _], _ => rfl
  have D20 := def_mk (st := sGood) (ps := ["_law_script", "_law_start", "_law_size"]) X G a20 l20 c20 k20 fun _ _ _ _ _ _ us hl => match us, hl with | [_, _, _], _ => rfl
  have D21 := def_mk (st := sLWraps) (ps := ["_law_at", "_law_crease", "_law_stamp"]) X G a21 l21 c21 k21 fun _ _ _ _ _ _ us hl => match us, hl with | [_, _, _], _ => rfl
  have D22 := def_mk (st := sNone) (ps := ["_law_at"]) X G a22 l22 c22 k22 fun _ _ _ _ _ _ us hl => match us, hl with | [_], _ => rfl
  have D23 := def_mk (st := s_law_letters) (ps := ["_law_at"]) X G a23 l23 c23 k23 fun _ _ _ _ _ _ us hl => match us, hl with | [_], _ => rfl
  have D24 := def_mk (st := s_law_all_good) (ps := ["_law_found", "_law_size"]) X G a24 l24 c24 k24 fun _ _ _ _ _ _ us hl => match us, hl with | [_, _], _ => rfl
  have D25 := def_mk (st := sLaw) (ps := ["_law_script"]) X G a25 l25 c25 k25 fun _ _ _ _ _ _ us hl => match us, hl with | [_], _ => rfl
  have C_MOST_STAMPS := PySem.W.mg_of X G cc_MOST_STAMPS
  exact ⟨_, fun s v => .of_eq rfl, fun base _ _ => ok_law (kP := 4) (kW := 5) (by decide) (by decide) D25 T M U D11 (ok_piles D11 D9 C_MOST_STAMPS D10 D7 D2 D1 D6 D5 T M) D12 (ok_pileswith D12 D8 D11 (ok_piles D11 D9 C_MOST_STAMPS D10 D7 D2 D1 D6 D5 T M) D4 (ok_letters D4 D2 D1 D3 T) T) D13 D14 D15 D16 D17 D18 D19 D20 D21 D22 D23 D24⟩
theorem walk {l : PySem.W.OpenLaw} {q : Program} {loose : List Str} {XP : (Str → Option Value) → Heap → Prop} {YP : World → Heap → Prop} {d : DefRec} {K : Params → PySem.W.Frag} (hn : l.most = some 63) (hdf : d.params.defaults = [])
    (hY : ∀ (w : World) (h : Heap), YP w h → (K w.params).In h)
    (F : ∀ (w : World) (mg : Str → Option Value) (fa : Addr) (h : Heap), (K w.params).In h → h.Ns mainGlobals mg → mg d.name = some (.ref fa) →
      ∃ fd : FuncData, (∀ (s : Shared) (u : Value), BindsTo s fd ⟨[u], []⟩ [("_law_script", u)]) ∧ ∀ base : Heap, (K w.params).In base → base.Ns mainGlobals mg → FnOk l.prog w (K w.params) mg base CX0 30 fa fd ["_law_script"] (spLaw (K w.params))) :
    PySem.W.WalkO q loose XP YP l.row.toRowW d [] (fun f vs => PySem.call f vs) :=
  L2.walk_of (n := 63) (k := 30) (x := "_law_script") (CX := fun _ => CX0) (sp := fun w => spLaw (K w.params)) hn (by decide) hdf ⟨rfl, by decide, by decide⟩ hY F (fun _ _ a ns hl _ hS => ⟨a, ns, rfl, hS, hl, fun _ => rfl⟩) fun _ _ _ _ _ z => z
end Sf
open PySem PySem.W PyProof.Rows
set_option maxRecDepth 100000 in
set_option maxHeartbeats 0 in
theorem PySem.Challenge.cw_stripfold_k08_whole_listed_holds : PySem.Challenge.rw_stripfold_k08_whole_listed.Holds := by
  w_on; o_law; k_head; (case hw => w_witness2)
  k_fill
  refine Sf.walk (l := PySem.Challenge.rw_stripfold_k08_whole_listed) rfl rfl (fun w h Y => PySem.W.kIn_of Y) ?F
  case F =>
    intro w mg fa h KX G hmg
    refine' Sf.all_mk KX G hmg ?a1 ?l1 ?c1 ?k1 ?a2 ?l2 ?c2 ?k2 ?a3 ?l3 ?c3 ?k3 ?a4 ?l4 ?c4 ?k4 ?a5 ?l5 ?c5 ?k5 ?a6 ?l6 ?c6 ?k6 ?a7 ?l7 ?c7 ?k7 ?a8 ?l8 ?c8 ?k8 ?a9 ?l9 ?c9 ?k9 ?a10 ?l10 ?c10 ?k10 ?a11 ?l11 ?c11 ?k11 ?a12 ?l12 ?c12 ?k12 ?a13 ?l13 ?c13 ?k13 ?a14 ?l14 ?c14 ?k14 ?a15 ?l15 ?c15 ?k15 ?a16 ?l16 ?c16 ?k16 ?a17 ?l17 ?c17 ?k17 ?a18 ?l18 ?c18 ?k18 ?a19 ?l19 ?c19 ?k19 ?a20 ?l20 ?c20 ?k20 ?a21 ?l21 ?c21 ?k21 ?a22 ?l22 ?c22 ?k22 ?a23 ?l23 ?c23 ?k23 ?a24 ?l24 ?c24 ?k24 ?a25 ?l25 ?c25 ?k25 ?cc_MOST_STAMPS ?z1 ?z2 ?z3 ?z4 ?z5 ?z6 ?z7 ?z8 ?z9 ?z10 ?z11
    (case a1 => k_is); (case l1 => k_is); (case c1 => k_is); (case k1 => k_is)
    (case a2 => k_is); (case l2 => k_is); (case c2 => k_is); (case k2 => k_is)
    (case a3 => k_is); (case l3 => k_is); (case c3 => k_is); (case k3 => k_is)
    (case a4 => k_is); (case l4 => k_is); (case c4 => k_is); (case k4 => k_is)
    (case a5 => k_is); (case l5 => k_is); (case c5 => k_is); (case k5 => k_is)
    (case a6 => k_is); (case l6 => k_is); (case c6 => k_is); (case k6 => k_is)
    (case a7 => k_is); (case l7 => k_is); (case c7 => k_is); (case k7 => k_is)
    (case a8 => k_is); (case l8 => k_is); (case c8 => k_is); (case k8 => k_is)
    (case a9 => k_is); (case l9 => k_is); (case c9 => k_is); (case k9 => k_is)
    (case a10 => k_is); (case l10 => k_is); (case c10 => k_is); (case k10 => k_is)
    (case a11 => k_is); (case l11 => k_is); (case c11 => k_is); (case k11 => k_is)
    (case a12 => k_is); (case l12 => k_is); (case c12 => k_is); (case k12 => k_is)
    (case a13 => k_is); (case l13 => k_is); (case c13 => k_is); (case k13 => k_is)
    (case a14 => k_is); (case l14 => k_is); (case c14 => k_is); (case k14 => k_is)
    (case a15 => k_is); (case l15 => k_is); (case c15 => k_is); (case k15 => k_is)
    (case a16 => k_is); (case l16 => k_is); (case c16 => k_is); (case k16 => k_is)
    (case a17 => k_is); (case l17 => k_is); (case c17 => k_is); (case k17 => k_is)
    (case a18 => k_is); (case l18 => k_is); (case c18 => k_is); (case k18 => k_is)
    (case a19 => k_is); (case l19 => k_is); (case c19 => k_is); (case k19 => k_is)
    (case a20 => k_is); (case l20 => k_is); (case c20 => k_is); (case k20 => k_is)
    (case a21 => k_is); (case l21 => k_is); (case c21 => k_is); (case k21 => k_is)
    (case a22 => k_is); (case l22 => k_is); (case c22 => k_is); (case k22 => k_is)
    (case a23 => k_is); (case l23 => k_is); (case c23 => k_is); (case k23 => k_is)
    (case a24 => k_is); (case l24 => k_is); (case c24 => k_is); (case k24 => k_is)
    (case a25 => k_is); (case l25 => k_is); (case c25 => k_is); (case k25 => k_is)
    (case cc_MOST_STAMPS => k_is)
    (case z1 => k_is); (case z2 => k_is); (case z3 => k_is); (case z4 => k_is); (case z5 => k_is); (case z6 => k_is); (case z7 => k_is); (case z8 => k_is); (case z9 => k_is); (case z10 => k_is); (case z11 => k_is)
#print axioms PySem.Challenge.cw_stripfold_k08_whole_listed_holds
