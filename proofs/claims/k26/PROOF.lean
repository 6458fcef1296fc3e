import PyProof.Rows.All
import Wide.All
import OpenK.AllK
import Wide.FinOn
import Lean
import PyProof.EqAt
import PyProof.EqKinds
import PyProof.TupleCall
import KE.LcSums
import KE.KDictList
import PySem.Challenge.RW_passkeep_k26_whole_things_by_turns
set_option Elab.async false
set_option linter.all false
set_option maxRecDepth 100000
/-! THE HAND LAYER, for ints, bools, texts, own classes, LISTS and tuples (index, slices, in, append, pop ..), calls, loops. Paste it whole ahead of your own text; what your proof does not reach may be deleted. -/
namespace L2
open PySem PySem.Spec PyProof.Rows

/-- a key: an int or a str -/
abbrev Key := Sum Int Str
def keyIs : Key → Value → Bool
  | .inl k, v => Value.isInt k v
  | .inr x, v => Value.isStrOf x v
def keyH (w : World) : Key → Int
  | .inl k => hashInt k
  | .inr x => hashStr w x
theorem keyIs_shape : ∀ {k : Key} {v : Value}, keyIs k v = true → (∃ i t, k = Sum.inl i ∧ v = Value.int i t) ∨ (∃ x t, k = Sum.inr x ∧ v = Value.str x t)
  | .inl i, v, h => by
    obtain ⟨t, e⟩ := Value.isInt_shape (k := i) (v := v) h
    exact .inl ⟨i, t, rfl, e⟩
  | .inr x, v, h => by
    obtain ⟨t, e⟩ := Value.isStrOf_shape (x := x) (v := v) h
    exact .inr ⟨x, t, rfl, e⟩
theorem keyIs_int (i : Int) (t : Tok) : keyIs (.inl i) (.int i t) = true := by simp [keyIs, Value.isInt]
theorem keyIs_str (x : Str) (t : Tok) : keyIs (.inr x) (.str x t) = true := by simp [keyIs, Value.isStrOf]
theorem key_ll (a b : Int) : decide ((Sum.inl a : Key) = Sum.inl b) = (a == b) := by
  by_cases e : a = b
  · subst e; simp
  · have h : ¬ (Sum.inl a : Key) = Sum.inl b := fun q => e (Sum.inl.inj q)
    rw [decide_eq_false h]
    exact (beq_eq_false_iff_ne.mpr e).symm
theorem key_rr (a b : Str) : decide ((Sum.inr a : Key) = Sum.inr b) = decide (a = b) := by
  by_cases e : a = b
  · subst e; simp
  · have h : ¬ (Sum.inr a : Key) = Sum.inr b := fun q => e (Sum.inr.inj q)
    rw [decide_eq_false h, decide_eq_false e]
theorem key_lr (a : Int) (b : Str) : decide ((Sum.inl a : Key) = Sum.inr b) = false := decide_eq_false (fun q => nomatch q)
theorem key_rl (a : Str) (b : Int) : decide ((Sum.inr a : Key) = Sum.inl b) = false := decide_eq_false (fun q => nomatch q)

def mixKind (prog : Program) (w : World) : PySem.KeyKind prog w Key where
  is := keyIs
  hash := keyH w
  inj := fun v a b ha hb => by
    rcases keyIs_shape ha with ⟨i, t, rfl, rfl⟩ | ⟨x, t, rfl, rfl⟩
    · rcases keyIs_shape hb with ⟨j, u, rfl, e⟩ | ⟨y, u, rfl, e⟩
      · injection e with e1 _; rw [e1]
      · exact nomatch e
    · rcases keyIs_shape hb with ⟨j, u, rfl, e⟩ | ⟨y, u, rfl, e⟩
      · exact nomatch e
      · injection e with e1 _; rw [e1]
  byValue := fun k v h => by
    rcases keyIs_shape h with ⟨i, t, rfl, rfl⟩ | ⟨x, t, rfl, rfl⟩ <;> rfl
  pyHash := fun hv h => by
    rcases keyIs_shape hv with ⟨i, t, rfl, rfl⟩ | ⟨x, t, rfl, rfl⟩
    · exact wpAny_pyHash_int h
    · exact wpAny_pyHash_str h
  eqBool := fun hu hv h => by
    rcases keyIs_shape hu with ⟨i, t, rfl, rfl⟩ | ⟨x, t, rfl, rfl⟩
    · rcases keyIs_shape hv with ⟨j, u, rfl, rfl⟩ | ⟨y, u, rfl, rfl⟩
      · rw [key_ll] at h; exact wpAny_eqBool_int h
      · rw [key_lr] at h; exact SeqAt.EqAt.int_str i t y u _ _ _ _ h
    · rcases keyIs_shape hv with ⟨j, u, rfl, rfl⟩ | ⟨y, u, rfl, rfl⟩
      · rw [key_rl] at h; exact SeqAt.EqAt.str_int x t j u _ _ _ _ h
      · rw [key_rr] at h; exact wpAny_eqBool_str h
  «strs» := fun k x t v h => by
    rcases keyIs_shape h with ⟨i, u, rfl, e⟩ | ⟨y, u, rfl, e⟩
    · exact nomatch e
    · injection e with e1 _
      subst e1
      cases v <;> rfl

theorem mixKind_int (prog : Program) (w : World) (i : Int) (t : Tok) : (mixKind prog w).is (.inl i) (.int i t) = true := keyIs_int i t
theorem mixKind_str (prog : Program) (w : World) (x : Str) (t : Tok) : (mixKind prog w).is (.inr x) (.str x t) = true := keyIs_str x t
end L2

namespace L2
open PySem PySem.Spec PyProof.Rows

/-- a value, without the heap -/
inductive V where
  | non | bl (b : Bool) | int (i : Int) | str (x : Str) | byt (b : Array UInt8) | flt (b : UInt64) | ref (a : Addr) | ty (n : String)
  deriving DecidableEq

def RelV : V → Value → Prop
  | .non, u => u = Value.none
  | .bl b, u => u = Value.bool b
  | .int i, u => ∃ t, u = Value.int i t
  | .str x, u => ∃ t, u = Value.str x t
  | .byt b, u => ∃ t, u = Value.bytes b t
  | .flt b, u => ∃ t, u = Value.float b t
  | .ref a, u => u = Value.ref a
  | .ty n, u => u = Value.type n

abbrev Vals : List V → List Value → Prop := Paired RelV
theorem Vals.length {xs : List V} {us : List Value} (r : Vals xs us) : xs.length = us.length := Paired.length r
theorem Vals.get : ∀ {xs : List V} {us : List Value} {i : Nat} {x : V}, Vals xs us → xs[i]? = some x → ∃ u, us[i]? = some u ∧ RelV x u
  | _, _, _, _, .nil, e => by simp at e
  | _, _, 0, _, .cons r _, e => by simp at e; subst e; exact ⟨_, rfl, r⟩
  | _, _, i + 1, x, .cons _ t, e => by
    obtain ⟨u, h1, h2⟩ := Vals.get (i := i) (x := x) t (by simpa using e)
    exact ⟨u, by simpa using h1, h2⟩
theorem Vals.set {x : V} {u : Value} (r : RelV x u) : ∀ {xs : List V} {us : List Value} (i : Nat), Vals xs us → Vals (xs.set i x) (us.set i u)
  | _, _, _, .nil => .nil
  | _, _, 0, .cons _ t => .cons r t
  | _, _, i + 1, .cons q t => .cons q (Vals.set r i t)
theorem Vals.append : ∀ {xs ys : List V} {us ws : List Value}, Vals xs us → Vals ys ws → Vals (xs ++ ys) (us ++ ws)
  | _, _, _, _, .nil, s => s
  | _, _, _, _, .cons r t, s => .cons r (Vals.append t s)
theorem Vals.take : ∀ {xs : List V} {us : List Value} (n : Nat), Vals xs us → Vals (xs.take n) (us.take n)
  | _, _, 0, _ => .nil
  | _, _, _ + 1, .nil => .nil
  | _, _, n + 1, .cons r t => .cons r (Vals.take n t)
theorem Vals.drop : ∀ {xs : List V} {us : List Value} (n : Nat), Vals xs us → Vals (xs.drop n) (us.drop n)
  | _, _, 0, r => r
  | _, _, _ + 1, .nil => .nil
  | _, _, n + 1, .cons _ t => Vals.drop n t
theorem Vals.none_of : ∀ {xs : List V} {us : List Value} {i : Nat}, Vals xs us → xs[i]? = none → us[i]? = none := fun {xs us i} r e => by
  have h1 := r.length
  have h2 : xs.length ≤ i := List.getElem?_eq_none_iff.mp e
  exact List.getElem?_eq_none_iff.mpr (by omega)

def RelO : Option V → Option Value → Prop
  | some v, some u => RelV v u
  | none, none => True
  | _, _ => False
def KV {κ : Type} : List (κ × V) → List (κ × Value) → Prop := Paired fun (p : κ × V) (q : κ × Value) => p.1 = q.1 ∧ RelV p.2 q.2

/-- a key of a dict (00_mix): an int or a text -/
def kV : Key → V
  | .inl i => .int i
  | .inr x => .str x

/-- what stands at a tracked address -/
inductive HO where
  /-- a list -/
  | lst (xs : List V)
  /-- a tuple (never changes) -/
  | tup (xs : List V)
  /-- a dict whose keys are ints and texts; one whose keys are tuples of ints and texts (the empty one is both) -/
  | dK (kvs : List (Key × V)) | dT (kvs : List (List Key × V))
  /-- a set of ints: its members, its size -/
  | set (S : Int → Bool) (n : Nat)
  /-- an instance of the class at C, its dict at dx, its attributes -/
  | ins (C dx : Addr) (fs : List (Str × V))
  /-- the dict of the instance at x -/
  | own (x : Addr)
  /-- the dict of an exception -/
  | xd (fs : List (Str × V))
  /-- a bound method, f of x -/
  | met (f x : Addr)
  /-- a range object lo, lo + 1, .. below hi -/
  | rng (lo hi : Int)
  /-- a thing that is known to the object (the script; a dict while a loop walks it): read, never written while it is so -/
  | frz (o : Obj) (u : HO)
  /-- a code object's table -/
  | tbl (ps : Array Value)
  /-- any other thing, by what is true of its one object (a def of one's own: SetO a S n := HO.ext fun h => ..) -/
  | ext (φ : Heap → Prop)

abbrev Hp := Addr → Option HO
def upd (H : Hp) (a : Addr) (o : HO) : Hp := fun b => if b = a then some o else H b
theorem upd_same {H : Hp} {a : Addr} {o : HO} : upd H a o a = some o := by unfold upd; rw [if_pos rfl]
theorem upd_ne {H : Hp} {a b : Addr} {o : HO} (h : b ≠ a) : upd H a o b = H b := by unfold upd; rw [if_neg h]
theorem ne_of_none {H : Hp} {a b : Addr} {o : HO} (h : H a = some o) (h' : H b = none) : a ≠ b := by
  intro e; subst e; rw [h] at h'; cases h'

section
variable (P : Program) (w : World)
def ObjOk (H : Hp) (h : Heap) (a : Addr) : HO → Prop
  | .lst xs => xs.length ≤ sizeLine ∧ ∃ (its : List Value) (n : Nat), Vals xs its ∧ h.get? a = some { cls := .type "list", data := .seq its.toArray n }
  | .tup xs => xs.length ≤ sizeLine ∧ ∃ its : List Value, Vals xs its ∧ IsTup h a its.toArray
  | .dK kvs => kvs.length ≤ sizeLine ∧ (a == sysModules) = false ∧ ∃ vs, KV kvs vs ∧ h.DictOf (mixKind P w) a vs
  | .dT kvs => kvs.length ≤ sizeLine ∧ (a == sysModules) = false ∧ ∃ xs : List (List Key × Addr × Value),
      Paired (fun (p : List Key × V) (q : List Key × Addr × Value) => p.1 = q.1 ∧ H q.2.1 = some (.tup (p.1.map kV)) ∧ RelV p.2 q.2.2) kvs xs ∧
      ∃ o es ep, h.get? a = some o ∧ o.ExactDict ∧ o.data = .dict es ep ∧ es.toList = xs.map (entryOfKey (tupleKind (mixKind P w))) ∧ (xs.map (·.1)).Nodup
  | .set S n => h.SetOf (intKind P w) a S n
  | .ins C dx fs => H dx = some (.own a) ∧ fs.length ≤ 1000 ∧ dx ≠ a ∧ h.get? a = some (PySem.W.instObj C dx) ∧
      ∃ mA, h.Ns1 dx mA ∧ (∀ f, RelO (fs.lookup f) (mA f)) ∧ PySem.Within mA (fs.map (·.1))
  | .own _ => ∃ o, h.get? a = some o
  | .xd fs => ∃ mA, h.Ns1 a mA ∧ ∀ f, RelO (fs.lookup f) (mA f)
  | .rng lo hi => ∃ t u v, h.get? a = some { cls := .type "range", data := .fields #[.int lo t, .int hi u, .int 1 v] }
  | .frz o u => h.get? a = some o ∧ ObjOk H h a u
  | .tbl ps => h.get? a = some { cls := .none, data := .fields ps }
  | .met f x => h.get? a = some (PySem.W.methodObj (.ref f) (.ref x))
  | .ext φ => φ h ∧ (∃ o, h.get? a = some o) ∧ ∀ h1 h2 : Heap, φ h1 → (∀ o, h1.get? a = some o → h2.get? a = some o) → φ h2
/-- the abstract heap is held -/
def HOk (H : Hp) (h : Heap) : Prop := ∀ a o, H a = some o → ObjOk P w H h a o
end

section
variable {P : Program} {w : World} {H H' : Hp} {h h' : Heap} {a : Addr} {o : HO}
theorem ObjOk.lt (x : ObjOk P w H h a o) : a < h.objs.size := by
  cases o with
  | lst xs => obtain ⟨_, _, _, _, e⟩ := x; exact Heap.lt_size e
  | tup xs => obtain ⟨_, _, _, p⟩ := x; exact p.lt
  | dK kvs => obtain ⟨_, _, _, _, o, _, _, e, _⟩ := x; exact Heap.lt_size e
  | dT kvs => obtain ⟨_, _, _, _, o, _, _, e, _⟩ := x; exact Heap.lt_size e
  | set S n => obtain ⟨o, _, _, _, e, _⟩ := x; exact Heap.lt_size e
  | ins C dx fs => obtain ⟨_, _, _, e, _⟩ := x; exact Heap.lt_size e
  | own y => obtain ⟨_, e⟩ := x; exact Heap.lt_size e
  | xd fs => obtain ⟨_, ⟨_, _, _, e, _⟩, _⟩ := x; exact Heap.lt_size e
  | rng lo hi => obtain ⟨_, _, _, e⟩ := x; exact Heap.lt_size e
  | frz ob u => obtain ⟨e, _⟩ := x; exact Heap.lt_size e
  | tbl ps => exact Heap.lt_size (show h.get? a = some _ from x)
  | met f y => exact Heap.lt_size (show h.get? a = some _ from x)
  | ext φ => obtain ⟨_, ⟨_, e⟩, _⟩ := x; exact Heap.lt_size e
theorem Paired.mapP {α β : Type} {F G : α → β → Prop} : ∀ {l₁ : List α} {l₂ : List β}, Paired F l₁ l₂ → (∀ a b, F a b → G a b) → Paired G l₁ l₂
  | _, _, .nil, _ => .nil
  | _, _, .cons r t, f => .cons (f _ _ r) (Paired.mapP t f)
/-- what an object's description leans on: its own object, its own dict, the tuples -/
theorem ObjOk.stay (x : ObjOk P w H h a o) (k : ∀ b u, (b = a ∨ H b = some (.own a)) → h.get? b = some u → h'.get? b = some u)
    (ho : ∀ b, H b = some (.own a) → H' b = some (.own a)) (ht : ∀ b xs, H b = some (.tup xs) → H' b = some (.tup xs)) : ObjOk P w H' h' a o := by
  induction o with
  | lst xs => obtain ⟨z, its, n, r, e⟩ := x; exact ⟨z, its, n, r, k _ _ (.inl rfl) e⟩
  | tup xs => obtain ⟨z, its, r, ob, e, c⟩ := x; exact ⟨z, its, r, ob, k _ _ (.inl rfl) e, c⟩
  | dK kvs => obtain ⟨z, y, vs, r, ob, es, ep, e, c⟩ := x; exact ⟨z, y, vs, r, ob, es, ep, k _ _ (.inl rfl) e, c⟩
  | dT kvs =>
    obtain ⟨z, y, xs, r, ob, es, ep, e, c⟩ := x
    exact ⟨z, y, xs, Paired.mapP r fun p q z => ⟨z.1, ht _ _ z.2.1, z.2.2⟩, ob, es, ep, k _ _ (.inl rfl) e, c⟩
  | set S n => obtain ⟨ob, es, ep, t, e, c⟩ := x; exact ⟨ob, es, ep, t, k _ _ (.inl rfl) e, c⟩
  | ins C dx fs =>
    obtain ⟨d, z, ne, e, mA, ⟨od, es, ep, e2, c⟩, r⟩ := x
    exact ⟨ho _ d, z, ne, k _ _ (.inl rfl) e, mA, ⟨od, es, ep, k _ _ (.inr d) e2, c⟩, r⟩
  | own y => obtain ⟨ob, e⟩ := x; exact ⟨ob, k _ _ (.inl rfl) e⟩
  | xd fs => obtain ⟨mA, ⟨od, es, ep, e, c⟩, r⟩ := x; exact ⟨mA, ⟨od, es, ep, k _ _ (.inl rfl) e, c⟩, r⟩
  | rng lo hi => obtain ⟨t, u, v, e⟩ := x; exact ⟨t, u, v, k _ _ (.inl rfl) e⟩
  | frz ob u ih => obtain ⟨e, q⟩ := x; exact ⟨k _ _ (.inl rfl) e, ih q⟩
  | tbl ps =>
    have e : h.get? a = some { cls := .none, data := .fields ps } := x
    show h'.get? a = some { cls := .none, data := .fields ps }
    exact k a _ (.inl rfl) e
  | met f y =>
    have e : h.get? a = some (PySem.W.methodObj (.ref f) (.ref y)) := x
    show h'.get? a = some (PySem.W.methodObj (.ref f) (.ref y))
    exact k a _ (.inl rfl) e
  | ext φ => obtain ⟨p, ⟨o, e⟩, st⟩ := x; exact ⟨st _ _ p fun o q => k _ _ (.inl rfl) q, ⟨o, k _ _ (.inl rfl) e⟩, st⟩
theorem HOk.lt (x : HOk P w H h) (e : H a = some o) : a < h.objs.size := (x a o e).lt
theorem HOk.fresh (x : HOk P w H h) (e : h.objs.size ≤ a) : H a = none := by
  cases q : H a with
  | none => rfl
  | some u => exact absurd (Nat.lt_of_lt_of_le (x.lt q) e) (Nat.lt_irrefl _)
/-- every object of the heap is kept -/
theorem HOk.kept (x : HOk P w H h) (k : ∀ b u, h.get? b = some u → h'.get? b = some u) : HOk P w H h' := fun a o e =>
  (x a o e).stay (fun b u _ q => k b u q) (fun _ q => q) fun _ _ q => q
/-- a new object is laid and tracked -/
theorem HOk.laid (x : HOk P w H h) (k : ∀ b u, h.get? b = some u → h'.get? b = some u) (hp : h.objs.size ≤ a) (new : ObjOk P w (upd H a o) h' a o) : HOk P w (upd H a o) h' := fun b u e => by
  have hn := x.fresh hp
  by_cases hb : b = a
  · subst hb; rw [upd_same] at e; cases e; exact new
  · rw [upd_ne hb] at e
    exact (x b u e).stay (fun c v _ q => k c v q) (fun c q => by rw [upd_ne (ne_of_none q hn)]; exact q) fun c xs q => by rw [upd_ne (ne_of_none q hn)]; exact q
end

/-- what may be read as u: it is u, or a known u -/
def Rd (H : Hp) (a : Addr) (u : HO) : Prop := H a = some u ∨ ∃ o, H a = some (.frz o u)
theorem Rd.of {H : Hp} {a : Addr} {u : HO} (h : H a = some u) : Rd H a u := .inl h
theorem Rd.ok {P : Program} {w : World} {H : Hp} {h : Heap} {a : Addr} {u : HO} (r : Rd H a u) (x : HOk P w H h) : ObjOk P w H h a u := by
  rcases r with r | ⟨o, r⟩
  · exact x a u r
  · obtain ⟨_, q⟩ := x a _ r
    exact q
/-- what may be written -/
def Mut : Option HO → Prop
  | some (.lst _) => True
  | some (.dK _) => True
  | some (.dT _) => True
  | some (.set _ _) => True
  | some (.ins _ _ _) => True
  | some (.ext _) => True
  | _ => False
section
variable {P : Program} {w : World} {H : Hp} {h h' : Heap} {x e : Addr} {o' : HO}
/-- the object at e is changed: x itself, or the dict of the instance x -/
theorem HOk.write (ok : HOk P w H h) (mu : Mut (H x)) (he : e = x ∨ H e = some (.own x)) (k : ∀ b u, b ≠ e → h.get? b = some u → h'.get? b = some u) (heo : ∃ u, h'.get? e = some u)
    (new : ObjOk P w (upd H x o') h' x o') : HOk P w (upd H x o') h' := fun b u q => by
  have nown : ∀ c y, H c = some (.own y) → c ≠ x := fun c y r z => by subst z; rw [r] at mu; exact mu
  have ntup : ∀ c xs, H c = some (.tup xs) → c ≠ x := fun c xs r z => by subst z; rw [r] at mu; exact mu
  by_cases hb : b = x
  · subst hb; rw [upd_same] at q; cases q; exact new
  · rw [upd_ne hb] at q
    by_cases hbe : b = e
    · have q' : H b = some (.own x) := by
        rcases he with z | z
        · exact absurd (hbe.trans z) hb
        · rw [hbe]; exact z
      rw [q] at q'; cases q'
      obtain ⟨v, hv⟩ := heo
      exact ⟨v, by rw [hbe]; exact hv⟩
    · refine (ok b u q).stay (fun c v hc r => k c v ?_ r) (fun c r => by rw [upd_ne (nown c b r)]; exact r) fun c xs r => by rw [upd_ne (ntup c xs r)]; exact r
      rcases hc with rfl | hc
      · exact hbe
      · rintro rfl
        rcases he with z | z
        · exact nown c b hc z
        · rw [hc] at z; cases z; exact hb rfl
end

/-! ### kept unless tracked; of the frames at fs (the callers') the slots may change (an exception that passes writes there); of the records at ex (iterators) nothing is said -/
structure Un (fs ex : List Addr) (H H' : Hp) (h h' : Heap) : Prop where
  keep : ∀ b o, h.get? b = some o → H b = none → b ∉ fs → b ∉ ex → h'.get? b = some o
  slot : ∀ b o, h.get? b = some o → H b = none → b ∈ fs → b ∉ ex → ∃ sl, h'.get? b = some { o with slots := sl }
  free : ∀ b o, h.get? b = some o → H b = none → b ∉ ex → H' b = none
  there : ∀ b o, h.get? b = some o → b ∉ ex → ∃ o', h'.get? b = some o'
  tups : ∀ b xs, H b = some (.tup xs) → H' b = some (.tup xs)
  frzs : ∀ b o u, H b = some (.frz o u) → H' b = some (.frz o u)
  tbls : ∀ b ps, H b = some (.tbl ps) → ∃ more, H' b = some (.tbl (ps ++ more))
section
variable {fs fs' ex ex' : List Addr} {H H1 H2 : Hp} {h h1 h2 h' : Heap} {a x e : Addr} {o : HO}
theorem Un.any (u : Un fs ex H H1 h h1) {b : Addr} {ob : Obj} (q : h.get? b = some ob) (n : H b = none) (hx : b ∉ ex) : ∃ sl, h1.get? b = some { ob with slots := sl } := by
  by_cases hb : b ∈ fs
  · exact u.slot b ob q n hb hx
  · exact ⟨ob.slots, u.keep b ob q n hb hx⟩
theorem Un.trans (a : Un fs ex H H1 h h1) (b : Un fs ex H1 H2 h1 h2) : Un fs ex H H2 h h2 where
  keep := fun c ob q n hc hx => b.keep c ob (a.keep c ob q n hc hx) (a.free c ob q n hx) hc hx
  slot := fun c ob q n hc hx => by
    obtain ⟨sl, e1⟩ := a.slot c ob q n hc hx
    obtain ⟨sl', e2⟩ := b.slot c _ e1 (a.free c ob q n hx) hc hx
    exact ⟨sl', e2⟩
  free := fun c ob q n hx => by
    obtain ⟨o', e1⟩ := a.there c ob q hx
    exact b.free c o' e1 (a.free c ob q n hx) hx
  there := fun c ob q hx => by
    obtain ⟨o', e1⟩ := a.there c ob q hx
    exact b.there c o' e1 hx
  tups := fun c xs q => b.tups c xs (a.tups c xs q)
  frzs := fun c ob xs q => b.frzs c ob xs (a.frzs c ob xs q)
  tbls := fun c ps q => by
    obtain ⟨m1, e1⟩ := a.tbls c ps q
    obtain ⟨m2, e2⟩ := b.tbls c _ e1
    exact ⟨m1 ++ m2, by rw [e2, Array.append_assoc]⟩
theorem Un.kept (k : ∀ b u, h.get? b = some u → h'.get? b = some u) : Un fs ex H H h h' :=
  ⟨fun b ob q _ _ _ => k b ob q, fun b ob q _ _ _ => ⟨ob.slots, k b ob q⟩, fun _ _ _ n _ => n, fun b ob q _ => ⟨ob, k b ob q⟩, fun _ _ q => q, fun _ _ _ q => q, fun _ ps q => ⟨#[], by rw [q]; simp⟩⟩
theorem Un.refl : Un fs ex H H h h := Un.kept fun _ _ q => q
theorem Un.laid (k : ∀ b u, h.get? b = some u → h'.get? b = some u) (hp : h.objs.size ≤ a) (hn : H a = none) : Un fs ex H (upd H a o) h h' where
  keep := fun b u q _ _ _ => k b u q
  slot := fun b u q _ _ _ => ⟨u.slots, k b u q⟩
  free := fun b u q n _ => by rw [upd_ne (Nat.ne_of_lt (Nat.lt_of_lt_of_le (Heap.lt_size q) hp))]; exact n
  there := fun b u q _ => ⟨u, k b u q⟩
  tups := fun b xs q => by rw [upd_ne (ne_of_none q hn)]; exact q
  frzs := fun b u xs q => by rw [upd_ne (ne_of_none q hn)]; exact q
  tbls := fun b ps q => ⟨#[], by rw [upd_ne (ne_of_none q hn), q]; simp⟩
theorem Un.write (mu : Mut (H x)) (he : e = x ∨ H e = some (.own x)) (k : ∀ b u, b ≠ e → h.get? b = some u → h'.get? b = some u) (heo : ∃ u, h'.get? e = some u) : Un fs ex H (upd H x o) h h' := by
  have hx : ∀ b, H b = none → b ≠ x := fun b n z => by subst z; rw [n] at mu; exact mu
  have hb : ∀ b, H b = none → b ≠ e := fun b n z => by
    subst z
    rcases he with r | r
    · exact hx b n r
    · rw [n] at r; cases r
  have hm : ∀ b u, H b = some u → ¬ Mut (some u) → b ≠ x := fun b u q nm z => by subst z; rw [q] at mu; exact nm mu
  refine ⟨fun b u q n _ _ => k b u (hb b n) q, fun b u q n _ _ => ⟨u.slots, k b u (hb b n) q⟩, fun b u q n _ => by rw [upd_ne (hx b n)]; exact n, fun b u q _ => ?_,
    fun b xs q => by rw [upd_ne (hm b _ q fun z => z)]; exact q, fun b u xs q => by rw [upd_ne (hm b _ q fun z => z)]; exact q, fun b ps q => ⟨#[], by rw [upd_ne (hm b _ q fun z => z), q]; simp⟩⟩
  by_cases hbe : b = e
  · subst hbe; exact heo
  · exact ⟨u, k b u hbe q⟩
theorem Un.mono (u : Un fs ex H H1 h h1) (hs : ∀ b ∈ fs, b ∈ fs') (hx : ∀ b ∈ ex, b ∈ ex') : Un fs' ex' H H1 h h1 :=
  ⟨fun b ob q n hb he => u.keep b ob q n (fun z => hb (hs b z)) fun z => he (hx b z), fun _ _ q n _ he => u.any q n fun z => he (hx _ z), fun b ob q n he => u.free b ob q n fun z => he (hx b z), fun b ob q he => u.there b ob q fun z => he (hx b z), u.tups, u.frzs, u.tbls⟩
end

/-! ### the heap without what is tracked -/
def trk (h : Heap) (H : Hp) : List Addr := (List.range h.objs.size).filter fun a => (H a).isSome
def hidT (h : Heap) (H : Hp) : Heap := PySem.W.hideAll h (trk h H)
theorem hidT_size (h : Heap) (H : Hp) : (hidT h H).objs.size = h.objs.size := PySem.W.hideAll_size _ _
theorem hidT_get {h : Heap} {H : Hp} {b : Addr} {o : Obj} (e : h.get? b = some o) (n : H b = none) : (hidT h H).get? b = some o :=
  PySem.W.hideAll_get _ e fun hm => by
    have q : (H b).isSome = true := (List.mem_filter.mp hm).2
    rw [n] at q; simp at q
theorem of_hidT {h : Heap} {H : Hp} {b : Addr} {o : Obj} (e : (hidT h H).get? b = some o) : h.get? b = some o ∧ H b = none := by
  have e' : h.get? b = some o := PySem.W.of_hideAll (trk h H) e
  refine ⟨e', ?_⟩
  cases q : H b with
  | none => rfl
  | some x =>
    have hm : b ∈ trk h H := List.mem_filter.mpr ⟨List.mem_range.mpr (Heap.lt_size e'), by simp [q]⟩
    have z : (hidT h H).get? b = none := PySem.W.hideAll_none (trk h H) hm
    rw [z] at e; cases e

/-! ### OpenK's ledger, filled with every new object but one -/
def allNews (g h : Heap) (L : Addr) : List (Addr × Obj) := (List.range h.objs.size).filterMap fun a => if a = L ∨ (g.get? a).isSome = true then none else (h.get? a).map fun o => (a, o)
def rest (g h : Heap) (L d : Addr) : List (Addr × Obj) := (allNews g h L).filter fun p => decide (p.1 ≠ d)
end L2

namespace L2
open PySem PySem.Spec PyProof.Rows

/-- the module's facts, over the base: the heap at the law's entry without what is tracked there -/
structure Mod (K : PySem.W.Frag) (mg : Str → Option Value) (base : Heap) : Prop where
  kin : K.In base
  glob : base.Ns mainGlobals mg
  blt : ∃ mb, base.Ns builtinsNs mb ∧ ∀ x : Str, x ≠ "__name__" → mb x = bootBuiltins x
  nolimit : base.NoLimit

/-- the context: a def's body (or a comprehension's block) running. base: fixed through the whole law; s₀, H₀: the entry; outer: the frames whose slots others may change (a def's callers); stack: all frames that run;
   ex: iterators that were made ahead of the entry and are walked here (a comprehension's); fn: the names whose cells were made at the entry (a def: all; a comprehension's block: its own); calm: not within an except suite; pn: pins that every state bears; xe: what is wanted of an exception that leaves the code -/
structure Cx where
  prog : Program
  w : World
  K : PySem.W.Frag
  mg : Str → Option Value
  base : Heap
  A : Around
  N : List Str
  s₀ : Shared
  H₀ : Hp
  env : Env
  outer : List Env
  stack : List Env
  ex : List Addr
  fn : Str → Bool
  calm : Bool
  pn : List (Addr × Obj)
  xe : Value → Shared → Prop
/-- the callers' frames -/
def frs (l : List Env) : List Addr := l.filterMap (·.frame)
abbrev Cx.fs (X : Cx) : List Addr := frs X.outer

def Vis (sc : Scope) (x : Str) : Prop := sc.names.lookup x = some .local ∨ sc.names.lookup x = some .cell ∨ sc.names.lookup x = some .free
def Loc (sc : Scope) (x : Str) : Prop := sc.names.lookup x = some .local ∨ sc.names.lookup x = some .cell
def Look (env : Env) (h : Heap) (m : Str → Option Value) (x : Str) (u : Value) : Prop :=
  (env.kindOf x = some .local ∧ m x = some u) ∨ ((env.kindOf x = some .cell ∨ env.kindOf x = some .free) ∧ ∃ c, env.cells.lookup x = some c ∧ h.IsCell c (some u))

structure Cx.Ok (X : Cx) : Prop where
  mod : Mod X.K X.mg X.base
  kind : X.env.scope.kind = .function
  glob : X.env.globals = mainGlobals
  blt : X.env.builtins = builtinsNs
  above : X.s₀.heap.objs.size ≤ X.env.locals
  inj : ∀ x y c, X.env.cells.lookup x = some c → X.env.cells.lookup y = some c → x = y
  has : ∀ x, (X.env.kindOf x = some .cell ∨ X.env.kindOf x = some .free) → ∃ c, X.env.cells.lookup x = some c
  cab : ∀ x c, X.fn x = true → X.env.cells.lookup x = some c → X.s₀.heap.objs.size ≤ c
  hd : X.calm = true → X.A.handled = none
  frames : X.A.frames = some X.stack
  stk : X.stack = X.outer ∨ (X.stack = X.env :: X.outer ∧ X.env.frame = some X.env.locals)
  exf : ∀ b ∈ X.ex, b ≠ X.env.locals ∧ ∀ x c, X.env.cells.lookup x = some c → c ≠ b
  bs : ∀ b o, X.base.get? b = some o → X.s₀.heap.get? b = some o ∧ X.H₀ b = none
  bsz : X.base.objs.size ≤ X.s₀.heap.objs.size
  noex : ∀ b o, X.base.get? b = some o → b ∉ X.ex
  exfs : ∀ b ∈ X.ex, b ∉ X.fs
  funs : X.s₀.heap.FunFrames X.base X.outer
  frf : ∀ b ∈ X.fs, X.H₀ b = none

structure Inv (X : Cx) (pins : List (Addr × Obj)) (σ : List (Option V)) (H : Hp) (s : Shared) : Prop where
  ok : X.Ok
  os : s.os = X.s₀.os
  bare : AllBare s.gens
  base : Un X.fs X.ex X.H₀ H X.s₀.heap s.heap
  loc : ∃ m, s.heap.Ns X.env.locals m ∧ ∀ (i : Nat) (x : Str) (v : V), X.N[i]? = some x → σ[i]? = some (some v) → Vis X.env.scope x → ∃ u, RelV v u ∧ Look X.env s.heap m x u
  cell : ∀ x c, X.env.cells.lookup x = some c → ∃ v, s.heap.IsCell c v
  free : H X.env.locals = none
  freeC : ∀ x c, X.env.cells.lookup x = some c → H c = none
  pin : ∀ p ∈ X.pn ++ pins, s.heap.get? p.1 = some p.2 ∧ H p.1 = none ∧ p.1 ≠ X.env.locals ∧ p.1 ∉ X.fs ∧ ∀ v, p.2.data ≠ .cell v
  hok : HOk X.prog X.w H s.heap
  len : σ.length = X.N.length

section
variable {X : Cx} {pins : List (Addr × Obj)} {σ : List (Option V)} {H H' : Hp} {s : Shared} {h' : Heap}

theorem Cx.Ok.nofr (ok : X.Ok) {b : Addr} {o : Obj} (e : X.base.get? b = some o) : b ∉ X.fs := fun hb => by
  have := (ok.funs.mem hb).1
  rw [e] at this; cases this
theorem Inv.bs (I : Inv X pins σ H s) : ∀ b o, X.base.get? b = some o → s.heap.get? b = some o ∧ H b = none := fun b o e =>
  ⟨I.base.keep b o (I.ok.bs b o e).1 (I.ok.bs b o e).2 (I.ok.nofr e) (I.ok.noex b o e), I.base.free b o (I.ok.bs b o e).1 (I.ok.bs b o e).2 (I.ok.noex b o e)⟩
theorem Inv.bk (I : Inv X pins σ H s) : ∀ b o, X.base.get? b = some o → s.heap.get? b = some o := fun b o e => (I.bs b o e).1
theorem Inv.mod (I : Inv X pins σ H s) : Mod X.K X.mg X.base := I.ok.mod
theorem Inv.kIn (I : Inv X pins σ H s) : X.K.In s.heap := I.ok.mod.kin.keeps I.bk
theorem Inv.nolimit (I : Inv X pins σ H s) : s.heap.NoLimit := I.ok.mod.nolimit.keeps I.bk
/-- the frame over the base: for OpenK's rules (K.In X.base is I.mod.kin) -/
theorem Inv.fr (I : Inv X pins σ H s) : ∃ m, Fr X.base X.env.locals s.heap m :=
  let ⟨m, hn, _⟩ := I.loc
  ⟨m, hn, I.bk, Nat.le_trans I.ok.bsz I.ok.above⟩
theorem Inv.lt (I : Inv X pins σ H s) : X.env.locals < s.heap.objs.size := let ⟨_, hn, _⟩ := I.loc; hn.lt
theorem Inv.sz (I : Inv X pins σ H s) : X.s₀.heap.objs.size ≤ s.heap.objs.size := Nat.le_trans I.ok.above (Nat.le_of_lt I.lt)
theorem Inv.nofs (I : Inv X pins σ H s) {a : Addr} (h : s.heap.objs.size ≤ a) : a ∉ X.fs := fun hb => by
  obtain ⟨_, o, ho, _⟩ := I.ok.funs.mem hb
  exact absurd (Nat.lt_of_lt_of_le (Heap.lt_size ho) (Nat.le_trans I.sz h)) (Nat.lt_irrefl _)
theorem Inv.cne (I : Inv X pins σ H s) : ∀ x c, X.env.cells.lookup x = some c → c ≠ X.env.locals := fun x c e z => by
  obtain ⟨v, o, ho, hd⟩ := I.cell x c e
  obtain ⟨m, ⟨o', es, ep, ho', hd', _⟩, _⟩ := I.loc
  rw [z, ho'] at ho; cases ho; rw [hd'] at hd; cases hd
theorem Inv.funs (I : Inv X pins σ H s) : s.heap.FunFrames X.base X.outer := by
  have all : ∀ (l : List Env), (∀ b ∈ frs l, b ∈ X.fs) → X.s₀.heap.FunFrames X.base l → s.heap.FunFrames X.base l := by
    intro l
    induction l with
    | nil => intro _ _; trivial
    | cons env r ih =>
      intro hs hl
      obtain ⟨hk, ⟨L, o, hf, hn, ho, hd⟩, hr⟩ := hl
      have hL : L ∈ X.fs := hs L (by unfold frs; rw [List.filterMap_cons, hf]; exact List.mem_cons_self)
      obtain ⟨sl, e⟩ := I.base.slot L o ho (I.ok.frf L hL) hL fun z => I.ok.exfs L z hL
      exact ⟨hk, ⟨L, _, hf, hn, e, hd⟩, ih (fun b hb => hs b (by unfold frs; rw [List.filterMap_cons, hf]; exact List.mem_cons_of_mem _ hb)) hr⟩
  exact all X.outer (fun _ hb => hb) I.ok.funs

/-- the frames that run, for a call -/
theorem Inv.stack (I : Inv X pins σ H s) : s.heap.FunFrames X.base X.stack := by
  rcases I.ok.stk with e | ⟨e, hf⟩
  · rw [e]; exact I.funs
  · rw [e]
    obtain ⟨m, hn, _⟩ := I.loc
    refine .cons (by rw [I.ok.kind]; decide) hf hn ?_ I.funs
    exact Heap.get?_none_of_le (Nat.le_trans I.ok.bsz I.ok.above)
theorem Inv.stkSub (I : Inv X pins σ H s) : ∀ b ∈ frs X.stack, b ∈ X.env.locals :: X.fs := fun b hb => by
  rcases I.ok.stk with e | ⟨e, hf⟩
  · rw [e] at hb; exact List.mem_cons_of_mem _ hb
  · rw [e] at hb
    unfold frs at hb
    rw [List.filterMap_cons, hf] at hb
    exact hb
theorem Inv.stkFree (I : Inv X pins σ H s) : ∀ b ∈ frs X.stack, H b = none := fun b hb => by
  rcases List.mem_cons.mp (I.stkSub b hb) with e | hb
  · rw [e]; exact I.free
  · obtain ⟨_, o, ho, _⟩ := I.ok.funs.mem hb
    exact I.base.free b o ho (I.ok.frf b hb) fun z => I.ok.exfs b z hb

/-- THE STEP: the untracked objects but the frame and the records at ch are kept (the callers' frames up to slots), the frame's map is kept, the new abstract heap is held -/
theorem Inv.step {g' : Array GenState} {t' : Nat} {d' : Drawn} {ch : List Addr} (I : Inv X pins σ H s)
    (hch : ∀ b ∈ ch, (b ∈ X.ex ∨ X.s₀.heap.objs.size ≤ b) ∧ b ≠ X.env.locals ∧ (∀ x c, X.env.cells.lookup x = some c → c ≠ b) ∧ ∀ p ∈ X.pn ++ pins, p.1 ≠ b)
    (keep : ∀ b o, b ≠ X.env.locals → b ∉ X.fs → b ∉ ch → s.heap.get? b = some o → H b = none → h'.get? b = some o)
    (slot : ∀ b o, b ≠ X.env.locals → b ∈ X.fs → b ∉ ch → s.heap.get? b = some o → H b = none → ∃ sl, h'.get? b = some { o with slots := sl }) (free : ∀ b o, b ∉ ch → s.heap.get? b = some o → H b = none → H' b = none)
    (there : ∀ b o, b ∉ ch → s.heap.get? b = some o → ∃ o', h'.get? b = some o')
    (tups : ∀ b xs, H b = some (.tup xs) → H' b = some (.tup xs)) (frzs : ∀ b o u, H b = some (.frz o u) → H' b = some (.frz o u)) (tbls : ∀ b ps, H b = some (.tbl ps) → ∃ more, H' b = some (.tbl (ps ++ more)))
    (ns : ∀ m, s.heap.Ns X.env.locals m → h'.Ns X.env.locals m) (hok : HOk X.prog X.w H' h') (hg : AllBare g') :
    Inv X pins σ H' { s with heap := h', gens := g', drawn := d', toks := t' } := by
  have neL : ∀ b o, X.s₀.heap.get? b = some o → b ≠ X.env.locals := fun b o e => Nat.ne_of_lt (Nat.lt_of_lt_of_le (Heap.lt_size e) I.ok.above)
  have neC : ∀ b o, X.s₀.heap.get? b = some o → b ∉ X.ex → b ∉ ch := fun b o e hx hb => by
    rcases (hch b hb).1 with z | z
    · exact hx z
    · exact absurd (Nat.lt_of_lt_of_le (Heap.lt_size e) z) (Nat.lt_irrefl _)
  have cellK : ∀ x c, X.env.cells.lookup x = some c → ∀ v, s.heap.IsCell c v → h'.IsCell c v := fun x c e v ⟨o, ho, hd⟩ => by
    have nch : c ∉ ch := fun z => (hch c z).2.2.1 x c e rfl
    by_cases hc : c ∈ X.fs
    · obtain ⟨sl, q⟩ := slot c o (I.cne x c e) hc nch ho (I.freeC x c e)
      exact ⟨_, q, hd⟩
    · exact ⟨o, keep c o (I.cne x c e) hc nch ho (I.freeC x c e), hd⟩
  refine ⟨I.ok, I.os, hg, ⟨fun b o e n hb hx => ?_, fun b o e n hb hx => ?_, fun b o e n hx => ?_, fun b o e hx => ?_, fun b xs e => tups b xs (I.base.tups b xs e), fun b o xs e => frzs b o xs (I.base.frzs b o xs e), fun b ps e => ?_⟩, ?_, fun x c e => ?_, ?_, fun x c e => ?_, fun p hp => ?_, hok, I.len⟩
  · exact keep b o (neL b o e) hb (neC b o e hx) (I.base.keep b o e n hb hx) (I.base.free b o e n hx)
  · obtain ⟨sl, e1⟩ := I.base.slot b o e n hb hx
    obtain ⟨sl', e2⟩ := slot b _ (neL b o e) hb (neC b o e hx) e1 (I.base.free b o e n hx)
    exact ⟨sl', e2⟩
  · obtain ⟨o', e1⟩ := I.base.there b o e hx
    exact free b o' (neC b o e hx) e1 (I.base.free b o e n hx)
  · obtain ⟨o', e1⟩ := I.base.there b o e hx
    exact there b o' (neC b o e hx) e1
  · obtain ⟨m1, e1⟩ := I.base.tbls b ps e
    obtain ⟨m2, e2⟩ := tbls b _ e1
    exact ⟨m1 ++ m2, by rw [e2, Array.append_assoc]⟩
  · obtain ⟨m, hn, hl⟩ := I.loc
    refine ⟨m, ns m hn, fun i x v e1 e2 e3 => ?_⟩
    obtain ⟨u, r, l⟩ := hl i x v e1 e2 e3
    refine ⟨u, r, ?_⟩
    rcases l with l | ⟨k, c, e, z⟩
    · exact .inl l
    · exact .inr ⟨k, c, e, cellK x c e _ z⟩
  · obtain ⟨v, z⟩ := I.cell x c e
    exact ⟨v, cellK x c e v z⟩
  · obtain ⟨m, ⟨o, _, _, ho, _⟩, _⟩ := I.loc
    exact free _ o (fun z => (hch _ z).2.1 rfl) ho I.free
  · obtain ⟨v, o, ho, hd⟩ := I.cell x c e
    exact free c o (fun z => (hch c z).2.2.1 x c e rfl) ho (I.freeC x c e)
  · obtain ⟨e, n, ne, nf, d⟩ := I.pin p hp
    have nch : p.1 ∉ ch := fun z => (hch p.1 z).2.2.2 p hp rfl
    exact ⟨keep p.1 p.2 ne nf nch e n, free p.1 p.2 nch e n, ne, nf, d⟩
/-- .. where the frame's own object is kept too -/
theorem Inv.un {t' : Nat} (I : Inv X pins σ H s) (u : Un X.fs [] H H' s.heap h') (hok : HOk X.prog X.w H' h') : Inv X pins σ H' { s with heap := h', toks := t' } := by
  obtain ⟨m, ⟨o, es, ep, ho, r⟩, _⟩ := id I.loc
  obtain ⟨sl, hL⟩ := u.any ho I.free (by simp)
  exact I.step (g' := s.gens) (d' := s.drawn) (ch := []) (fun _ z => nomatch z) (fun b o _ hb _ e n => u.keep b o e n hb (by simp)) (fun b o _ hb _ e n => u.slot b o e n hb (by simp)) (fun b o _ e n => u.free b o e n (by simp)) (fun b o _ e => u.there b o e (by simp)) u.tups u.frzs u.tbls (fun m' hm => by
    obtain ⟨o', es', ep', ho', r'⟩ := hm
    rw [ho] at ho'; cases ho'
    exact ⟨_, es', ep', hL, r'⟩) hok I.bare
/-- behind a call (or a comprehension's block): the slots of this frame may have changed too, the records at ch may have turned -/
theorem Inv.call {g' : Array GenState} {t' : Nat} {d' : Drawn} {ch : List Addr} (I : Inv X pins σ H s) (u : Un (frs X.stack) ch H H' s.heap h') (hok : HOk X.prog X.w H' h') (hg : AllBare g')
    (hch : ∀ b ∈ ch, (b ∈ X.ex ∨ X.s₀.heap.objs.size ≤ b) ∧ b ≠ X.env.locals ∧ (∀ x c, X.env.cells.lookup x = some c → c ≠ b) ∧ ∀ p ∈ X.pn ++ pins, p.1 ≠ b) :
    Inv X pins σ H' { s with heap := h', gens := g', drawn := d', toks := t' } := by
  obtain ⟨m, ⟨o, es, ep, ho, r⟩, _⟩ := id I.loc
  obtain ⟨sl, hL⟩ := u.any ho I.free fun z => (hch _ z).2.1 rfl
  exact I.step (ch := ch) hch (fun b o hL hb hc e n => u.keep b o e n (fun z => (List.mem_cons.mp (I.stkSub b z)).elim hL hb) hc) (fun b o _ _ hc e n => u.any e n hc) (fun b o hc e n => u.free b o e n hc) (fun b o hc e => u.there b o e hc) u.tups u.frzs u.tbls (fun m' hm => by
    obtain ⟨o', es', ep', ho', r'⟩ := hm
    rw [ho] at ho'; cases ho'
    exact ⟨_, es', ep', hL, r'⟩) hok hg
/-- an untracked record of ours (an iterator) has turned -/
theorem Inv.turned {t' : Nat} {it : Addr} (I : Inv X pins σ H s) (k : ∀ b o, b ≠ it → s.heap.get? b = some o → h'.get? b = some o) (hn : H it = none) (hL : it ≠ X.env.locals)
    (h1 : it ∈ X.ex ∨ X.s₀.heap.objs.size ≤ it) (h2 : ∀ x c, X.env.cells.lookup x = some c → c ≠ it) (h3 : ∀ p ∈ X.pn ++ pins, p.1 ≠ it) : Inv X pins σ H { s with heap := h', toks := t' } := by
  have nit : ∀ b u, H b = some u → b ≠ it := fun b u e z => by rw [z, hn] at e; cases e
  refine I.step (g' := s.gens) (d' := s.drawn) (ch := [it]) (fun b hb => ?_) (fun b o _ _ hc e _ => k b o (fun z => hc (by simp [z])) e) (fun b o _ _ hc e _ => ⟨o.slots, k b o (fun z => hc (by simp [z])) e⟩) (fun _ _ _ _ n => n)
    (fun b o hc e => ⟨o, k b o (fun z => hc (by simp [z])) e⟩) (fun _ _ e => e) (fun _ _ _ e => e) (fun b ps e => ⟨#[], by rw [e]; simp⟩) (fun m hm => ?_) (fun b u e => ?_) I.bare
  · have e : b = it := by simpa using hb
    subst e
    exact ⟨h1, hL, h2, h3⟩
  · obtain ⟨o, es, ep, ho, r⟩ := hm
    exact ⟨o, es, ep, k _ o (Ne.symm hL) ho, r⟩
  · refine (I.hok b u e).stay (fun c v hc q => k c v ?_ q) (fun _ q => q) fun _ _ q => q
    rcases hc with z | z
    · rw [z]; exact nit b u e
    · exact nit c _ z
theorem Inv.tok (I : Inv X pins σ H s) (t : Nat) : Inv X pins σ H { s with toks := t } := I.un (h' := s.heap) (t' := t) Un.refl I.hok
/-- all objects kept -/
theorem Inv.kept {t' : Nat} (I : Inv X pins σ H s) (k : ∀ b u, s.heap.get? b = some u → h'.get? b = some u) : Inv X pins σ H { s with heap := h', toks := t' } := I.un (Un.kept k) (I.hok.kept k)
/-- a new object laid and tracked -/
theorem Inv.laid {a : Addr} {o : HO} {t' : Nat} (I : Inv X pins σ H s) (k : ∀ b u, s.heap.get? b = some u → h'.get? b = some u) (hp : s.heap.objs.size ≤ a) (new : ObjOk X.prog X.w (upd H a o) h' a o) :
    Inv X pins σ (upd H a o) { s with heap := h', toks := t' } := I.un (Un.laid k hp (I.hok.fresh hp)) (I.hok.laid k hp new)
/-- an object written -/
theorem Inv.write {x e : Addr} {o : HO} {t' : Nat} (I : Inv X pins σ H s) (mu : Mut (H x)) (he : e = x ∨ H e = some (.own x)) (k : ∀ b u, b ≠ e → s.heap.get? b = some u → h'.get? b = some u) (heo : ∃ u, h'.get? e = some u)
    (new : ObjOk X.prog X.w (upd H x o) h' x o) : Inv X pins σ (upd H x o) { s with heap := h', toks := t' } := I.un (Un.write mu he k heo) (I.hok.write mu he k heo new)
/-- forgetting slots, pins -/
theorem Inv.weak {σ' : List (Option V)} (I : Inv X pins σ H s) (hl : σ'.length = σ.length) (w : ∀ (i : Nat) v, σ'[i]? = some (some v) → σ[i]? = some (some v)) : Inv X pins σ' H s :=
  ⟨I.ok, I.os, I.bare, I.base, let ⟨m, hn, hl'⟩ := I.loc; ⟨m, hn, fun i x v e1 e2 e3 => hl' i x v e1 (w i v e2) e3⟩, I.cell, I.free, I.freeC, I.pin, I.hok, hl.trans I.len⟩
theorem Inv.pins_of {pins' : List (Addr × Obj)} (I : Inv X pins σ H s) (h : ∀ p ∈ pins', s.heap.get? p.1 = some p.2 ∧ H p.1 = none ∧ p.1 ≠ X.env.locals ∧ p.1 ∉ X.fs ∧ ∀ v, p.2.data ≠ .cell v) : Inv X pins' σ H s :=
  ⟨I.ok, I.os, I.bare, I.base, I.loc, I.cell, I.free, I.freeC, fun p hp => (List.mem_append.mp hp).elim (fun z => I.pin p (List.mem_append_left _ z)) (h p), I.hok, I.len⟩

theorem nodup_ix {N : List Str} (hN : N.Nodup) {i j : Nat} {x : Str} (a : N[i]? = some x) (b : N[j]? = some x) : i = j := by
  obtain ⟨h1, e1⟩ := List.getElem?_eq_some_iff.mp a
  obtain ⟨h2, e2⟩ := List.getElem?_eq_some_iff.mp b
  exact (List.getElem_inj hN).mp (e1.trans e2.symm)

/-- a name is stored; what changed -/
theorem store_ok2 {M : Model} {A : Around} {E : Value → Shared → Prop} {i : Nat} {x : Str} {v : V} {u : Value} {Q : Unit → Shared → Prop} (I : Inv X pins σ H s) (hN : X.N.Nodup) (hi : X.N[i]? = some x) (hx : Loc X.env.scope x) (r : RelV v u)
    (h : ∀ s', Inv X pins (σ.set i (some v)) H s' → (∃ a, Heap.SameBut a s.heap s'.heap ∧ (a = X.env.locals ∨ X.env.cells.lookup x = some a)) → Q () s') (hf : X.fn x = true ∨ X.env.scope.names.lookup x = some .local := by first | exact .inl rfl | exact .inr rfl | assumption) : wpAny M A (storeName X.env x u) Q E s := by
  obtain ⟨m, hn, hl⟩ := id I.loc
  have hcls : (X.env.scope.kind == .class || (X.env.scope.kind == .module && X.env.locals != X.env.globals)) = false := by rw [I.ok.kind]; rfl
  have hiσ : i < σ.length := by rw [I.len]; exact (List.getElem?_eq_some_iff.mp hi).1
  have cne := I.cne
  have tracked : ∀ {a : Addr} {h' : Heap}, (∃ o, s.heap.get? a = some o ∧ H a = none) → Heap.SameBut a s.heap h' → HOk X.prog X.w H h' := fun {a h'} ha hs b ob e => by
    obtain ⟨_, _, hfree⟩ := ha
    refine (I.hok b ob e).stay (fun c w' hc q => (hs.2 c ?_).trans q) (fun _ q => q) fun _ _ q => q
    rintro rfl
    rcases hc with rfl | hc
    · rw [hfree] at e; cases e
    · rw [hfree] at hc; cases hc
  rcases hx with hk | hk
  · refine wpAny_storeName_local hk hn (fun h' hn' hs => ?_) hcls
    obtain ⟨oL, _, _, hoL, _⟩ := id hn
    refine h _ ⟨I.ok, I.os, I.bare, ⟨fun b o e n hb hx => ?_, fun b o e n hb hx => ?_, I.base.free, fun b o e hx => ?_, I.base.tups, I.base.frzs, I.base.tbls⟩, ⟨_, hn', fun j y v' e1 e2 e3 => ?_⟩, fun y c e => ?_, I.free, I.freeC, fun p hp => ?_, tracked ⟨oL, hoL, I.free⟩ hs, by simpa using I.len⟩ ⟨_, hs, .inl rfl⟩
    · exact (hs.2 b (Nat.ne_of_lt (Nat.lt_of_lt_of_le (Heap.lt_size e) I.ok.above))).trans (I.base.keep b o e n hb hx)
    · obtain ⟨sl, e1⟩ := I.base.slot b o e n hb hx
      exact ⟨sl, (hs.2 b (Nat.ne_of_lt (Nat.lt_of_lt_of_le (Heap.lt_size e) I.ok.above))).trans e1⟩
    · obtain ⟨o', e1⟩ := I.base.there b o e hx
      exact ⟨o', (hs.2 b (Nat.ne_of_lt (Nat.lt_of_lt_of_le (Heap.lt_size e) I.ok.above))).trans e1⟩
    · by_cases hj : j = i
      · subst hj
        rw [hi] at e1; cases e1
        rw [List.getElem?_set_self hiσ] at e2
        cases e2
        exact ⟨u, r, .inl ⟨hk, by simp⟩⟩
      · rw [List.getElem?_set_ne (Ne.symm hj)] at e2
        obtain ⟨u', r', q⟩ := hl j y v' e1 e2 e3
        refine ⟨u', r', ?_⟩
        rcases q with ⟨k, e⟩ | ⟨k, c, e, z⟩
        · refine .inl ⟨k, ?_⟩
          have : y ≠ x := fun e => hj (nodup_ix hN e1 (e ▸ hi))
          simp [this, e]
        · exact .inr ⟨k, c, e, z.sameBut hs (cne y c e)⟩
    · obtain ⟨w', z⟩ := I.cell y c e
      exact ⟨w', z.sameBut hs (cne y c e)⟩
    · obtain ⟨e, n, ne, nf, d⟩ := I.pin p hp
      exact ⟨(hs.2 p.1 ne).trans e, n, ne, nf, d⟩
  · have hfn : X.fn x = true := by
      rcases hf with z | z
      · exact z
      · rw [z] at hk; cases hk
    obtain ⟨c, hc⟩ := I.ok.has x (.inl hk)
    obtain ⟨w', z⟩ := I.cell x c hc
    refine wpAny_storeName_cell I.ok.kind hk hc z (fun h' hc' hs => ?_)
    obtain ⟨oc, hoc, hocd⟩ := id z
    refine h { s with heap := h' } ⟨I.ok, I.os, I.bare, ⟨fun b o e n hb hx => ?_, fun b o e n hb hx => ?_, I.base.free, fun b o e hx => ?_, I.base.tups, I.base.frzs, I.base.tbls⟩, ⟨m, hn.sameBut hs (Ne.symm (cne x c hc)), fun j y v' e1 e2 e3 => ?_⟩, fun y c' e => ?_, I.free, I.freeC, fun p hp => ?_, tracked ⟨oc, hoc, I.freeC x c hc⟩ hs, by simpa using I.len⟩ ⟨c, hs, .inr hc⟩
    · exact (hs.2 b (Nat.ne_of_lt (Nat.lt_of_lt_of_le (Heap.lt_size e) (I.ok.cab x c hfn hc)))).trans (I.base.keep b o e n hb hx)
    · obtain ⟨sl, e1⟩ := I.base.slot b o e n hb hx
      exact ⟨sl, (hs.2 b (Nat.ne_of_lt (Nat.lt_of_lt_of_le (Heap.lt_size e) (I.ok.cab x c hfn hc)))).trans e1⟩
    · obtain ⟨o', e1⟩ := I.base.there b o e hx
      exact ⟨o', (hs.2 b (Nat.ne_of_lt (Nat.lt_of_lt_of_le (Heap.lt_size e) (I.ok.cab x c hfn hc)))).trans e1⟩
    · by_cases hj : j = i
      · subst hj
        rw [hi] at e1; cases e1
        rw [List.getElem?_set_self hiσ] at e2
        cases e2
        exact ⟨u, r, .inr ⟨.inl hk, c, hc, hc'⟩⟩
      · rw [List.getElem?_set_ne (Ne.symm hj)] at e2
        obtain ⟨u', r', q⟩ := hl j y v' e1 e2 e3
        refine ⟨u', r', ?_⟩
        rcases q with q | ⟨k, c', e, z'⟩
        · exact .inl q
        · refine .inr ⟨k, c', e, z'.sameBut hs ?_⟩
          rintro rfl
          exact hj (nodup_ix hN e1 (I.ok.inj _ _ _ e hc ▸ hi))
    · by_cases hcc : c' = c
      · subst hcc; exact ⟨_, hc'⟩
      · obtain ⟨w2, z2⟩ := I.cell y c' e
        exact ⟨w2, z2.sameBut hs hcc⟩
    · obtain ⟨e, n, ne, nf, d⟩ := I.pin p hp
      refine ⟨(hs.2 p.1 ?_).trans e, n, ne, nf, d⟩
      intro q
      rw [q, hoc] at e
      have q' : oc = p.2 := Option.some.inj e
      exact d w' (by rw [← q']; exact hocd)
theorem store_ok {M : Model} {A : Around} {E : Value → Shared → Prop} {i : Nat} {x : Str} {v : V} {u : Value} {Q : Unit → Shared → Prop} (I : Inv X pins σ H s) (hN : X.N.Nodup) (hi : X.N[i]? = some x) (hx : Loc X.env.scope x) (r : RelV v u)
    (h : ∀ s', Inv X pins (σ.set i (some v)) H s' → Q () s') (hf : X.fn x = true ∨ X.env.scope.names.lookup x = some .local := by first | exact .inl rfl | exact .inr rfl | assumption) : wpAny M A (storeName X.env x u) Q E s :=
  store_ok2 I hN hi hx r (fun s' I' _ => h s' I') hf
/-- behind a call or a block, the state as it is -/
theorem Inv.call' {s' : Shared} {ch : List Addr} (I : Inv X pins σ H s) (ho : s'.os = s.os) (u : Un (frs X.stack) ch H H' s.heap s'.heap) (hok : HOk X.prog X.w H' s'.heap) (hg : AllBare s'.gens)
    (hch : ∀ b ∈ ch, (b ∈ X.ex ∨ X.s₀.heap.objs.size ≤ b) ∧ b ≠ X.env.locals ∧ (∀ x c, X.env.cells.lookup x = some c → c ≠ b) ∧ ∀ p ∈ X.pn ++ pins, p.1 ≠ b) : Inv X pins σ H' s' := by
  obtain ⟨h', g', d', t', o'⟩ := s'
  have e : o' = s.os := ho
  subst e
  exact I.call (g' := g') (t' := t') (d' := d') u hok hg hch
end

/-! ### the judgements -/
/-- an exception: its class, its own dict's address (where it has one), the abstract heap behind it -/
abbrev XK := Value → Option Addr → Hp → Prop
abbrev St := List (Option V)
abbrev VK := V → Hp → Prop
/-- an expression's reading; a test's; an argument list's -/
abbrev TE := St → Hp → VK → Prop
abbrev TT := St → Hp → (Bool → Hp → Prop) → Prop
abbrev TA := St → Hp → (List V → Hp → Prop) → Prop
/-- what is wanted behind a statement -/
structure Ends where
  nx : St → Hp → Prop
  rt : VK
  bk : St → Hp → Prop := fun _ _ => False
  ct : St → Hp → Prop := fun _ _ => False
abbrev TS := Ends → St → Hp → Prop

def EP (X : Cx) (pins : List (Addr × Obj)) (σ : St) (Q : VK) (u : Value) (s' : Shared) : Prop := ∃ v H', Inv X pins σ H' s' ∧ RelV v u ∧ Q v H'
def TP (X : Cx) (pins : List (Addr × Obj)) (σ : St) (Q : Bool → Hp → Prop) (b : Bool) (s' : Shared) : Prop := ∃ H', Inv X pins σ H' s' ∧ Q b H'
def AP (X : Cx) (pins : List (Addr × Obj)) (σ : St) (Q : List V → Hp → Prop) (us : List Value) (s' : Shared) : Prop := ∃ vs H', Inv X pins σ H' s' ∧ Vals vs us ∧ Q vs H'
def SP (X : Cx) (pins : List (Addr × Obj)) (D : Ends) (f : Flow) (s' : Shared) : Prop :=
  match f with
  | .next => ∃ σ' H', Inv X pins σ' H' s' ∧ D.nx σ' H'
  | .brk => ∃ σ' H', Inv X pins σ' H' s' ∧ D.bk σ' H'
  | .cont => ∃ σ' H', Inv X pins σ' H' s' ∧ D.ct σ' H'
  | .ret u => ∃ v σ' H', Inv X pins σ' H' s' ∧ RelV v u ∧ D.rt v H'

def PE (X : Cx) (e : Expr) (t : TE) : Prop :=
  ∀ (pins : List (Addr × Obj)) (s : Shared) (σ : St) (H : Hp) (Q : VK), Inv X pins σ H s → t σ H Q → wpAny (model X.prog X.w) X.A (eval e X.env) (EP X pins σ Q) X.xe s
def PT (X : Cx) (e : Expr) (t : TT) : Prop :=
  ∀ (pins : List (Addr × Obj)) (s : Shared) (σ : St) (H : Hp) (Q : Bool → Hp → Prop), Inv X pins σ H s → t σ H Q → wpAny (model X.prog X.w) X.A (isTrue e X.env (eval e X.env)) (TP X pins σ Q) X.xe s
/-- a test whatever its 'whole' is (and, or) -/
def PW (X : Cx) (e : Expr) (t : TT) : Prop :=
  ∀ (whole : Sem Value) (pins : List (Addr × Obj)) (s : Shared) (σ : St) (H : Hp) (Q : Bool → Hp → Prop), Inv X pins σ H s → t σ H Q → wpAny (model X.prog X.w) X.A (isTrue e X.env whole) (TP X pins σ Q) X.xe s
theorem PW.pt {X : Cx} {e : Expr} {t : TT} (h : PW X e t) : PT X e t := h _
/-- an argument list (no star), from the left -/
def PA (X : Cx) (es : List Expr) (t : TA) : Prop :=
  ∀ (pos : Pos) (pins : List (Addr × Obj)) (s : Shared) (σ : St) (H : Hp) (Q : List V → Hp → Prop), Inv X pins σ H s → t σ H Q → wpAny (model X.prog X.w) X.A (spliced (backTo pos (starEach es X.env))) (AP X pins σ Q) X.xe s
def PS (X : Cx) (st : Stmt) (t : TS) : Prop :=
  ∀ (pins : List (Addr × Obj)) (s : Shared) (σ : St) (H : Hp) (D : Ends), Inv X pins σ H s → t D σ H → wpAny (model X.prog X.w) X.A (exec st X.env) (SP X pins D) X.xe s
def PSs (X : Cx) (st : List Stmt) (t : TS) : Prop :=
  ∀ (pins : List (Addr × Obj)) (s : Shared) (σ : St) (H : Hp) (D : Ends), Inv X pins σ H s → t D σ H → wpAny (model X.prog X.w) X.A (execs st X.env) (SP X pins D) X.xe s
/-- weaken the end -/
theorem thn {α : Type} {t : Sem α} {Q Q' : α → Shared → Prop} {M : Model} {A : Around} {E : Value → Shared → Prop} {s : Shared} (h : wpAny M A t Q E s) (hQ : ∀ a s, Q a s → Q' a s) : wpAny M A t Q' E s := wpAny_mono h hQ fun _ _ x => x
end L2

namespace L2
open PySem PySem.Spec PyProof.Rows
section
variable {X : Cx}

/-! ### names and constants -/
def tVar (i : Nat) : TE := fun σ H Q => ∃ v, σ[i]? = some (some v) ∧ Q v H
def tC (v : V) : TE := fun _ H Q => Q v H
theorem pe_var {i : Nat} {x : Str} {pos : Pos} (hN : X.N[i]? = some x) (hv : Vis X.env.scope x) (hd : (x == ("__debug__" : Str)) = false := by decide) (hcd : (x == ("__classdict__" : Str)) = false := by decide) : PE X (.Name x pos) (tVar i) := by
  intro pins s σ H Q I h
  obtain ⟨v, e, h⟩ := h
  obtain ⟨m, hn, hl⟩ := I.loc
  obtain ⟨u, r, l⟩ := hl i x v hN e hv
  have fin : EP X pins σ Q u s := ⟨v, H, I, r, h⟩
  rcases l with ⟨hk, hm⟩ | ⟨hk, c, hc, hcell⟩
  · exact wpAny_Name (wpAny_loadName_local I.ok.kind hk hn hm fin) hd
  · rcases hk with hk | hk
    · exact wpAny_Name (wpAny_loadName_cell I.ok.kind hk hc hcell fin) hd
    · exact wpAny_Name (wpAny_loadName_free I.ok.kind hk hc hcell fin hcd) hd
theorem pe_int {i j pos} : PE X (.Constant (.int i) j pos) (tC (.int i)) := fun _ _ _ H _ I h => wpAny_Constant_int ⟨.int i, H, I.tok _, ⟨_, rfl⟩, h⟩
theorem pe_bl {b j pos} : PE X (.Constant (.bool b) j pos) (tC (.bl b)) := fun _ _ _ H _ I h => Constant_bool ⟨.bl b, H, I, rfl, h⟩
theorem pe_str {x j pos} : PE X (.Constant (.str x) j pos) (tC (.str x)) := fun _ _ _ H _ I h => Calls.Constant_str ⟨.str x, H, I.tok _, ⟨_, rfl⟩, h⟩

/-- a global name of the def -/
def Gl (X : Cx) (x : Str) : Prop := X.env.kindOf x = some .globalImplicit
theorem ld_glob {E : Value → Shared → Prop} {pins : List (Addr × Obj)} {s : Shared} {σ : St} {H : Hp} {x : Str} {u : Value} {pos : Pos} {Q : Value → Shared → Prop} (I : Inv X pins σ H s) (hg : Gl X x) (hm : X.mg x = some u) (h : Q u s)
    (hd : (x == ("__debug__" : Str)) = false := by decide) : wpAny (model X.prog X.w) X.A (eval (.Name x pos) X.env) Q E s :=
  Calls.Name_function_global I.ok.kind hg (Calls.loadGlobal_global (by rw [I.ok.glob]; exact I.mod.glob.keeps I.bk) hm h) hd
theorem ld_blt {E : Value → Shared → Prop} {pins : List (Addr × Obj)} {s : Shared} {σ : St} {H : Hp} {x : Str} {u : Value} {pos : Pos} {Q : Value → Shared → Prop} (I : Inv X pins σ H s) (hg : Gl X x) (hm : X.mg x = none) (hv : bootBuiltins x = some u) (h : Q u s)
    (hn : x ≠ "__name__" := by decide) (hd : (x == ("__debug__" : Str)) = false := by decide) : wpAny (model X.prog X.w) X.A (eval (.Name x pos) X.env) Q E s := by
  obtain ⟨mb, h1, h2⟩ := I.mod.blt
  exact Calls.Name_function_global I.ok.kind hg (Calls.loadGlobal_builtin (by rw [I.ok.glob]; exact I.mod.glob.keeps I.bk) hm (by rw [I.ok.blt]; exact h1.keeps I.bk) ((h2 x hn).trans hv) h) hd
/-- a module's constant, a class, a function, as a value -/
theorem pe_glob {x : Str} {v : V} {u : Value} {pos : Pos} (hg : Gl X x) (hm : X.mg x = some u) (r : RelV v u) (hd : (x == ("__debug__" : Str)) = false := by decide) : PE X (.Name x pos) (tC v) :=
  fun _ _ _ H _ I h => ld_glob I hg hm ⟨v, H, I, r, h⟩ hd
theorem pe_bltn {x : Str} {v : V} {u : Value} {pos : Pos} (hg : Gl X x) (hm : X.mg x = none) (hv : bootBuiltins x = some u) (r : RelV v u) (hn : x ≠ "__name__" := by decide) (hd : (x == ("__debug__" : Str)) = false := by decide) : PE X (.Name x pos) (tC v) :=
  fun _ _ _ H _ I h => ld_blt I hg hm hv ⟨v, H, I, r, h⟩ hn hd

/-! ### arithmetic -/
variable {a b : Expr} {ta tb : TE} {pos : Pos}
/-! ### comparisons -/
/-- a comparison as a value, as a test -/
def tB (t : TE) : TT := fun σ H Q => t σ H fun x H1 => ∃ c, x = .bl c ∧ Q c H1
/-- an expression whose value is a bool, as a test -/
theorem pt_val {e : Expr} {t : TE} (h : PE X e t) (he : ∀ whole, isTrue e X.env whole = (do let v ← whole; standAt e.pos; holding [v] (truthy v)) := by intro _; rfl) : PT X e (tB t) := by
  intro pins s σ H Q I hw
  refine isTrue_plain (thn (h pins s σ H _ I hw) fun v s1 ⟨x, H1, I1, r1, q1⟩ => ?_) (he _)
  obtain ⟨d, rfl, q⟩ := q1
  cases r1
  exact wpAny_truthy_bool ⟨H1, I1, q⟩

/-! ### and, or, not -/
variable {tA tB' : TT} {rest : List Expr}
def tOr (t u : TT) : TT := fun σ H Q => t σ H fun c H1 => if c = true then Q true H1 else u σ H1 Q
def tNot (t : TT) : TT := fun σ H Q => t σ H fun c H1 => Q (!c) H1
theorem pw_or1 (ha : PT X a tA) : PW X (.BoolOp .Or [a] pos) tA := by
  intro wh pins s σ H Q I h
  refine isTrue_or (thn (ha pins s σ H Q I h) fun c s1 e => ?_)
  cases c with
  | false => exact isTrue_or_nil e
  | true => exact e
theorem pw_or (ha : PT X a tA) (hb : PW X (.BoolOp .Or (b :: rest) pos) tB') : PW X (.BoolOp .Or (a :: b :: rest) pos) (tOr tA tB') := by
  intro wh pins s σ H Q I h
  refine isTrue_or (thn (ha pins s σ H _ I h) fun c s1 ⟨H1, I1, q1⟩ => ?_)
  cases c with
  | true => exact ⟨H1, I1, q1⟩
  | false => exact hb wh pins s1 σ H1 Q I1 q1
theorem pt_not (ha : PT X a tA) : PT X (.UnaryOp .Not a pos) (tNot tA) := by
  intro pins s σ H Q I h
  exact isTrue_not (ha pins s σ H (fun c H1 => Q (!c) H1) I h)
/-- .. as values (bools) -/
def tAndV (ta tb : TE) : TE := fun σ H Q => ta σ H fun x H1 => ∃ c, x = .bl c ∧ if c = true then tb σ H1 Q else Q (.bl false) H1
def tNotV (ta : TE) : TE := fun σ H Q => ta σ H fun x H1 => ∃ c, x = .bl c ∧ Q (.bl (!c)) H1
theorem pe_one {op} {t : TE} (h : PE X a t) : PE X (.BoolOp op [a] pos) t := fun pins s σ H Q I hw => BoolOp_one (h pins s σ H Q I hw)
theorem pe_and (ha : PE X a ta) (hb : PE X (.BoolOp .And (b :: rest) pos) tb) : PE X (.BoolOp .And (a :: b :: rest) pos) (tAndV ta tb) := by
  intro pins s σ H Q I h
  refine BoolOp_and (thn (ha pins s σ H _ I h) fun v s1 ⟨x, H1, I1, r1, q1⟩ => ?_)
  obtain ⟨c, rfl, q1⟩ := q1
  cases r1
  refine wpAny_truthy_bool ?_
  cases c with
  | true => exact hb pins s1 σ H1 Q I1 q1
  | false => exact ⟨.bl false, H1, I1, rfl, q1⟩
theorem pe_not (ha : PE X a ta) : PE X (.UnaryOp .Not a pos) (tNotV ta) := by
  intro pins s σ H Q I h
  refine UnaryOp_ (thn (ha pins s σ H _ I h) fun v s1 ⟨x, H1, I1, r1, q1⟩ => ?_)
  obtain ⟨c, rfl, q1⟩ := q1
  cases r1
  exact not_of (wpAny_truthy_bool ⟨.bl (!c), H1, I1, rfl, q1⟩)
/-- a if t else b -/
def tIf (t : TT) (ta tb : TE) : TE := fun σ H Q => t σ H fun c H1 => if c = true then ta σ H1 Q else tb σ H1 Q
theorem pe_ifExp {c : Expr} (hc : PT X c tA) (ha : PE X a ta) (hb : PE X b tb) : PE X (.IfExp c a b pos) (tIf tA ta tb) := by
  intro pins s σ H Q I h
  refine wpAny_IfExp (thn (hc pins s σ H _ I h) fun d s1 ⟨H1, I1, q1⟩ => ?_)
  cases d with
  | true => exact ha pins s1 σ H1 Q I1 q1
  | false => exact hb pins s1 σ H1 Q I1 q1
end
end L2

namespace L2
open PySem PySem.Spec PyProof.Rows

/-! ### a list, a tuple that is read: tracked, frozen, or an object of the module -/
def SqL (K : PySem.W.Frag) (H : Hp) (a : Addr) (xs : List V) : Prop :=
  Rd H a (.lst xs) ∨
    ∃ (o : Obj) (its : Array Value) (n : Nat), K.lookup a = some o ∧ o.cls = .type "list" ∧ o.dict = none ∧ o.data = .seq its n ∧ its.size ≤ sizeLine ∧ Vals xs its.toList
def SqT (K : PySem.W.Frag) (H : Hp) (a : Addr) (xs : List V) : Prop :=
  Rd H a (.tup xs) ∨
    ∃ (o : Obj) (its : Array Value) (n : Nat), K.lookup a = some o ∧ o.cls = .type "tuple" ∧ o.data = .seq its n ∧ its.size ≤ sizeLine ∧ Vals xs its.toList
def absV : Value → Option V
  | .none => some .non
  | .bool b => some (.bl b)
  | .int i _ => some (.int i)
  | .str x _ => some (.str x)
  | .bytes b _ => some (.byt b)
  | .float b _ => some (.flt b)
  | .ref a => some (.ref a)
  | .type n => some (.ty n)
  | _ => none
theorem RelV.abs {x : V} {u : Value} (r : RelV x u) : absV u = some x := by
  cases x with
  | non => cases r; rfl
  | bl _ => cases r; rfl
  | int _ => obtain ⟨t, rfl⟩ := r; rfl
  | str _ => obtain ⟨t, rfl⟩ := r; rfl
  | byt _ => obtain ⟨t, rfl⟩ := r; rfl
  | flt _ => obtain ⟨t, rfl⟩ := r; rfl
  | ref _ => cases r; rfl
  | ty _ => cases r; rfl
theorem RelV.inj {x y : V} {u : Value} (r : RelV x u) (q : RelV y u) : x = y := Option.some.inj (r.abs.symm.trans q.abs)
theorem Vals.inj : ∀ {xs ys : List V} {us : List Value}, Vals xs us → Vals ys us → xs = ys
  | _, _, _, .nil, .nil => rfl
  | _, _, _, .cons r t, .cons r' t' => by rw [r.inj r', Vals.inj t t']
section
variable {X : Cx} {pins : List (Addr × Obj)} {σ : St} {H : Hp} {s : Shared} {a : Addr} {xs ys : List V}
theorem SqL.of {K : PySem.W.Frag} (h : H a = some (.lst xs)) : SqL K H a xs := .inl (.inl h)
theorem SqT.of {K : PySem.W.Frag} (h : H a = some (.tup xs)) : SqT K H a xs := .inl (.inl h)
theorem Inv.list (I : Inv X pins σ H s) (h : SqL X.K H a xs) : ∃ its : List Value, Vals xs its ∧ PlainL s.heap a its.toArray ∧ xs.length ≤ sizeLine := by
  rcases h with h | ⟨o, its, n, hk, hc, hd, hs, hz, r⟩
  · obtain ⟨z, its, n, r, e⟩ := h.ok I.hok
    exact ⟨its, r, ⟨_, n, e, rfl, rfl, rfl⟩, z⟩
  · refine ⟨its.toList, r, ⟨o, n, I.kIn a o hk, hc, hd, by simpa using hs⟩, ?_⟩
    have e := r.length
    simp only [Array.length_toList] at e
    omega
theorem Inv.tuple (I : Inv X pins σ H s) (h : SqT X.K H a xs) : ∃ its : List Value, Vals xs its ∧ IsTup s.heap a its.toArray ∧ xs.length ≤ sizeLine := by
  rcases h with h | ⟨o, its, n, hk, hc, hs, hz, r⟩
  · obtain ⟨z, its, r, p⟩ := h.ok I.hok
    exact ⟨its, r, p, z⟩
  · refine ⟨its.toList, r, ⟨o, I.kIn a o hk, hc, n, by simpa using hs⟩, ?_⟩
    have e := r.length
    simp only [Array.length_toList] at e
    omega
theorem Inv.list_inj (I : Inv X pins σ H s) (h : SqL X.K H a xs) (h' : SqL X.K H a ys) : xs = ys := by
  obtain ⟨its, r, ⟨o, n, e, _, _, d⟩, _⟩ := I.list h
  obtain ⟨its', r', ⟨o', n', e', _, _, d'⟩, _⟩ := I.list h'
  rw [e] at e'; cases e'
  rw [d] at d'
  injection d' with d1 _
  have : its = its' := by simpa using congrArg Array.toList d1
  subst this
  exact r.inj r'
end

/-! ### another wish about exceptions -/
abbrev Cx.wish (X : Cx) (E : Value → Shared → Prop) : Cx := { X with xe := E }
/-- no exception leaves -/
abbrev Cx.nox (X : Cx) : Cx := X.wish fun _ _ => False
theorem Cx.Ok.wish {X : Cx} (ok : X.Ok) (E : Value → Shared → Prop) : (X.wish E).Ok :=
  ⟨ok.mod, ok.kind, ok.glob, ok.blt, ok.above, ok.inj, ok.has, ok.cab, ok.hd, ok.frames, ok.stk, ok.exf, ok.bs, ok.bsz, ok.noex, ok.exfs, ok.funs, ok.frf⟩
theorem Cx.Ok.unwish {X : Cx} {E : Value → Shared → Prop} (ok : (X.wish E).Ok) : X.Ok :=
  ⟨ok.mod, ok.kind, ok.glob, ok.blt, ok.above, ok.inj, ok.has, ok.cab, ok.hd, ok.frames, ok.stk, ok.exf, ok.bs, ok.bsz, ok.noex, ok.exfs, ok.funs, ok.frf⟩
section
variable {X : Cx} {pins : List (Addr × Obj)} {σ : St} {H : Hp} {s : Shared} {E : Value → Shared → Prop}
theorem Inv.wish (I : Inv X pins σ H s) (E : Value → Shared → Prop) : Inv (X.wish E) pins σ H s := ⟨I.ok.wish E, I.os, I.bare, I.base, I.loc, I.cell, I.free, I.freeC, I.pin, I.hok, I.len⟩
theorem Inv.unwish (I : Inv (X.wish E) pins σ H s) : Inv X pins σ H s := ⟨I.ok.unwish, I.os, I.bare, I.base, I.loc, I.cell, I.free, I.freeC, I.pin, I.hok, I.len⟩
theorem SP.unwish {D : Ends} {f : Flow} {s' : Shared} (h : SP (X.wish E) pins D f s') : SP X pins D f s' := by
  cases f with
  | next => obtain ⟨σ', H', I, q⟩ := h; exact ⟨σ', H', I.unwish, q⟩
  | brk => obtain ⟨σ', H', I, q⟩ := h; exact ⟨σ', H', I.unwish, q⟩
  | cont => obtain ⟨σ', H', I, q⟩ := h; exact ⟨σ', H', I.unwish, q⟩
  | ret u => obtain ⟨v, σ', H', I, r, q⟩ := h; exact ⟨v, σ', H', I.unwish, r, q⟩
theorem PE.nox {e : Expr} {t : TE} (h : PE X.nox e t) : PE X e t := fun pins s σ H Q I hw =>
  wpAny_mono (h pins s σ H Q (I.wish _) hw) (fun _ _ ⟨v, H', I', r, q⟩ => ⟨v, H', I'.unwish, r, q⟩) fun _ _ z => False.elim z
theorem PT.nox {e : Expr} {t : TT} (h : PT X.nox e t) : PT X e t := fun pins s σ H Q I hw =>
  wpAny_mono (h pins s σ H Q (I.wish _) hw) (fun _ _ ⟨H', I', q⟩ => ⟨H', I'.unwish, q⟩) fun _ _ z => False.elim z
theorem PSs.nox {st : List Stmt} {t : TS} (h : PSs X.nox st t) : PSs X st t := fun pins s σ H D I hw =>
  wpAny_mono (h pins s σ H D (I.wish _) hw) (fun _ _ q => q.unwish) fun _ _ z => False.elim z
end

/-! ### blocks and small statements -/
section
variable {X : Cx} {st : Stmt} {rest : List Stmt} {t u : TS} {e : Expr} {te : TE} {pos : Pos}
def tNext : TS := fun D σ H => D.nx σ H
def tSeq (t u : TS) : TS := fun D σ H => t { D with nx := u D } σ H
theorem pss_nil : PSs X [] tNext := fun _ _ σ H _ I h => wpAny_execs_nil ⟨σ, H, I, h⟩
theorem pss_cons (h1 : PS X st t) (h2 : PSs X rest u) : PSs X (st :: rest) (tSeq t u) := by
  intro pins s σ H D I h
  refine wpAny_execs_cons (thn (h1 pins s σ H { D with nx := u D } I h) fun f s1 q => ?_)
  cases f with
  | next =>
    obtain ⟨σ', H', I', q⟩ := q
    exact h2 pins s1 σ' H' D I' q
  | ret v => exact q
  | brk => exact q
  | cont => exact q
theorem pss_one (h1 : PS X st t) : PSs X [st] t := by
  intro pins s σ H D I h
  refine wpAny_execs_cons (thn (h1 pins s σ H D I h) fun f s1 q => ?_)
  cases f with
  | next => exact wpAny_execs_nil q
  | ret v => exact q
  | brk => exact q
  | cont => exact q
/-- in a def's body nothing is shown -/
theorem Inv.quiet {pins : List (Addr × Obj)} {σ : St} {H : Hp} {s : Shared} (I : Inv X pins σ H s) : interactive X.env = false := by simp [interactive, I.ok.kind]
/-- an expression whose value is dropped -/
def tDrop (te : TE) : TS := fun D σ H => te σ H fun _ H1 => D.nx σ H1
theorem ps_expr (he : PE X e te) (hs : swapsWith e none pos.line X.env = pure false := by rfl) : PS X (.Expr e pos) (tDrop te) := by
  intro pins s σ H D I h
  exact wpAny_Expr_any (thn (he pins s σ H _ I h) fun v s1 ⟨x, H1, I1, r1, q1⟩ => ⟨σ, H1, I1, q1⟩) I.quiet hs
def tRet (te : TE) : TS := fun D σ H => te σ H D.rt
theorem ps_ret (he : PE X e te) : PS X (.Return (some e) pos) (tRet te) := by
  intro pins s σ H D I h
  exact wpAny_Return_some (thn (he pins s σ H _ I h) fun v s1 ⟨x, H1, I1, r1, q1⟩ => ⟨x, σ, H1, I1, r1, q1⟩)
def tIfS (c : TT) (t u : TS) : TS := fun D σ H => c σ H fun b H1 => if b = true then t D σ H1 else u D σ H1
theorem ps_if {c : Expr} {a b : List Stmt} {tc : TT} (hc : PT X c tc) (ha : PSs X a t) (hb : PSs X b u) : PS X (.If c a b pos) (tIfS tc t u) := by
  intro pins s σ H D I h
  refine wpAny_If (thn (hc pins s σ H _ I h) fun d s1 ⟨H1, I1, q1⟩ => ?_)
  cases d with
  | true => exact ha pins s1 σ H1 D I1 q1
  | false => exact hb pins s1 σ H1 D I1 q1
end

/-! ### targets -/
abbrev TG := V → St → Hp → (St → Hp → Prop) → Prop
abbrev TGs := List V → St → Hp → (St → Hp → Prop) → Prop
def PG (X : Cx) (target : Expr) (t : TG) : Prop :=
  ∀ (pins : List (Addr × Obj)) (s : Shared) (σ : St) (H : Hp) (v : V) (u : Value) (Q : St → Hp → Prop), Inv X pins σ H s → RelV v u → t v σ H Q →
    wpAny (model X.prog X.w) X.A (assign target X.env u) (fun _ s' => ∃ σ' H', Inv X pins σ' H' s' ∧ Q σ' H') X.xe s
/-- several targets, one after another -/
def PGs (X : Cx) (ts : List Expr) (t : TGs) : Prop :=
  ∀ (pins : List (Addr × Obj)) (s : Shared) (σ : St) (H : Hp) (vs : List V) (us : List Value) (Q : St → Hp → Prop), Inv X pins σ H s → Vals vs us → t vs σ H Q →
    wpAny (model X.prog X.w) X.A (assignInOrder ((assignEach ts X.env).map (·.2)) us) (fun _ s' => ∃ σ' H', Inv X pins σ' H' s' ∧ Q σ' H') X.xe s
/-- o[i] = v, by values -/
abbrev TSet := V → V → V → Hp → (Hp → Prop) → Prop
def PSet (X : Cx) (t : TSet) : Prop :=
  ∀ (pins : List (Addr × Obj)) (s : Shared) (σ : St) (H : Hp) (o i v : V) (ov iv u : Value) (Q : Hp → Prop), Inv X pins σ H s → RelV o ov → RelV i iv → RelV v u → t o i v H Q →
    wpAny (model X.prog X.w) X.A (setItem ov iv u) (fun _ s' => ∃ H', Inv X pins σ H' s' ∧ Q H') X.xe s
section
variable {X : Cx} {pos : Pos}
def gName (i : Nat) : TG := fun v σ H Q => Q (σ.set i (some v)) H
theorem pg_name {i : Nat} {x : Str} (hN : X.N.Nodup) (hi : X.N[i]? = some x) (hx : Loc X.env.scope x) (hf : X.fn x = true ∨ X.env.scope.names.lookup x = some .local := by first | exact .inl rfl | exact .inr rfl | assumption) : PG X (.Name x pos) (gName i) := by
  intro pins s σ H v u Q I r h
  exact wpAny_assign_Name (store_ok I hN hi hx r (fun s' I' => ⟨_, H, I', h⟩) hf)
def gNil : TGs := fun vs σ H Q => vs = [] ∧ Q σ H
def gCons (t : TG) (u : TGs) : TGs := fun vs σ H Q => ∃ v r, vs = v :: r ∧ t v σ H fun σ' H' => u r σ' H' Q
theorem pgs_nil : PGs X [] gNil := by
  intro pins s σ H vs us Q I r h
  obtain ⟨e, h⟩ := h
  subst e
  cases r
  exact assignInOrder_nil ⟨σ, H, I, h⟩
theorem pgs_cons {e : Expr} {es : List Expr} {t : TG} {u : TGs} (h1 : PG X e t) (h2 : PGs X es u)
    (hs : (assignEach (e :: es) X.env).map (·.2) = assign e X.env :: (assignEach es X.env).map (·.2) := by rfl) : PGs X (e :: es) (gCons t u) := by
  intro pins s σ H vs us Q I r h
  obtain ⟨v, vr, e1, h⟩ := h
  subst e1
  cases r with
  | cons r rr =>
    rw [hs]
    refine assignInOrder_cons (thn (h1 pins s σ H _ _ _ I r h) fun _ s1 ⟨σ1, H1, I1, q1⟩ => ?_)
    exact h2 pins s1 σ1 H1 _ _ Q I1 rr q1
/-- (a, b, ..) = a tuple of that length -/
def gTup (K : PySem.W.Frag) (n : Nat) (t : TGs) : TG := fun v σ H Q => ∃ a xs, v = .ref a ∧ SqT K H a xs ∧ xs.length = n ∧ t xs σ H Q
theorem pg_tup {es : List Expr} {k : Nat} {t : TGs} {n : Nat} (hc : X.calm = true) (h : PGs X es t)
    (hn : (assignEach es X.env).length = n := by rfl) (hst : (assignEach es X.env).findIdx? (·.1) = none := by rfl) : PG X (.Tuple es k pos) (gTup X.K n t) := by
  intro pins s σ H v u Q I r hw
  obtain ⟨a, xs, e1, hq, hl, hw⟩ := hw
  subst e1
  cases r
  obtain ⟨its, rv, ht, hz⟩ := I.tuple hq
  refine assign_Tuple_tuple (I.ok.hd hc) ht (by simp [hn, ← hl, rv.length]) hst fun h' hx => ?_
  have I1 : Inv X pins σ H { s with heap := h' } := I.kept (t' := s.toks) fun b o e => hx b o (Nat.ne_of_lt (Heap.lt_size e)) e
  exact h pins _ σ H xs _ Q I1 (by simpa using rv) hw
/-- o[i] = .. -/
def gSub (to ti : TE) (t : TSet) : TG := fun v σ H Q => to σ H fun o H1 => ti σ H1 fun i H2 => t o i v H2 fun H3 => Q σ H3
theorem pg_sub {o i : Expr} {to ti : TE} {t : TSet} (ho : PE X o to) (hi : PE X i ti) (hs : PSet X t)
    (ha : ∀ v, assign (.Subscript o i pos) X.env v = (do
      let ov ← holding [v] (eval o X.env)
      let iv ← holding [v, ov] (eval i X.env)
      standAt pos
      holding [v, ov, iv] (setItem ov iv v)
      release [v, ov, iv] []) := by intro _; rfl) : PG X (.Subscript o i pos) (gSub to ti t) := by
  intro pins s σ H v u Q I r h
  rw [ha]
  refine wpAny_bind (wpAny_holding (thn (ho pins s σ H _ I h) fun ov s1 ⟨x, H1, I1, r1, q1⟩ => ?_))
  refine wpAny_bind (wpAny_holding (thn (hi pins s1 σ H1 _ I1 q1) fun iv s2 ⟨y, H2, I2, r2, q2⟩ => ?_))
  refine wpAny_bind (wpAny_standAt (wpAny_bind (wpAny_holding (thn (hs pins s2 σ H2 x y v ov iv u _ I2 r1 r2 r q2) fun _ s3 ⟨H3, I3, q3⟩ => ?_))))
  exact wpAny_release ⟨σ, H3, I3, q3⟩
/-- target = value -/
def tAsg (te : TE) (g : TG) : TS := fun D σ H => te σ H fun x H1 => g x σ H1 D.nx
theorem ps_asg {tg e : Expr} {te : TE} {g : TG} (he : PE X e te) (hg : PG X tg g) (hs : swapsWithSole [tg] e pos.line X.env = pure false := by rfl) (hw : swappedStores [tg] e X.env = pure none := by rfl)
    (h1 : (assignEach [tg] X.env).map (·.2) = [assign tg X.env] := by rfl) : PS X (.Assign [tg] e pos) (tAsg te g) := by
  intro pins s σ H D I h
  refine wpAny_Assign_stores (thn (he pins s σ H _ I h) fun v s1 ⟨x, H1, I1, r1, q1⟩ => ?_) hs hw
  rw [h1]
  exact thn (hg pins s1 σ H1 x v _ I1 r1 q1) fun _ s2 q => q
/-- name = value -/
theorem ps_set {i : Nat} {x : Str} {e : Expr} {te : TE} {pos' : Pos} (hN : X.N.Nodup) (hi : X.N[i]? = some x) (hx : Loc X.env.scope x) (he : PE X e te) (hs : swapsWith e (some (.Name x pos')) pos.line X.env = pure false := by rfl) (hf : X.fn x = true ∨ X.env.scope.names.lookup x = some .local := by first | exact .inl rfl | exact .inr rfl | assumption) :
    PS X (.Assign [.Name x pos'] e pos) (tAsg te (gName i)) := by
  intro pins s σ H D I h
  refine wpAny_Assign_Name (thn (he pins s σ H _ I h) fun v s1 ⟨y, H1, I1, r1, q1⟩ => ?_) hs
  exact store_ok I1 hN hi hx r1 (fun s2 I2 => ⟨_, H1, I2, q1⟩) hf
end

/-! ### while -/
section
variable {X : Cx} {pos : Pos}
end

/-! ### what a loop or a comprehension walks -/
/-- at turn i: it yields x (the heap may grow), or it stops -/
structure It where
  go : Nat → Hp → Prop
  yld : Nat → Hp → V → Hp → Prop
  stop : Nat → Hp → Prop
/-- the iterator's own objects may turn: they are not the frame's, not pinned, younger than the entry (or a comprehension's own) -/
def FpOk (X : Cx) (pins : List (Addr × Obj)) (H : Hp) (b : Addr) : Prop :=
  H b = none ∧ b ≠ X.env.locals ∧ b ∉ X.fs ∧ (b ∈ X.ex ∨ X.s₀.heap.objs.size ≤ b) ∧ (∀ x c, X.env.cells.lookup x = some c → c ≠ b) ∧ ∀ p ∈ X.pn ++ pins, p.1 ≠ b
theorem Inv.fpOk {X : Cx} {pins : List (Addr × Obj)} {σ : St} {H H' : Hp} {s : Shared} {b : Addr} (I : Inv X pins σ H s) (hb : s.heap.objs.size ≤ b) (hn : H' b = none) : FpOk X pins H' b := by
  refine ⟨hn, Nat.ne_of_gt (Nat.lt_of_lt_of_le I.lt hb), I.nofs hb, .inr (Nat.le_trans I.sz hb), fun x c e z => ?_, fun p hp z => ?_⟩
  · obtain ⟨v, q⟩ := I.cell x c e
    exact absurd (Nat.lt_of_lt_of_le q.lt (by rw [z]; exact hb)) (Nat.lt_irrefl _)
  · exact absurd (Nat.lt_of_lt_of_le (Heap.lt_size (I.pin p hp).1) (by rw [z]; exact hb)) (Nat.lt_irrefl _)
structure Turn (P : Program) (w : World) (K : PySem.W.Frag) (tg : Expr) (J : It) (fp : List Addr) (it : Addr) (tn : Nat → Heap → Prop) : Prop where
  mem : it ∈ fp
  obj : ∀ i h, tn i h → ∀ b ∈ fp, ∃ o, h.get? b = some o ∧ ∀ v, o.data ≠ .cell v
  keep : ∀ i h h', tn i h → (∀ b ∈ fp, ∀ o, h.get? b = some o → h'.get? b = some o) → tn i h'
  item : ∀ (X : Cx), X.prog = P → X.w = w → X.K = K → X.calm = true → ∀ (i : Nat) (pins : List (Addr × Obj)) (s : Shared) (σ : St) (H : Hp) (E : Value → Shared → Prop), Inv X pins σ H s → (∀ b ∈ fp, FpOk X pins H b) → tn i s.heap → J.go i H →
    wpAny (model P w) X.A (pyNext (.ref it)) (fun r s1 => ∃ u, r = some u ∧
      wpAny (model P w) X.A (letOwnedTupleGo tg (.ref it) u) (fun _ s2 => ∃ x H', Inv X pins σ H' s2 ∧ RelV x u ∧ J.yld i H x H' ∧ tn (i + 1) s2.heap ∧ ∀ b ∈ fp, H' b = none) E s1) E s
  done : ∀ (X : Cx), X.prog = P → X.w = w → X.K = K → X.calm = true → ∀ (i : Nat) (pins : List (Addr × Obj)) (s : Shared) (σ : St) (H : Hp) (E : Value → Shared → Prop), Inv X pins σ H s → (∀ b ∈ fp, FpOk X pins H b) → tn i s.heap → J.stop i H →
    wpAny (model P w) X.A (pyNext (.ref it)) (fun r s1 => r = none ∧ Inv X pins σ H s1) E s
  self : ∀ (A : Around) (i : Nat) (s : Shared) (Q : Value → Shared → Prop) (E : Value → Shared → Prop), tn i s.heap → Q (.ref it) s → wpAny (model P w) A (pyIter (.ref it)) Q E s
abbrev TI := St → Hp → (It → Hp → Prop) → Prop
/-- an iterator has come -/
def PIE (X : Cx) (pins : List (Addr × Obj)) (σ : St) (tg : Expr) (R : It → Hp → Prop) (itv : Value) (s2 : Shared) : Prop :=
  ∃ (it : Addr) (fp : List Addr) (tn : Nat → Heap → Prop) (J : It) (H' : Hp), itv = .ref it ∧ Inv X pins σ H' s2 ∧ Turn X.prog X.w X.K tg J fp it tn ∧ tn 0 s2.heap ∧ (∀ b ∈ fp, FpOk X pins H' b) ∧ R J H'
def PI (X : Cx) (tg iter : Expr) (wi : TI) : Prop :=
  ∀ (pins : List (Addr × Obj)) (s : Shared) (σ : St) (H : Hp) (R : It → Hp → Prop), Inv X pins σ H s → wi σ H R →
    wpAny (model X.prog X.w) X.A (eval iter X.env) (fun v s1 => wpAny (model X.prog X.w) X.A (pyIter v) (PIE X pins σ tg R) X.xe s1) X.xe s

/-- the step ahead of the store is nothing for an iterator that keeps no tuple -/
theorem go_of {M : Model} {A : Around} {E : Value → Shared → Prop} {s : Shared} {tg : Expr} {it : Addr} {u : Value} {o : Obj} {n : String} {vs : Array Value} {Q : Unit → Shared → Prop} (ho : s.heap.get? it = some o) (hc : o.cls = .type n) (hd : o.data = .fields vs)
    (hn : ["enumerate", "zip", "dict_itemiterator", "dict_reverseitemiterator", "odict_iterator", "itertools.zip_longest", "itertools.pairwise"].contains n = false) (hQ : Q () s) : wpAny M A (letOwnedTupleGo tg (.ref it) u) Q E s := by
  unfold letOwnedTupleGo
  cases tg <;> first
    | exact wpAny_pure hQ
    | (cases u <;> first
        | exact wpAny_pure hQ
        | (refine wpAny_bind (wpAny_load ho ?_)
           rw [hc, hd]
           show wpAny M A (if (["enumerate", "zip", "dict_itemiterator", "dict_reverseitemiterator", "odict_iterator", "itertools.zip_longest", "itertools.pairwise"].contains n && vs[0]? == some (rawInt _)) = true then _ else _) Q E s
           rw [if_neg (by intro h; rw [hn, Bool.false_and] at h; cases h)]
           exact wpAny_pure hQ))

/-- the list at a, as it stands at each turn (a loop may append to it) -/
def Itl (K : PySem.W.Frag) (a : Addr) : It :=
  ⟨fun i H => ∃ xs x, SqL K H a xs ∧ xs[i]? = some x, fun i H x H' => H' = H ∧ ∀ xs, SqL K H a xs → xs[i]? = some x, fun i H => ∃ xs, SqL K H a xs ∧ xs.length ≤ i⟩
/-- lo, lo + 1, .. (n of them) -/
def Itr (lo : Int) (n : Nat) : It := ⟨fun i _ => i < n, fun i H x H' => H' = H ∧ x = .int (lo + i), fun i _ => n ≤ i⟩
theorem turn_list {P : Program} {w : World} {K : PySem.W.Frag} {tg : Expr} (a it : Addr) : Turn P w K tg (Itl K a) [it] it (fun i h => h.IsListIter it a i) where
  mem := by simp
  obj := fun i h st b hb => by
    have e : b = it := by simpa using hb
    subst e
    obtain ⟨o, e, c, d⟩ := st
    exact ⟨o, e, fun v z => by rw [d] at z; cases z⟩
  keep := fun i h h' st k => st.at fun o e => k it (by simp) o e
  item := by
    intro X hP hw hK hc i pins s σ H E I hf st hg
    subst hP hw hK
    obtain ⟨xs, x, hq, hx⟩ := hg
    obtain ⟨its, rv, p, hz⟩ := I.list hq
    obtain ⟨u, hu, ru⟩ := rv.get hx
    obtain ⟨f0, f1, f2, f3, f4, f5⟩ := hf it (by simp)
    refine wpAny_pyNext_list_item st p.isList (x := u) (by simpa using hu) fun h' st' sb => ?_
    have I1 : Inv X pins σ H { s with heap := h' } := I.turned (t' := s.toks) (fun b o hb e => (sb.2 b hb).trans e) f0 f1 f3 f4 f5
    obtain ⟨o, e, c, d⟩ := id st'
    exact ⟨u, rfl, go_of (s := { s with heap := h' }) e c d (by decide) ⟨x, H, I1, ru, ⟨rfl, fun ys hy => by rw [I.list_inj hy hq]; exact hx⟩, st', fun b hb => (hf b hb).1⟩⟩
  done := by
    intro X hP hw hK hc i pins s σ H E I hf st hg
    subst hP hw hK
    obtain ⟨xs, hq, hx⟩ := hg
    obtain ⟨its, rv, p, hz⟩ := I.list hq
    obtain ⟨f0, f1, f2, f3, f4, f5⟩ := hf it (by simp)
    have hl := rv.length
    exact wpAny_pyNext_list_end (I.ok.hd hc) st p.isList (by simp; omega) fun h' eb => ⟨rfl, I.turned (t' := s.toks) (fun b o hb e => eb b o hb e) f0 f1 f3 f4 f5⟩
  self := fun _ _ _ _ _ st h => wpAny_pyIter_listiter st h
theorem turn_range {P : Program} {w : World} {K : PySem.W.Frag} {tg : Expr} (it : Addr) (lo : Int) (n : Nat) : Turn P w K tg (Itr lo n) [it] it (fun i h => IsRangeIter h it (lo + (i : Nat) * 1) ((n : Int) - (i : Nat)) 1) where
  mem := by simp
  obj := fun i h st b hb => by
    have e : b = it := by simpa using hb
    subst e
    exact ⟨_, st, fun v z => by
      have z' : Data.fields _ = Data.cell v := z
      cases z'⟩
  keep := fun i h h' st k => k it (by simp) _ st
  item := by
    intro X hP hw hK hc i pins s σ H E I hf st hg
    subst hP hw hK
    obtain ⟨f0, f1, f2, f3, f4, f5⟩ := hf it (by simp)
    have W := Walks.range (prog := X.prog) (w := X.w) (I.ok.hd hc) it lo 1 n
    refine W.item i s _ _ hg st fun v h' tk hv st' kk => ?_
    obtain ⟨t, rfl⟩ := hv
    have I1 : Inv X pins σ H { s with heap := h', toks := tk } := I.turned (fun b o hb e => kk b o (by simpa using hb) e) f0 f1 f3 f4 f5
    refine ⟨_, rfl, go_of (s := { s with heap := h', toks := tk }) (n := "range_iterator") st' rfl rfl (by decide) ⟨.int (lo + i), H, I1, ⟨t, ?_⟩, ⟨rfl, rfl⟩, st', fun b hb => (hf b hb).1⟩⟩
    rw [Int.mul_one]
  done := by
    intro X hP hw hK hc i pins s σ H E I hf st hg
    subst hP hw hK
    obtain ⟨f0, f1, f2, f3, f4, f5⟩ := hf it (by simp)
    exact wpAny_pyNext_range_end (I.ok.hd hc) st (by have : n ≤ i := hg; omega) fun h' eb => ⟨rfl, I.turned (t' := s.toks) (fun b o hb e => eb b o hb e) f0 f1 f3 f4 f5⟩
  self := fun _ _ _ _ _ st h => wpAny_pyIter_rangeiter st h
end L2

namespace L2
open PySem PySem.Spec PyProof.Rows
section
variable {X : Cx} {tg : Expr}
def iList (K : PySem.W.Frag) (tl : TE) : TI := fun σ H R => tl σ H fun x H1 => ∃ a, x = .ref a ∧ (∃ xs, SqL K H1 a xs) ∧ R (Itl K a) H1
theorem pi_list {l : Expr} {tl : TE} (hl : PE X l tl) : PI X tg l (iList X.K tl) := by
  intro pins s σ H R I h
  refine thn (hl pins s σ H _ I h) fun v s1 ⟨x, H1, I1, r1, q1⟩ => ?_
  obtain ⟨a, e, ⟨xs, hq⟩, q⟩ := q1
  subst e
  cases r1
  obtain ⟨its, rv, p, hz⟩ := I1.list hq
  refine wpAny_pyIter_list p.isList ?_
  refine ⟨s1.heap.objs.size, [s1.heap.objs.size], _, _, H1, rfl, I1.kept (t' := s1.toks) fun b o e => Heap.get?_push_of_some _ e, turn_list a _, ⟨_, Heap.get?_push_size _ rfl, rfl, rfl⟩, fun b hb => ?_, q⟩
  have e : b = s1.heap.objs.size := by simpa using hb
  subst e
  exact I1.fpOk (Nat.le_refl _) (I1.hok.fresh (Nat.le_refl _))
/-- a range object just made, walked -/
theorem range_it {pins : List (Addr × Obj)} {σ : St} {H : Hp} {s : Shared} {R : It → Hp → Prop} {E : Value → Shared → Prop} {lo hi : Int} {t u v : Tok} {tk : Nat} (I : Inv X pins σ H s) (h1 : -(2 ^ 62) ≤ lo) (h2 : lo < 2 ^ 62) (h3 : -(2 ^ 62) ≤ hi) (h4 : hi < 2 ^ 62)
    (q : R (Itr lo (hi - lo).toNat) H) : wpAny (model X.prog X.w) X.A (pyIter (.ref s.heap.objs.size)) (PIE X pins σ tg R) E { s with heap := s.heap.push { cls := .type "range", data := .fields #[.int lo t, .int hi u, .int 1 v] }, toks := tk } := by
  refine wpAny_pyIter_range (IsRange.new ..) (small_one h1 h2 h3 h4) ?_
  have I1 : Inv X pins σ H { s with heap := s.heap.push { cls := .type "range", data := .fields #[.int lo t, .int hi u, .int 1 v] }, toks := tk } := I.kept fun b o e => Heap.get?_push_of_some _ e
  refine ⟨(s.heap.push { cls := .type "range", data := .fields #[.int lo t, .int hi u, .int 1 v] }).objs.size, [(s.heap.push { cls := .type "range", data := .fields #[.int lo t, .int hi u, .int 1 v] }).objs.size], _, _, H, rfl,
    I1.kept (t' := tk) fun b o e => Heap.get?_push_of_some _ e, turn_range _ lo (hi - lo).toNat, ?_, fun b hb => ?_, q⟩
  · have e1 : lo + ((0 : Nat) : Int) * 1 = lo := by simp
    have e2 : (((hi - lo).toNat : Nat) : Int) - ((0 : Nat) : Int) = Builtin.Range.rangeSize lo hi 1 := by rw [rangeSize_one]; split <;> omega
    show IsRangeIter _ _ (lo + ((0 : Nat) : Int) * 1) ((((hi - lo).toNat : Nat) : Int) - ((0 : Nat) : Int)) 1
    rw [e1, e2]
    exact Heap.get?_push_size _ rfl
  · have e : b = (s.heap.push { cls := .type "range", data := .fields #[.int lo t, .int hi u, .int 1 v] }).objs.size := by simpa using hb
    subst e
    exact I1.fpOk (Nat.le_refl _) (I1.hok.fresh (Nat.le_refl _))
def iRng1 (ta : TA) : TI := fun σ H R => ta σ H fun vs H1 => ∃ j : Int, vs = [.int j] ∧ -(2 ^ 62) ≤ j ∧ j < 2 ^ 62 ∧ R (Itr 0 j.toNat) H1
theorem pi_range1 {a : Expr} {ta : TA} {p pos : Pos} (hg : Gl X "range") (hm : X.mg "range" = none) (ha : PA X [a] ta) (hs : starEach [a] X.env = [(false, eval a X.env)] := by rfl) : PI X tg (.Call (.Name "range" p) [a] [] pos) (iRng1 ta) := by
  intro pins s σ H R I h
  refine Call_ (ld_blt I hg hm boot_range (PyProof.Rows.callWith_type1 (thn (ha pos pins s σ H _ I h) fun us s1 ⟨vs, H1, I1, r1, q1⟩ => ?_) hs rfl))
  obtain ⟨j, e, q1, q2, q⟩ := q1
  subst e
  cases r1 with
  | cons r rr =>
    cases rr
    obtain ⟨t, rfl⟩ := r
    exact call_range_1 (range_it I1 (by omega) (by omega) q1 q2 (by simpa using q))
/-! ### for -/
/-- W: the invariant by the turn and a measure; N: what the body is to reach -/
def tFor (wi : TI) (g : TG) (tb : TS) : TS := fun D σ H => wi σ H fun J H1 => ∃ W : Nat → Nat → St → Hp → Prop, (∃ m, W 0 m σ H1) ∧ ∀ i m σ H, W i m σ H →
  (J.stop i H ∧ D.nx σ H) ∨ (J.go i H ∧ ∃ N : St → Hp → Prop, (∀ σ' H', N σ' H' → ∃ m', m' < m ∧ W (i + 1) m' σ' H') ∧ ∀ x H', J.yld i H x H' → g x σ H' fun σ2 H2 => tb { D with nx := N, ct := N, bk := D.nx } σ2 H2)
/-- the records at fp as they stand -/
def pinsAt (fp : List Addr) (h : Heap) : List (Addr × Obj) := fp.filterMap fun b => (h.get? b).map fun o => (b, o)
theorem mem_pinsAt {fp : List Addr} {h : Heap} {b : Addr} {o : Obj} (hb : b ∈ fp) (e : h.get? b = some o) : (b, o) ∈ pinsAt fp h := List.mem_filterMap.mpr ⟨b, hb, by rw [e]; rfl⟩
theorem of_pinsAt {fp : List Addr} {h : Heap} {p : Addr × Obj} (hp : p ∈ pinsAt fp h) : p.1 ∈ fp ∧ h.get? p.1 = some p.2 := by
  obtain ⟨b, hb, e⟩ := List.mem_filterMap.mp hp
  cases q : h.get? b with
  | none => rw [q] at e; cases e
  | some o =>
    rw [q] at e
    have e' : (b, o) = p := Option.some.inj e
    subst e'
    exact ⟨hb, q⟩
theorem Inv.pinned {pins : List (Addr × Obj)} {σ : St} {H : Hp} {s : Shared} {fp : List Addr} (I : Inv X pins σ H s) (hf : ∀ b ∈ fp, FpOk X pins H b) (ho : ∀ b ∈ fp, ∃ o, s.heap.get? b = some o ∧ ∀ v, o.data ≠ .cell v) : Inv X (pins ++ pinsAt fp s.heap) σ H s :=
  I.pins_of fun p hp => (List.mem_append.mp hp).elim (fun z => I.pin p (List.mem_append_right _ z)) fun z => by
    obtain ⟨hb, e⟩ := of_pinsAt z
    obtain ⟨f0, f1, f2, _⟩ := hf p.1 hb
    obtain ⟨o, e', d⟩ := ho p.1 hb
    rw [e] at e'; cases e'
    exact ⟨e, f0, f1, f2, d⟩
theorem Inv.unpinned {pins pl : List (Addr × Obj)} {σ : St} {H : Hp} {s : Shared} (I : Inv X (pins ++ pl) σ H s) : Inv X pins σ H s := I.pins_of fun p hp => I.pin p (List.mem_append_right _ (List.mem_append_left _ hp))
theorem ps_for {iter : Expr} {body : List Stmt} {wi : TI} {g : TG} {tb : TS} {pos : Pos} (hp : PassesOwn (model X.prog X.w) X.A X.env X.xe) (hc : X.calm = true) (hi : PI X tg iter wi) (hg : PG X tg g) (hb : PSs X body tb)
    (hs : ∀ x, foldedSetIterable iter X.env x = pure x := by intro _; rfl) : PS X (.For tg iter body [] pos) (tFor wi g tb) := by
  intro pins s σ H D I h
  refine wpAny_For (thn (hi pins s σ H _ I h) fun v s1 h1 => thn h1 fun itv s2 h2 => ?_) hs
  obtain ⟨it, fp, tn, J, H2, e, I2, T, st2, f2, W, ⟨m0, w0⟩, turn⟩ := h2
  subst e
  -- what stays true of the iterator's objects through the loop
  have stat : ∀ {H' : Hp}, (∀ b ∈ fp, H' b = none) → ∀ b ∈ fp, FpOk X pins H' b := fun hn b hb => ⟨hn b hb, (f2 b hb).2⟩
  refine codeAny_forLoop_any (fun n s' => ∃ i σ' H', Inv X pins σ' H' s' ∧ tn i s'.heap ∧ (∀ b ∈ fp, H' b = none) ∧ W i n σ' H') ?_ m0 ⟨0, σ, H2, I2, st2, fun b hb => (f2 b hb).1, w0⟩
  rintro n s3 ⟨i, σ3, H3, I3, st3, fr3, w3⟩
  rcases turn i n σ3 H3 w3 with ⟨stop, qn⟩ | ⟨go, N, hN, step⟩
  · refine wpAny_passesOwn hp (thn (T.done X rfl rfl rfl hc i pins s3 σ3 H3 X.xe I3 (stat fr3) st3 stop) fun r s4 ⟨hr, I4⟩ => ?_)
    subst hr
    exact wpAny_execs_nil ⟨σ3, H3, I4, qn⟩
  · refine wpAny_passesOwn hp (thn (T.item X rfl rfl rfl hc i pins s3 σ3 H3 X.xe I3 (stat fr3) st3 go) fun r s4 ⟨u, hr, h4⟩ => ?_)
    subst hr
    refine wpAny_passesOwn hp (thn h4 fun _ s5 ⟨x, H5, I5, r5, y5, st5, fr5⟩ => ?_)
    have I5' := I5.pinned (stat fr5) (T.obj _ _ st5)
    refine wpAny_passesOwn hp (thn (hg _ s5 σ3 H5 x u _ I5' r5 (step x H5 y5)) fun _ s6 ⟨σ6, H6, I6, q6⟩ => ?_)
    refine wpAny_passesOwn hp (thn (hb _ s6 σ6 H6 _ I6 q6) fun f s7 q7 => ?_)
    have again : ∀ {σ7 : St} {H7 : Hp}, Inv X (pins ++ pinsAt fp s5.heap) σ7 H7 s7 → N σ7 H7 → ∃ m, m < n ∧ ∃ i σ' H', Inv X pins σ' H' s7 ∧ tn i s7.heap ∧ (∀ b ∈ fp, H' b = none) ∧ W i m σ' H' := fun {σ7 H7} I7 n7 => by
      obtain ⟨m', hm, w7⟩ := hN σ7 H7 n7
      refine ⟨m', hm, i + 1, σ7, H7, I7.unpinned, T.keep _ _ _ st5 fun b hb o e => (I7.pin (b, o) (List.mem_append_right _ (List.mem_append_right _ (mem_pinsAt hb e)))).1, fun b hb => ?_, w7⟩
      obtain ⟨o, e, d⟩ := T.obj _ _ st5 b hb
      exact (I7.pin (b, o) (List.mem_append_right _ (List.mem_append_right _ (mem_pinsAt hb e)))).2.1
    cases f with
    | next => obtain ⟨σ7, H7, I7, n7⟩ := q7; exact again I7 n7
    | cont => obtain ⟨σ7, H7, I7, n7⟩ := q7; exact again I7 n7
    | brk => obtain ⟨σ7, H7, I7, q7⟩ := q7; exact ⟨σ7, H7, I7.unpinned, q7⟩
    | ret v => obtain ⟨x7, σ7, H7, I7, r7, q7⟩ := q7; exact ⟨x7, σ7, H7, I7.unpinned, r7, q7⟩
end

/-! ### the forms one uses -/
end L2

namespace L2
open PySem PySem.Spec PyProof.Rows

abbrev R2 := V → V → Hp → VK → Prop
/-- a two-place operation on values: f is binaryOp op, inplaceOp op or compareOp op -/
def OpR (X : Cx) (f : Value → Value → Sem Value) (r : R2) : Prop :=
  ∀ (pins : List (Addr × Obj)) (s : Shared) (σ : St) (H : Hp) (x y : V) (v u : Value) (Q : VK), Inv X pins σ H s → RelV x v → RelV y u → r x y H Q →
    wpAny (model X.prog X.w) X.A (f v u) (EP X pins σ Q) X.xe s
/-- a one-place operation -/
def UnR (X : Cx) (f : Value → Sem Value) (r : V → Hp → VK → Prop) : Prop :=
  ∀ (pins : List (Addr × Obj)) (s : Shared) (σ : St) (H : Hp) (x : V) (v : Value) (Q : VK), Inv X pins σ H s → RelV x v → r x H Q →
    wpAny (model X.prog X.w) X.A (f v) (EP X pins σ Q) X.xe s
/-- a call of a value that is known (a builtin, a type) with values -/
def CallR (X : Cx) (f : Value) (r : List V → Hp → VK → Prop) : Prop :=
  ∀ (pins : List (Addr × Obj)) (s : Shared) (σ : St) (H : Hp) (xs : List V) (us : List Value) (Q : VK), Inv X pins σ H s → Vals xs us → r xs H Q →
    wpAny (model X.prog X.w) X.A (call f us) (EP X pins σ Q) X.xe s
/-- a value's truth -/
def TruR (X : Cx) (r : V → Hp → (Bool → Hp → Prop) → Prop) : Prop :=
  ∀ (pins : List (Addr × Obj)) (s : Shared) (σ : St) (H : Hp) (x : V) (v : Value) (Q : Bool → Hp → Prop), Inv X pins σ H s → RelV x v → r x H Q →
    wpAny (model X.prog X.w) X.A (truthy v) (TP X pins σ Q) X.xe s

def tOp (r : R2) (ta tb : TE) : TE := fun σ H Q => ta σ H fun x H1 => tb σ H1 fun y H2 => r x y H2 Q
def tUn (r : V → Hp → VK → Prop) (ta : TE) : TE := fun σ H Q => ta σ H fun x H1 => r x H1 Q
/-- ints in, under C, and a value out -/
def rI (C : Int → Int → Prop) (g : Int → Int → V) : R2 := fun x y H Q => ∃ i j, x = .int i ∧ y = .int j ∧ C i j ∧ Q (g i j) H
def rI0 (g : Int → Int → V) : R2 := fun x y H Q => ∃ i j, x = .int i ∧ y = .int j ∧ Q (g i j) H
def rU (g : Int → V) : V → Hp → VK → Prop := fun x H Q => ∃ i, x = .int i ∧ Q (g i) H

section
variable {X : Cx} {a b c : Expr} {ta tb tc : TE} {pos : Pos}

theorem binT (ha : PE X a ta) (hb : PE X b tb) {pins : List (Addr × Obj)} {s : Shared} {σ : St} {H : Hp} {R : V → V → Hp → Prop} (I : Inv X pins σ H s)
    (h : ta σ H fun x H1 => tb σ H1 fun y H2 => R x y H2) {Q : Value → Shared → Prop} {f : Value → Value → Sem Value}
    (hf : ∀ v u s2 x y H2, Inv X pins σ H2 s2 → RelV x v → RelV y u → R x y H2 → wpAny (model X.prog X.w) X.A (f v u) Q X.xe s2) :
    wpAny (model X.prog X.w) X.A (eval a X.env) (fun v s₁ => wpAny (model X.prog X.w) X.A (eval b X.env) (fun u s₂ => wpAny (model X.prog X.w) X.A (f v u) Q X.xe s₂) X.xe s₁) X.xe s := by
  refine thn (ha pins s σ H _ I h) fun v s1 ⟨x, H1, I1, r1, q1⟩ => ?_
  refine thn (hb pins s1 σ H1 _ I1 q1) fun u s2 ⟨y, H2, I2, r2, q2⟩ => ?_
  exact hf v u s2 x y H2 I2 r1 r2 q2

theorem pe_op {op : Operator} {r : R2} (ho : OpR X (binaryOp op) r) (ha : PE X a ta) (hb : PE X b tb) : PE X (.BinOp a op b pos) (tOp r ta tb) := by
  intro pins s σ H Q I h
  exact wpAny_BinOp (binT ha hb I h fun v u s2 x y H2 I2 rx ry q => ho pins s2 σ H2 x y v u Q I2 rx ry q)
theorem pe_un {op : UnaryOp} {r : V → Hp → VK → Prop} (ho : UnR X (unaryOp op) r) (ha : PE X a ta) : PE X (.UnaryOp op a pos) (tUn r ta) := by
  intro pins s σ H Q I h
  exact UnaryOp_ (thn (ha pins s σ H _ I h) fun v s1 ⟨x, H1, I1, r1, q1⟩ => ho pins s1 σ H1 x v Q I1 r1 q1)
/-! ### ints -/
theorem opI {f : Value → Value → Sem Value} {C : Int → Int → Prop} {g : Int → Int → Int}
    (rule : ∀ (i j : Int) (t u : Tok) (s : Shared) (Q : Value → Shared → Prop) (E : Value → Shared → Prop), C i j → Q (.int (g i j) s.toks) { s with toks := s.toks + 1 } → wpAny (model X.prog X.w) X.A (f (.int i t) (.int j u)) Q E s) :
    OpR X f (rI C fun i j => .int (g i j)) := by
  intro pins s σ H x y v u Q I rx ry h
  obtain ⟨i, j, rfl, rfl, hc, q⟩ := h
  obtain ⟨t, rfl⟩ := rx
  obtain ⟨t', rfl⟩ := ry
  exact rule i j t t' s _ _ hc ⟨.int (g i j), H, I.tok _, ⟨_, rfl⟩, q⟩
theorem opI0 {f : Value → Value → Sem Value} {g : Int → Int → Int}
    (rule : ∀ (i j : Int) (t u : Tok) (s : Shared) (Q : Value → Shared → Prop) (E : Value → Shared → Prop), Q (.int (g i j) s.toks) { s with toks := s.toks + 1 } → wpAny (model X.prog X.w) X.A (f (.int i t) (.int j u)) Q E s) :
    OpR X f (rI0 fun i j => .int (g i j)) := by
  intro pins s σ H x y v u Q I rx ry h
  obtain ⟨i, j, rfl, rfl, q⟩ := h
  obtain ⟨t, rfl⟩ := rx
  obtain ⟨t', rfl⟩ := ry
  exact rule i j t t' s _ _ ⟨.int (g i j), H, I.tok _, ⟨_, rfl⟩, q⟩
theorem opB0 {f : Value → Value → Sem Value} {g : Int → Int → Bool}
    (rule : ∀ (i j : Int) (t u : Tok) (s : Shared) (Q : Value → Shared → Prop) (E : Value → Shared → Prop), Q (.bool (g i j)) s → wpAny (model X.prog X.w) X.A (f (.int i t) (.int j u)) Q E s) :
    OpR X f (rI0 fun i j => .bl (g i j)) := by
  intro pins s σ H x y v u Q I rx ry h
  obtain ⟨i, j, rfl, rfl, q⟩ := h
  obtain ⟨t, rfl⟩ := rx
  obtain ⟨t', rfl⟩ := ry
  exact rule i j t t' s _ _ ⟨.bl (g i j), H, I, rfl, q⟩

def CDiv (i j : Int) : Prop := 0 < j ∧ j < 1073741824
def CPow (i j : Int) : Prop := 0 ≤ j ∧ j ≤ 1000000 ∧ i.natAbs < 2 ^ 64
def CMul (i j : Int) : Prop := (-(2 ^ 64) < i ∧ i < 2 ^ 64) ∨ (-(2 ^ 64) < j ∧ j < 2 ^ 64)
theorem CMul.ok {i j : Int} (h : CMul i j) : IntMulOk i j := by
  rcases h with ⟨h1, h2⟩ | ⟨h1, h2⟩
  · exact .of_left (intBits_le_64 h1 h2)
  · exact .of_right (intBits_le_64 h1 h2)
theorem op_add : OpR X (binaryOp .Add) (rI0 fun i j => .int (i + j)) := opI0 fun _ _ _ _ _ _ _ q => add_int q
theorem op_sub : OpR X (binaryOp .Sub) (rI0 fun i j => .int (i - j)) := opI0 fun _ _ _ _ _ _ _ q => sub_int q
theorem op_mul : OpR X (binaryOp .Mult) (rI CMul fun i j => .int (i * j)) := opI fun _ _ _ _ _ _ _ hc q => mul_int q hc.ok
/-- // by a positive divisor -/
theorem op_fdiv : OpR X (binaryOp .FloorDiv) (rI CDiv fun i j => .int (i / j)) := opI fun i j _ _ _ _ _ hc q => by
  have h1 : (0 : Int) < j := hc.1
  have h2 : j < 1073741824 := hc.2
  exact floordiv_int (by omega) (by rw [Int.fdiv_eq_ediv_of_nonneg i (by omega)]; exact q) (.inl (PyProof.noPylong_small (by omega)))
/-- % by a positive divisor of any size -/
theorem op_mod : OpR X (binaryOp .Mod) (rI (fun _ j => 0 < j) fun i j => .int (i % j)) := opI fun i j _ _ _ _ _ hc q => by
  have h1 : (0 : Int) < j := hc
  exact mod_int' (by omega) (by rw [Int.fmod_eq_emod_of_nonneg i (by omega)]; exact q)
theorem op_pow : OpR X (binaryOp .Pow) (rI CPow fun i j => .int (i ^ j.toNat)) := opI fun _ _ _ _ _ _ _ hc q => pow_int_small hc.1 hc.2.1 hc.2.2 q
theorem op_and : OpR X (binaryOp .BitAnd) (rI0 fun i j => .int (Builtin.bitAnd i j)) := opI0 fun _ _ _ _ _ _ _ q => and_int q
theorem op_or : OpR X (binaryOp .BitOr) (rI0 fun i j => .int (Builtin.bitOr i j)) := opI0 fun _ _ _ _ _ _ _ q => or_int q
theorem unI {f : Value → Sem Value} {g : Int → Int}
    (rule : ∀ (i : Int) (t : Tok) (s : Shared) (Q : Value → Shared → Prop) (E : Value → Shared → Prop), Q (.int (g i) s.toks) { s with toks := s.toks + 1 } → wpAny (model X.prog X.w) X.A (f (.int i t)) Q E s) :
    UnR X f (rU fun i => .int (g i)) := by
  intro pins s σ H x v Q I rx h
  obtain ⟨i, rfl, q⟩ := h
  obtain ⟨t, rfl⟩ := rx
  exact rule i t s _ _ ⟨.int (g i), H, I.tok _, ⟨_, rfl⟩, q⟩
theorem un_neg : UnR X (unaryOp .USub) (rU fun i => .int (-i)) := unI fun _ _ _ _ _ q => neg_int q
theorem un_inv : UnR X (unaryOp .Invert) (rU fun i => .int (Builtin.bitNot i)) := unI fun _ _ _ _ _ q => invert_int q

/-! ### bools among ints: n += (a < b) -/
end

/-! ### comparisons -/
section
variable {X : Cx} {a b c : Expr} {ta tb tc : TE} {pos : Pos}
theorem fin_bl {pins : List (Addr × Obj)} {σ : St} {H : Hp} {s : Shared} {Q : VK} {k k' : Bool} (I : Inv X pins σ H s) (q : Q (.bl k) H) (e : k = k') : EP X pins σ Q (.bool k') s := by
  subst e
  exact ⟨.bl k, H, I, rfl, q⟩
theorem op_lt : OpR X (compareOp .Lt) (rI0 fun i j => .bl (decide (i < j))) := opB0 fun _ _ _ _ _ _ _ q => lt_int q
theorem op_le : OpR X (compareOp .LtE) (rI0 fun i j => .bl (decide (i ≤ j))) := opB0 fun _ _ _ _ _ _ _ q => le_int q
theorem op_ge : OpR X (compareOp .GtE) (rI0 fun i j => .bl (decide (j ≤ i))) := opB0 fun _ _ _ _ _ _ _ q => ge_int q
/-- two rules for one operation: by cases -/
theorem OpR.or {f : Value → Value → Sem Value} {r r' : R2} (h : OpR X f r) (h' : OpR X f r') : OpR X f (fun x y H Q => r x y H Q ∨ r' x y H Q) := by
  intro pins s σ H x y v u Q I rx ry q
  rcases q with q | q
  · exact h pins s σ H x y v u Q I rx ry q
  · exact h' pins s σ H x y v u Q I rx ry q

theorem nomark (b : Expr) {op : CmpOp} (h : op ≠ .In := by decide) (h2 : op ≠ .NotIn := by decide) : behindInMarks op b = false := by
  have e1 : (op == CmpOp.In) = false := by cases op <;> first | rfl | exact absurd rfl h
  have e2 : (op == CmpOp.NotIn) = false := by cases op <;> first | rfl | exact absurd rfl h2
  cases b <;> simp [behindInMarks, e1, e2]
/-- a comparison as a value; hm: nomark b, or (for in, not in) by with_unfolding_all rfl -/
theorem pe_cmpR {op : CmpOp} {r : R2} (ho : OpR X (compareOp op) r) (ha : PE X a ta) (hb : PE X b tb) (hm : behindInMarks op b = false) : PE X (.Compare a [op] [b] pos) (tOp r ta tb) := by
  intro pins s σ H Q I h
  exact wpAny_Compare1 (binT ha hb I h fun v u s2 x y H2 I2 rx ry q => ho pins s2 σ H2 x y v u Q I2 rx ry q) hm
/-- a reading of a value as a test -/
def tTest (t : TE) : TT := fun σ H Q => t σ H fun x H' => ∃ k, x = .bl k ∧ Q k H'
theorem pt_cmpR {op : CmpOp} {r : R2} (ho : OpR X (compareOp op) r) (ha : PE X a ta) (hb : PE X b tb) (hm : behindInMarks op b = false) : PT X (.Compare a [op] [b] pos) (tTest (tOp r ta tb)) := by
  intro pins s σ H Q I h
  refine wpAny_isTrue_Compare1 (thn (ha pins s σ H _ I h) fun v s1 ⟨x, H1, I1, r1, q1⟩ => thn (hb pins s1 σ H1 _ I1 q1) fun u s2 ⟨y, H2, I2, r2, q2⟩ =>
    thn (ho pins s2 σ H2 x y v u _ I2 r1 r2 q2) fun c s3 ⟨z, H3, I3, r3, k, e, q3⟩ => ?_) hm
  subst e
  cases r3
  exact wpAny_truthy_bool ⟨H3, I3, q3⟩
/-! ### truth -/
/-- a value's truth by the abstract heap -/
def TruV (K : PySem.W.Frag) (x : V) (H : Hp) (k : Bool) : Prop :=
  match x with
  | .non => k = false
  | .bl b => k = b
  | .int i => k = (i != 0)
  | .str y => y.length ≤ sizeLine ∧ k = ((y.length : Int) != 0)
  | .byt y => y.size ≤ sizeLine ∧ k = ((y.size : Int) != 0)
  | .ref p => (∃ xs, SqL K H p xs ∧ k = !xs.isEmpty) ∨ (∃ xs, SqT K H p xs ∧ k = !xs.isEmpty) ∨ ∃ kvs, H p = some (.dK kvs) ∧ k = !kvs.isEmpty
  | _ => False
theorem isEmpty_kv {κ : Type} {kvs : List (κ × V)} {vs : List (κ × Value)} (r : KV kvs vs) : (!vs.isEmpty) = !kvs.isEmpty := by
  cases r <;> rfl
theorem isEmpty_of {xs : List V} {its : List Value} (r : Vals xs its) : (!its.toArray.isEmpty) = !xs.isEmpty := by
  cases r <;> simp
theorem line63 : (sizeLine : Nat) < 2 ^ 63 := by rw [sizeLine_eq]; decide
theorem tru_ok : TruR X (fun x H Q => ∃ k, TruV X.K x H k ∧ Q k H) := by
  intro pins s σ H x v Q I rx h
  obtain ⟨k, e, q⟩ := h
  have hl := line63
  have hs : sizeLine = 16777216 := sizeLine_eq
  cases x with
  | non =>
    cases rx
    have e' : k = false := e
    subst e'
    exact truthy_none ⟨H, I, q⟩
  | bl b =>
    cases rx
    have e' : k = b := e
    subst e'
    exact wpAny_truthy_bool ⟨H, I, q⟩
  | int i =>
    obtain ⟨t, rfl⟩ := rx
    have e' : k = (i != 0) := e
    subst e'
    exact PySem.P.truthy_int ⟨H, I, q⟩
  | str y =>
    obtain ⟨t, rfl⟩ := rx
    obtain ⟨hy, e'⟩ : y.length ≤ sizeLine ∧ k = ((y.length : Int) != 0) := e
    subst e'
    exact PySem.P.truthy_str (by omega) ⟨H, I.tok _, q⟩
  | byt y =>
    obtain ⟨t, rfl⟩ := rx
    obtain ⟨hy, e'⟩ : y.size ≤ sizeLine ∧ k = ((y.size : Int) != 0) := e
    subst e'
    exact PySem.W.truthy_bytes (by omega) ⟨H, I.tok _, q⟩
  | ref p =>
    cases rx
    have e' : (∃ xs, SqL X.K H p xs ∧ k = !xs.isEmpty) ∨ (∃ xs, SqT X.K H p xs ∧ k = !xs.isEmpty) ∨ ∃ kvs, H p = some (.dK kvs) ∧ k = !kvs.isEmpty := e
    rcases e' with ⟨xs, hx, e'⟩ | ⟨xs, hx, e'⟩ | ⟨kvs, hx, e'⟩
    · subst e'
      obtain ⟨its, r, pl, hz⟩ := I.list hx
      have hlen := r.length
      exact wpAny_truthy_list pl.isList (by simp only [List.size_toArray]; omega) ⟨H, I.tok _, by rw [isEmpty_of r]; exact q⟩
    · subst e'
      obtain ⟨its, r, pl, hz⟩ := I.tuple hx
      have hlen := r.length
      exact truthy_tuple pl (by simp only [List.size_toArray]; omega) ⟨H, I.tok _, by rw [isEmpty_of r]; exact q⟩
    · subst e'
      obtain ⟨hz, hS, vs, r, m⟩ : kvs.length ≤ sizeLine ∧ (p == sysModules) = false ∧ ∃ vs, KV kvs vs ∧ s.heap.DictOf (mixKind X.prog X.w) p vs := I.hok p _ hx
      have hlen : kvs.length = vs.length := Paired.length r
      exact wpAny_truthy_dict hS m (by omega) ⟨H, I.tok _, by rw [isEmpty_kv r]; exact q⟩
  | _ => exact (show False from e).elim
/-! ### strs and bytes -/
theorem op_add_str : OpR X (binaryOp .Add) (fun x y H Q => ∃ i j, x = .str i ∧ y = .str j ∧ i.length + j.length ≤ sizeLine ∧ Q (.str (i ++ j)) H) := by
  intro pins s σ H x y v u Q I rx ry h
  obtain ⟨i, j, rfl, rfl, hz, q⟩ := h
  obtain ⟨t, rfl⟩ := rx
  obtain ⟨t', rfl⟩ := ry
  exact add_str (fun t' tk => ⟨.str (i ++ j), H, I.tok _, ⟨_, rfl⟩, q⟩) hz
/-! ### scalar builtins, by CallR -/
theorem vals1 {x : V} {us : List Value} (r : Vals [x] us) : ∃ u, us = [u] ∧ RelV x u := by
  cases r with
  | cons r1 r2 => cases r2; exact ⟨_, rfl, r1⟩
theorem call_abs : CallR X (.builtin "abs") (fun xs H Q => ∃ i, xs = [.int i] ∧ Q (.int (if i < 0 then -i else i)) H) := by
  intro pins s σ H xs us Q I r h
  obtain ⟨i, rfl, q⟩ := h
  obtain ⟨u, rfl, t, rfl⟩ := vals1 r
  exact call_abs_int fun u tk => ⟨.int (if i < 0 then -i else i), H, I.tok _, ⟨_, rfl⟩, q⟩
/-- len of a str, a bytes, a list, a tuple -/
def LenV (K : PySem.W.Frag) (x : V) (H : Hp) (n : Nat) : Prop :=
  match x with
  | .str y => y.length ≤ sizeLine ∧ n = y.length
  | .byt y => y.size ≤ sizeLine ∧ n = y.size
  | .ref p => (∃ xs, SqL K H p xs ∧ n = xs.length) ∨ ∃ xs, SqT K H p xs ∧ n = xs.length
  | _ => False
theorem call_len : CallR X (.builtin "len") (fun xs H Q => ∃ x n, xs = [x] ∧ LenV X.K x H n ∧ Q (.int n) H) := by
  intro pins s σ H xs us Q I r h
  obtain ⟨x, n, rfl, e, q⟩ := h
  obtain ⟨u, rfl, rx⟩ := vals1 r
  have hl := line63
  have hs : sizeLine = 16777216 := sizeLine_eq
  cases x with
  | str y =>
    obtain ⟨t, rfl⟩ := rx
    obtain ⟨hy, e'⟩ : y.length ≤ sizeLine ∧ n = y.length := e
    subst e'
    exact len_str (by omega) ⟨.int _, H, I.tok _, ⟨_, rfl⟩, q⟩
  | byt y =>
    obtain ⟨t, rfl⟩ := rx
    obtain ⟨hy, e'⟩ : y.size ≤ sizeLine ∧ n = y.size := e
    subst e'
    exact PySem.W.len_bytes (by omega) ⟨.int _, H, I.tok _, ⟨_, rfl⟩, q⟩
  | ref p =>
    cases rx
    have e' : (∃ xs, SqL X.K H p xs ∧ n = xs.length) ∨ ∃ xs, SqT X.K H p xs ∧ n = xs.length := e
    rcases e' with ⟨xs, hx, e'⟩ | ⟨xs, hx, e'⟩
    · subst e'
      obtain ⟨its, r', pl, hz⟩ := I.list hx
      have hlen := r'.length
      exact Calls.call_len_list pl.isList (by simp only [List.size_toArray]; omega) ⟨.int xs.length, H, I.tok _, ⟨_, by simp only [List.size_toArray]; rw [hlen]⟩, q⟩
    · subst e'
      obtain ⟨its, r', pl, hz⟩ := I.tuple hx
      have hlen := r'.length
      exact len_tuple pl (by simp only [List.size_toArray]; omega) ⟨.int xs.length, H, I.tok _, ⟨_, by simp only [List.size_toArray]; rw [hlen]⟩, q⟩
  | _ => exact (show False from e).elim
end
end L2

namespace L2
open PySem PySem.Spec PyProof.Rows

/-! ### an instance, its attributes a map -/
structure ObjM (h : Heap) (x dx C : Addr) (mA : Str → Option Value) : Prop where
  obj : h.get? x = some (PySem.W.instObj C dx)
  ns : h.Ns1 dx mA
  ne : dx ≠ x

theorem lookIn_ns {h : Heap} {dx : Addr} {mA : Str → Option Value} (n : h.Ns1 dx mA) : ∃ od, h.get? dx = some od ∧ ∀ name, PySem.W.lookIn name od = some (mA name) := by
  obtain ⟨o, es, ep, ho, hd, hk, _, hm⟩ := n
  refine ⟨o, ho, fun name => ?_⟩
  have e := hm name
  unfold nsFind findBy at e
  rw [← Array.find?_toList] at e
  unfold PySem.W.lookIn
  rw [hd]
  dsimp only
  split
  · rename_i y q
    rw [q] at e
    exact congrArg some e
  · rename_i q
    rw [q] at e
    have a : es.toList.any (·.refKey) = false := by
      rw [List.any_eq_false]
      intro y hy
      obtain ⟨z, t, hkey⟩ := hk y (Array.mem_toList_iff.mp hy)
      simp [DictEntry.refKey, hkey]
    have a' : ¬ es.toList.any (·.refKey) = true := by rw [a]; exact Bool.false_ne_true
    rw [if_neg a']
    exact congrArg some e

theorem ObjM.look {h : Heap} {x dx C : Addr} {mA : Str → Option Value} (I : ObjM h x dx C mA) : ∃ od, PySem.W.InstAt h x (PySem.W.instObj C dx) C (some od) ∧ ∀ name, PySem.W.lookIn name od = some (mA name) :=
  let ⟨od, ho, hl⟩ := lookIn_ns I.ns
  ⟨od, ⟨I.obj, rfl, rfl, ho⟩, hl⟩

section
variable {prog : Program} {w : World} {A : Around} {E : Value → Shared → Prop} {s : Shared} {K : PySem.W.Frag} {x dx C f : Addr} {mA : Str → Option Value} {name : Str} {v : Value}

theorem get_map {expr : Bool} {Q : Value → Shared → Prop} (X : K.In s.heap) (I : ObjM s.heap x dx C mA) (hg : PySem.W.plainGet K C name = true) (hh : PySem.W.hasDictIn K C = true)
    (ha : PySem.W.findIn K (.ref C) name = some none) (hv : mA name = some v) (hv' : PySem.W.handedIn v = true) (h : Q v { s with toks := s.toks + 1 }) :
    wpAny (model prog w) A (getAttr (.ref x) name expr) Q E s := by
  obtain ⟨od, J, hl⟩ := I.look
  exact PySem.W.get_value X J (PySem.W.plainGet_of hg).1 (PySem.W.findObj_own hh ha rfl (by rw [hl, hv])) hv' h

theorem get_meth {pl : Sem Bool} {Q : Value × List Value → Shared → Prop} (X : K.In s.heap) (I : ObjM s.heap x dx C mA) (hg : PySem.W.plainGet K C name = true)
    (hf : PySem.W.findIn K (.ref C) name = some (some (.ref f))) (ht : PySem.W.isFn K (.ref f) = true) (hv : mA name = none) (h : Q (.ref f, [.ref x]) s) :
    wpAny (model prog w) A (getMethod (.ref x) name pl) Q E s := by
  obtain ⟨od, J, hl⟩ := I.look
  exact PySem.W.method_fn X J (PySem.W.plainGet_of hg).1 (PySem.W.plainGet_of hg).2 hf (beq_iff_eq.mp ht) (by show (PySem.W.lookIn name od).map (·.isSome) = some false; rw [hl, hv]; rfl) h

theorem set_map {ns : List Str} {Q : Unit → Shared → Prop} (X : K.In s.heap) (I : ObjM s.heap x dx C mA)
    (hs : PySem.W.findIn K (.ref C) "__setattr__" = some (some (.builtin "object.__setattr__"))) (hp : PySem.W.plainOver K C = true) (ht : PySem.W.takerIn K C name = some none) (hh : PySem.W.hasDictIn K C = true)
    (hw : PySem.Within mA ns) (hsz : ns.length ≤ sizeLine)
    (h : ∀ h', ObjM h' x dx C (fun y => if y = name then some v else mA y) → Heap.SameBut dx s.heap h' → Q () { s with heap := h', toks := s.toks + 2 }) :
    wpAny (model prog w) A (setAttr (.ref x) name v) Q E s := by
  obtain ⟨od, J, hl⟩ := I.look
  refine PySem.W.set_plain X J hs (PySem.W.osa_open (s := { s with toks := s.toks + 1 }) (r := none) X J hp ht fun b => ?_)
  obtain ⟨cd, hc, hd'⟩ := PySem.W.any_some hh
  have hx : s.heap.get? x = some ⟨.ref C, some dx, .plain, #[]⟩ := I.obj
  refine wpAny_bind (wpAny_pure (wpAny_bind (wpAny_bind (wpAny_loadPart hx (wpAny_bind (PySem.W.Looks.here (s := { s with toks := s.toks + 1 }) (PySem.W.looks_clsIn X hc) ?_))))))
  rw [hd']
  refine wpAny_pure (a := some dx) (wpAny_bind (wpAny_pure (wpAny_bind ?_)))
  refine wpAny_nsSet1 (s := { s with toks := s.toks + 1 }) I.ns fun h' hn2 hs2 => ?_
  obtain ⟨oD, esD, epD, hoD, hdD, hcD⟩ := hn2.count (PySem.Within.cons name v hw)
  refine wpAny_bind (wpAny_lookBehind hoD (by rw [hdD]; exact pastItsLine_dict (Nat.le_trans hcD (by rw [List.length_cons]; omega))) ?_)
  exact wpAny_pure (h _ ⟨(hs2.2 _ (Ne.symm I.ne)).trans I.obj, hn2, I.ne⟩ hs2)

/-- C(..): the dict at the heap's end, the instance behind it; then its __init__ -/
theorem make_map {R : Result → Shared → Prop} {vs : List Value} {kw : List (Str × Value)} (X : K.In s.heap) (hm : PySem.W.makesIn K C = true)
    (hi : PySem.W.findIn K (.ref C) "__init__" = some (some (.ref f))) (hf : PySem.W.typeIn K (.ref f) = some (.type "function"))
    (h : codeAny (model prog w) (A.under (.builtin "type.__call__" ⟨.ref C :: vs, kw⟩)) (.call (.ref f) ⟨.ref (s.heap.objs.size + 1) :: vs, kw⟩) (PySem.W.InitBack (s.heap.objs.size + 1) R)
      { s with heap := (s.heap.push PySem.W.emptyDict).push (PySem.W.instObj C s.heap.objs.size) }) :
    codeAny (model prog w) A (.call (.ref C) ⟨vs, kw⟩) R s := by
  obtain ⟨hh, g, d, t, os⟩ := s
  exact PySem.W.make_core (PySem.W.makes_of X hm) (PySem.W.looks_findIn X hi) (fun self => PySem.W.bind_fn X self hf) (.inl rfl) h
end

/-! ### the attributes as a list of pairs -/
def putF (f : Str) (v : V) : List (Str × V) → List (Str × V)
  | [] => [(f, v)]
  | (g, x) :: r => if g = f then (g, v) :: r else (g, x) :: putF f v r
theorem lookup_putF (f g : Str) (v : V) : ∀ fs : List (Str × V), (putF f v fs).lookup g = if g = f then some v else fs.lookup g
  | [] => by
    show List.lookup g [(f, v)] = _
    by_cases h : g = f
    · have hb : (g == f) = true := beq_iff_eq.mpr h
      simp only [List.lookup, hb, if_pos h]
    · have hb : (g == f) = false := beq_eq_false_iff_ne.mpr h
      simp only [List.lookup, hb, if_neg h]
  | (k, x) :: r => by
    have ih := lookup_putF f g v r
    rw [show putF f v ((k, x) :: r) = (if k = f then (k, v) :: r else (k, x) :: putF f v r) from rfl]
    by_cases hk : k = f
    · rw [if_pos hk]
      by_cases h : g = k
      · have hb : (g == k) = true := beq_iff_eq.mpr h
        simp only [List.lookup, hb, if_pos (h.trans hk)]
      · have hb : (g == k) = false := beq_eq_false_iff_ne.mpr h
        simp only [List.lookup, hb, if_neg (fun e : g = f => h (e.trans hk.symm))]
    · rw [if_neg hk]
      by_cases h : g = k
      · have hb : (g == k) = true := beq_iff_eq.mpr h
        simp only [List.lookup, hb, if_neg (fun e : g = f => hk (h.symm.trans e))]
      · have hb : (g == k) = false := beq_eq_false_iff_ne.mpr h
        simp only [List.lookup, hb]
        exact ih
theorem keys_putF (f : Str) (v : V) : ∀ fs : List (Str × V), f ∈ (putF f v fs).map (·.1) ∧ ∀ g, g ∈ fs.map (·.1) → g ∈ (putF f v fs).map (·.1)
  | [] => ⟨by simp [putF], fun g h => by simp at h⟩
  | (k, x) :: r => by
    obtain ⟨i1, i2⟩ := keys_putF f v r
    rw [show putF f v ((k, x) :: r) = (if k = f then (k, v) :: r else (k, x) :: putF f v r) from rfl]
    by_cases hk : k = f
    · rw [if_pos hk]
      subst hk
      exact ⟨by simp, fun g h => by simpa using h⟩
    · rw [if_neg hk]
      refine ⟨?_, fun g h => ?_⟩
      · rw [List.map_cons]
        exact List.mem_cons_of_mem _ i1
      · rw [List.map_cons] at h ⊢
        rcases List.mem_cons.mp h with e | e
        · exact List.mem_cons.mpr (.inl e)
        · exact List.mem_cons_of_mem _ (i2 g e)
theorem length_putF (f : Str) (v : V) : ∀ fs : List (Str × V), (putF f v fs).length ≤ fs.length + 1
  | [] => by simp [putF]
  | (k, x) :: r => by
    have ih := length_putF f v r
    rw [show putF f v ((k, x) :: r) = (if k = f then (k, v) :: r else (k, x) :: putF f v r) from rfl]
    by_cases hk : k = f
    · rw [if_pos hk, List.length_cons, List.length_cons]; omega
    · rw [if_neg hk, List.length_cons, List.length_cons]; omega

theorem RelO.some_of {v : V} {o : Option Value} (r : RelO (some v) o) : ∃ u, o = some u ∧ RelV v u := by
  cases o with
  | none => exact (show False from r).elim
  | some u => exact ⟨u, rfl, r⟩
theorem RelO.none_of {o : Option Value} (r : RelO none o) : o = none := by
  cases o with
  | none => rfl
  | some u => exact (show False from r).elim
theorem handed_of {v : V} {u : Value} (r : RelV v u) : PySem.W.handedIn u = true := by
  cases v with
  | non => cases (show u = Value.none from r); rfl
  | bl b => cases (show u = Value.bool b from r); rfl
  | int i => obtain ⟨t, e⟩ := (show ∃ t, u = Value.int i t from r); cases e; rfl
  | str x => obtain ⟨t, e⟩ := (show ∃ t, u = Value.str x t from r); cases e; rfl
  | byt b => obtain ⟨t, e⟩ := (show ∃ t, u = Value.bytes b t from r); cases e; rfl
  | flt b => obtain ⟨t, e⟩ := (show ∃ t, u = Value.float b t from r); cases e; rfl
  | ref a => cases (show u = Value.ref a from r); rfl
  | ty n => cases (show u = Value.type n from r); rfl

section
variable {P : Program} {w : World} {H H' : Hp} {h h' : Heap} {a C dx : Addr} {fs fs' : List (Str × V)}
theorem ins_get (hok : HOk P w H h) (e : H a = some (.ins C dx fs)) : ∃ mA, ObjM h a dx C mA ∧ (∀ f, RelO (fs.lookup f) (mA f)) ∧ PySem.Within mA (fs.map (·.1)) ∧ fs.length ≤ 1000 ∧ H dx = some (.own a) := by
  obtain ⟨d, z, ne, ob, mA, n, r, q⟩ := (show ObjOk P w H h a (.ins C dx fs) from hok a _ e)
  exact ⟨mA, ⟨ob, n, ne⟩, r, q, z, d⟩
end

/-! ### what of the text a class must have -/
structure Cls (K : PySem.W.Frag) (C : Addr) : Prop where
  pg : PySem.W.plainGet K C Str.empty = true
  hd : PySem.W.hasDictIn K C = true
  po : PySem.W.plainOver K C = true
  sa : PySem.W.findIn K (.ref C) "__setattr__" = some (some (.builtin "object.__setattr__"))
theorem Cls.get {K : PySem.W.Frag} {C : Addr} (c : Cls K C) (f : Str) : PySem.W.plainGet K C f = true := c.pg
/-- no class of it has the name -/
def NoAttr (K : PySem.W.Frag) (C : Addr) (f : Str) : Prop := PySem.W.findIn K (.ref C) f = some none
theorem NoAttr.taker {K : PySem.W.Frag} {C : Addr} {f : Str} (n : NoAttr K C f) : PySem.W.takerIn K C f = some none := by
  unfold PySem.W.takerIn
  rw [show PySem.W.findIn K (.ref C) f = some none from n]
  rfl
/-- a constant of the class -/
structure Con (K : PySem.W.Frag) (C : Addr) (f : Str) (v : V) (u : Value) : Prop where
  at_ : PySem.W.findIn K (.ref C) f = some (some u)
  rel : RelV v u
  get : PySem.W.specialIn K u "__get__" = some none
  cp : PySem.W.copiedNames.contains f = false
/-- a method: a plain def of the class or of one above it -/
structure Meth (K : PySem.W.Frag) (C : Addr) (m : Str) (f : Addr) : Prop where
  at_ : PySem.W.findIn K (.ref C) m = some (some (.ref f))
  fn : PySem.W.isFn K (.ref f) = true
  kp : PySem.W.keepIn K (.ref f) = true

section
variable {X : Cx} {pins : List (Addr × Obj)} {σ : St} {H : Hp} {s : Shared} {a C dx : Addr} {fs : List (Str × V)} {f : Str} {v : V} {A : Around} {E : Value → Shared → Prop}

theorem getattr_ok {b : Bool} {Q : Value → Shared → Prop} (I : Inv X pins σ H s) (e : H a = some (.ins C dx fs)) (c : Cls X.K C) (n : NoAttr X.K C f) (l : fs.lookup f = some v)
    (h : ∀ u s', Inv X pins σ H s' → RelV v u → Q u s') : wpAny (model X.prog X.w) A (getAttr (.ref a) f b) Q E s := by
  obtain ⟨mA, O, r, _, _, _⟩ := ins_get I.hok e
  obtain ⟨u, hu, ru⟩ := RelO.some_of (v := v) (o := mA f) (by rw [← l]; exact r f)
  exact get_map I.kIn O (c.get f) c.hd n hu (handed_of ru) (h u _ (I.tok _) ru)

theorem getmeth_ok {m : Str} {g : Addr} {pl : Sem Bool} {Q : Value × List Value → Shared → Prop} (I : Inv X pins σ H s) (e : H a = some (.ins C dx fs)) (c : Cls X.K C) (k : Meth X.K C m g) (l : fs.lookup m = none)
    (h : Q (.ref g, [.ref a]) s) : wpAny (model X.prog X.w) A (getMethod (.ref a) m pl) Q E s := by
  obtain ⟨mA, O, r, _, _, _⟩ := ins_get I.hok e
  have hn : mA m = none := RelO.none_of (by rw [← l]; exact r m)
  exact get_meth I.kIn O (c.get m) k.at_ k.fn hn h

theorem setattr_ok {y : V} {u : Value} {Q : Unit → Shared → Prop} (I : Inv X pins σ H s) (e : H a = some (.ins C dx fs)) (c : Cls X.K C) (n : NoAttr X.K C f) (hl : fs.length < 1000) (ry : RelV y u)
    (h : ∀ s', Inv X pins σ (upd H a (.ins C dx (putF f y fs))) s' → Q () s') : wpAny (model X.prog X.w) A (setAttr (.ref a) f u) Q E s := by
  obtain ⟨mA, O, r, wi, _, ho⟩ := ins_get I.hok e
  have hz : (fs.map (·.1)).length ≤ sizeLine := by rw [List.length_map, sizeLine_eq]; omega
  refine set_map I.kIn O c.sa c.po n.taker c.hd wi hz fun h' O' sb => h _ ?_
  have hd : ∃ o, h'.get? dx = some o := let ⟨o, _, _, e', _⟩ := O'.ns; ⟨o, e'⟩
  refine I.write (x := a) (e := dx) (by rw [e]; exact True.intro) (.inr ho) (fun b q hb z => (sb.2 b hb).trans z) hd ?_
  refine ⟨by rw [upd_ne O.ne]; exact ho, ?_, O.ne, O'.obj, _, O'.ns, fun g => ?_, fun g hg => ?_⟩
  · have := length_putF f y fs; omega
  · show RelO ((putF f y fs).lookup g) (if g = f then some u else mA g)
    rw [lookup_putF]
    by_cases q : g = f
    · rw [if_pos q, if_pos q]; exact ry
    · rw [if_neg q, if_neg q]; exact r g
  · by_cases q : g = f
    · rw [q]; exact (keys_putF f y fs).1
    · refine (keys_putF f y fs).2 g (wi g fun z => hg ?_)
      show (if g = f then some u else mA g) = none
      rw [if_neg q]; exact z

/-- a new instance, tracked, without attributes -/
theorem Inv.made (I : Inv X pins σ H s) : Inv X pins σ (upd (upd H s.heap.objs.size (.own (s.heap.objs.size + 1))) (s.heap.objs.size + 1) (.ins C s.heap.objs.size []))
    { s with heap := (s.heap.push PySem.W.emptyDict).push (PySem.W.instObj C s.heap.objs.size) } := by
  have e1 : (s.heap.push PySem.W.emptyDict).get? s.heap.objs.size = some PySem.W.emptyDict := Heap.get?_push_size s.heap rfl
  have e2 : ((s.heap.push PySem.W.emptyDict).push (PySem.W.instObj C s.heap.objs.size)).get? (s.heap.objs.size + 1) = some (PySem.W.instObj C s.heap.objs.size) := by
    have := Heap.get?_push_size (s.heap.push PySem.W.emptyDict) (o := PySem.W.instObj C s.heap.objs.size) rfl
    rwa [Heap.size_push] at this
  have e3 : (s.heap.push PySem.W.emptyDict).Ns s.heap.objs.size (fun _ => none) := ⟨PySem.W.emptyDict, #[], _, e1, rfl, (fun e he => absurd he (by simp)), fun _ => rfl⟩
  have I1 := I.laid (a := s.heap.objs.size) (o := .own (s.heap.objs.size + 1)) (h' := s.heap.push PySem.W.emptyDict) (t' := s.toks) (fun b u q => Heap.get?_push_of_some _ q) (Nat.le_refl _) ⟨_, e1⟩
  refine I1.laid (a := s.heap.objs.size + 1) (o := .ins C s.heap.objs.size []) (t' := s.toks) (fun b u q => Heap.get?_push_of_some _ q) (Nat.le_of_eq (Heap.size_push _ _)) ?_
  have ne : s.heap.objs.size ≠ s.heap.objs.size + 1 := Nat.ne_of_lt (Nat.lt_succ_self _)
  refine ⟨by rw [upd_ne ne, upd_same], Nat.zero_le _, ne, e2, fun _ => none, (Heap.Ns1.of_empty e3).at fun o q => Heap.get?_push_of_some _ q, fun _ => True.intro, fun y hy => absurd rfl hy⟩

/-- e.f where nothing but the object is asked: through attributeBase (super) and the last hold -/
theorem attr_of {prog : Program} {w : World} {env : Env} {e : Expr} {f : Str} {pos : Pos} {s : Shared} {Q : Value → Shared → Prop} (hb : attributeBase e f env (eval e env) = eval e env)
    (h : wpAny (model prog w) A (eval e env) (fun o s₁ => wpAny (model prog w) A (getAttr o f true) Q E s₁) E s) : wpAny (model prog w) A (eval (.Attribute e f pos) env) Q E s :=
  Attribute_any_ h (by rw [arm_eval_Attribute, hb])
end

/-! ### readings and rules -/
/-- e.f, an attribute of the instance -/
def tFld (K : PySem.W.Frag) (ta : TE) (f : Str) : TE := fun σ H Q => ta σ H fun x H1 => ∃ a C dx fs v, x = .ref a ∧ H1 a = some (.ins C dx fs) ∧ Cls K C ∧ NoAttr K C f ∧ fs.lookup f = some v ∧ Q v H1
/-- e.f = value -/
def sFld (K : PySem.W.Frag) (ta tv : TE) (f : Str) : TS := fun D σ H => tv σ H fun y H1 => ta σ H1 fun x H2 => ∃ a C dx fs, x = .ref a ∧ H2 a = some (.ins C dx fs) ∧ Cls K C ∧ NoAttr K C f ∧ fs.length < 1000 ∧
  D.nx σ (upd H2 a (.ins C dx (putF f y fs)))
section
variable {X : Cx} {o e value : Expr} {f : Str} {pos pos' tpos : Pos} {ta tv : TE}
theorem pe_fld (he : PE X e ta) (hb : attributeBase e f X.env (eval e X.env) = eval e X.env) : PE X (.Attribute e f pos) (tFld X.K ta f) := by
  intro pins s σ H Q I h
  refine attr_of hb (thn (he pins s σ H _ I h) fun u s1 ⟨x, H1, I1, rx, a, C, dx, fs, v, ex, ea, c, n, l, q⟩ => ?_)
  subst ex
  obtain rfl : u = Value.ref a := rx
  exact getattr_ok I1 ea c n l fun u' s2 I2 ru => ⟨v, H1, I2, ru, q⟩
theorem ps_fld (ha : PE X o ta) (hv : PE X value tv) (hs : swapsWith value (some (.Attribute o f pos')) pos.line X.env = pure false) : PS X (.Assign [.Attribute o f pos'] value pos) (sFld X.K ta tv f) := by
  intro pins s σ H D I h
  refine plainObj_wpAny_Assign_Attribute (thn (hv pins s σ H _ I h) fun u s1 ⟨y, H1, I1, ry, q⟩ => thn (ha pins s1 σ H1 _ I1 q) fun ov s2 ⟨x, H2, I2, rx, a, C, dx, fs, ex, ea, c, n, l, q2⟩ => ?_) hs
  subst ex
  obtain rfl : ov = Value.ref a := rx
  exact setattr_ok I2 ea c n l ry fun s3 I3 => ⟨σ, _, I3, q2⟩
end

/-! ### isinstance -/
section
variable {X : Cx} {pins : List (Addr × Obj)} {σ : St} {H : Hp} {s : Shared} {A : Around} {E : Value → Shared → Prop} {Q : Value → Shared → Prop} {c : Value} {b : Bool}
/-- the type of a value, as the fragment's deciders take it; for an instance its class -/
inductive TyOf (K : PySem.W.Frag) (H : Hp) : V → Value → Prop where
  | non : TyOf K H .non (.type "NoneType")
  | bl (x : Bool) : TyOf K H (.bl x) (.type "bool")
  | int (i : Int) : TyOf K H (.int i) (.type "int")
  | str (x : Str) : TyOf K H (.str x) (.type "str")
  | flt (x : UInt64) : TyOf K H (.flt x) (.type "float")
  | lst {a : Addr} {xs : List V} (e : H a = some (.lst xs)) : TyOf K H (.ref a) (.type "list")
  | frz {a : Addr} {o : Obj} {xs : List V} (e : H a = some (.frz o (.lst xs))) : TyOf K H (.ref a) (.type "list")
  | tup {a : Addr} {xs : List V} (e : H a = some (.tup xs)) : TyOf K H (.ref a) (.type "tuple")
  | dK {a : Addr} {kvs : List (Key × V)} (e : H a = some (.dK kvs)) : TyOf K H (.ref a) (.type "dict")
  | dT {a : Addr} {kvs : List (List Key × V)} (e : H a = some (.dT kvs)) : TyOf K H (.ref a) (.type "dict")
  | ins {a C dx : Addr} {fs : List (Str × V)} (e : H a = some (.ins C dx fs)) (cl : Cls K C) (ha : PySem.W.findIn K (.ref C) "__class__" = some (some (.builtin "object.__class__")))
      (hn : PySem.W.specialIn K (.builtin "object.__class__") "__get__" = some (some (.builtin "getset_descriptor.__get__"))) (htk : PySem.W.takesIn K (.builtin "object.__class__") = some true)
      (hm : PySem.W.mroIn K C (.type "object") = some true) : TyOf K H (.ref a) (.ref C)
end
end L2

namespace L2
open PySem PySem.Spec PyProof.Rows

/-! ### room -/
structure Room (k : Nat) (A : Around) : Prop where
  dp : A.depth + 3 * k + 5 < recursionLimit
  un : A.units + 16 * k + 200 < cLine
theorem Room.mono {j k : Nat} {A : Around} (r : Room k A) (h : j ≤ k) : Room j A := ⟨by have := r.dp; omega, by have := r.un; omega⟩
theorem Room.deeper {k : Nat} {A : Around} (r : Room (k + 1) A) (env : Env) : Room k (A.deeper env) :=
  ⟨by have := r.dp; show A.depth + 1 + 3 * k + 5 < _; omega, by have := r.un; show A.units + 3 + 16 * k + 200 < _; omega⟩
theorem Room.in1 {k : Nat} {A : Around} (r : Room (k + 1) A) : Room k A.in1 :=
  ⟨by have := r.dp; show A.depth + 3 * k + 5 < _; omega, by have := r.un; show A.units + 1 + 16 * k + 200 < _; omega⟩
theorem make_depth {A : Around} {C : Addr} {us : List Value} {kw : List (Str × Value)} : (A.under (.builtin "type.__call__" ⟨.ref C :: us, kw⟩)).depth = A.depth + 1 := by
  first | rfl | simp [Around.under, Code.weight, Code.isCreation, Code.isGuard, Code.isCaller, Code.frames, Code.isFrame, guardIds]
theorem make_units {A : Around} {C : Addr} {us : List Value} {kw : List (Str × Value)} : (A.under (.builtin "type.__call__" ⟨.ref C :: us, kw⟩)).units = A.units + 1 := by
  first | rfl | simp [Around.under, Code.cUnits, Code.frames, Code.isFrame]
theorem Room.make {k : Nat} {A : Around} (r : Room (k + 1) A) (C : Addr) (us : List Value) (kw : List (Str × Value)) : Room k (A.under (.builtin "type.__call__" ⟨.ref C :: us, kw⟩)) :=
  ⟨by have := r.dp; rw [make_depth]; omega, by have := r.un; rw [make_units]; omega⟩
theorem Room.depth {k : Nat} {A : Around} (r : Room k A) : A.depth < recursionLimit := by have := r.dp; omega
theorem Room.units {k : Nat} {A : Around} (r : Room k A) : A.units + 64 < cLine := by have := r.un; omega
/-! ### argument lists and displays -/
def tNil : TA := fun _ H Q => Q [] H
def tCons (ta : TE) (tr : TA) : TA := fun σ H Q => ta σ H fun x H1 => tr σ H1 fun xs H2 => Q (x :: xs) H2
section
variable {X : Cx} {e : Expr} {es : List Expr} {te : TE} {t : TA} {pos : Pos}
theorem pa_nil : PA X [] tNil := fun _ _ _ _ H Q I h => Calls.spliced_nil ⟨[], H, I, .nil, h⟩
theorem pa_cons (ha : PE X e te) (hr : PA X es t) (hs : starEach (e :: es) X.env = (false, eval e X.env) :: starEach es X.env := by rfl) : PA X (e :: es) (tCons te t) := by
  intro pos pins s σ H Q I h
  rw [hs]
  show wpAny _ _ (spliced ((false, eval e X.env) :: backTo pos (starEach es X.env))) _ _ s
  refine Calls.spliced_cons (thn (ha pins s σ H _ I h) fun u s1 ⟨x, H1, I1, r1, q1⟩ => ?_)
  exact thn (hr pos pins s1 σ H1 _ I1 q1) fun us s2 ⟨xs, H2, I2, r2, q2⟩ => ⟨x :: xs, H2, I2, .cons r1 r2, q2⟩

/-- a tuple, a list of written items -/
def tTup (t : TA) : TE := fun σ H Q => t σ H fun xs H1 => xs.length ≤ sizeLine ∧ ∀ p, H1 p = none → Q (.ref p) (upd H1 p (.tup xs))
def tLst (t : TA) : TE := fun σ H Q => t σ H fun xs H1 => xs.length ≤ sizeLine ∧ ∀ p, H1 p = none → Q (.ref p) (upd H1 p (.lst xs))
theorem pe_tup {x1} (h : PA X es t) : PE X (.Tuple es x1 pos) (tTup t) := by
  intro pins s σ H Q I hq
  refine wpAny_Tuple_spliced (thn (h pos pins s σ H _ I hq) fun us s1 ⟨xs, H1, I1, r, z, q⟩ => ⟨by rw [← r.length]; exact z, ?_⟩)
  have hf : H1 s1.heap.objs.size = none := I1.hok.fresh (Nat.le_refl _)
  refine ⟨.ref s1.heap.objs.size, upd H1 s1.heap.objs.size (.tup xs), I1.laid (t' := s1.toks) (fun b u e => Heap.get?_push_of_some _ e) (Nat.le_refl _) ?_, rfl, q _ hf⟩
  exact ⟨z, us, r, ⟨_, Heap.get?_push_size _ rfl, rfl, _, rfl⟩⟩
theorem pe_lst (h : PA X es t) : PE X (.List es pos) (tLst t) := by
  intro pins s σ H Q I hq
  refine wpAny_List_spliced (thn (h pos pins s σ H _ I hq) fun us s1 ⟨xs, H1, I1, r, z, q⟩ => ⟨by rw [← r.length]; exact z, ?_⟩)
  have hf : H1 s1.heap.objs.size = none := I1.hok.fresh (Nat.le_refl _)
  refine ⟨.ref s1.heap.objs.size, upd H1 s1.heap.objs.size (.lst xs), I1.laid (t' := s1.toks) (fun b u e => Heap.get?_push_of_some _ e) (Nat.le_refl _) ?_, rfl, q _ hf⟩
  exact ⟨z, us, 0, r, Heap.get?_push_size _ rfl⟩
end

/-! ### what a def promises -/
/-- a def's promise: the bound arguments in the parameters' order, the heap, the wanted end, the wanted exception -/
abbrev Sp := List V → Hp → VK → XK → Prop
/-- how an exception lies behind a call (file 08 gives it): the callers' frames, abstract heap and state ahead of the call, the wish, the exception, the state -/
structure CXT where
  ct : List Env → Hp → Shared → XK → Value → Shared → Prop
  q : Bool
instance : CoeFun CXT fun _ => List Env → Hp → Shared → XK → Value → Shared → Prop := ⟨CXT.ct⟩

/-- the state at a call -/
structure Env0 (P : Program) (w : World) (K : PySem.W.Frag) (mg : Str → Option Value) (base : Heap) (A : Around) (outer : List Env) (s : Shared) (H : Hp) : Prop where
  frames : A.frames = some outer
  mod : Mod K mg base
  bs : ∀ b o, base.get? b = some o → s.heap.get? b = some o ∧ H b = none
  bsz : base.objs.size ≤ s.heap.objs.size
  funs : s.heap.FunFrames base outer
  frf : ∀ b ∈ frs outer, H b = none
  hok : HOk P w H s.heap
  bare : AllBare s.gens
/-- a call's end -/
def CE (outer : List Env) (P : Program) (w : World) (H : Hp) (s : Shared) (Q : VK) (u : Value) (s' : Shared) : Prop :=
  ∃ v H', s'.os = s.os ∧ AllBare s'.gens ∧ Un (frs outer) [] H H' s.heap s'.heap ∧ HOk P w H' s'.heap ∧ RelV v u ∧ Q v H'
def CR (CX : CXT) (outer : List Env) (P : Program) (w : World) (H : Hp) (s : Shared) (Q : VK) (E : XK) (r : Result) (s' : Shared) : Prop :=
  match r with
  | .ok (.ret u) => CE outer P w H s Q u s'
  | .ok _ => False
  | .error e => CX outer H s E e s'
structure FnOk (P : Program) (w : World) (K : PySem.W.Frag) (mg : Str → Option Value) (base : Heap) (CX : CXT) (k : Nat) (f : Addr) (fd : FuncData) (ps : List Str) (sp : Sp) : Prop where
  len : ∀ vs H Q E, sp vs H Q E → vs.length = ps.length
  run : ∀ (A : Around) (outer : List Env) (s : Shared) (H : Hp) (args : Args) (us : List Value) (vs : List V) (Q : VK) (E : XK), Room k A → (CX.q = true → A.handled = none) → Env0 P w K mg base A outer s H → BindsTo s fd args (ps.zip us) → Vals vs us → sp vs H Q E →
    codeAny (model P w) A (.call (.ref f) args) (CR CX outer P w H s Q E) s
theorem FnOk.mono {P : Program} {w : World} {K : PySem.W.Frag} {mg : Str → Option Value} {base : Heap} {CX : CXT} {j k : Nat} {f : Addr} {fd : FuncData} {ps : List Str} {sp : Sp} (F : FnOk P w K mg base CX j f fd ps sp) (h : j ≤ k) :
    FnOk P w K mg base CX k f fd ps sp := ⟨F.len, fun A outer s H args us vs Q E hr => F.run A outer s H args us vs Q E (hr.mono h)⟩
/-- a weaker promise -/
theorem FnOk.imp {P : Program} {w : World} {K : PySem.W.Frag} {mg : Str → Option Value} {base : Heap} {CX : CXT} {k : Nat} {f : Addr} {fd : FuncData} {ps : List Str} {sp sp' : Sp} (F : FnOk P w K mg base CX k f fd ps sp)
    (h : ∀ vs H Q E, sp' vs H Q E → sp vs H Q E) : FnOk P w K mg base CX k f fd ps sp' :=
  ⟨fun vs H Q E q => F.len vs H Q E (h _ _ _ _ q), fun A outer s H args us vs Q E hr hq he hb hv hs => F.run A outer s H args us vs Q E hr hq he hb hv (h _ _ _ _ hs)⟩

theorem Env0.make {P : Program} {w : World} {K : PySem.W.Frag} {mg : Str → Option Value} {base : Heap} {A : Around} {outer : List Env} {s : Shared} {H : Hp} (e : Env0 P w K mg base A outer s H) (C : Addr) (us : List Value) (kw : List (Str × Value)) :
    Env0 P w K mg base (A.under (.builtin "type.__call__" ⟨.ref C :: us, kw⟩)) outer s H := ⟨by first | exact e.frames | (simpa [Around.under, Code.envs, Code.isFrame, pushEnvs] using e.frames), e.mod, e.bs, e.bsz, e.funs, e.frf, e.hok, e.bare⟩
theorem Env0.in1 {P : Program} {w : World} {K : PySem.W.Frag} {mg : Str → Option Value} {base : Heap} {A : Around} {outer : List Env} {s : Shared} {H : Hp} (e : Env0 P w K mg base A outer s H) :
    Env0 P w K mg base A.in1 outer s H := ⟨e.frames, e.mod, e.bs, e.bsz, e.funs, e.frf, e.hok, e.bare⟩

section
variable {X : Cx} {pins : List (Addr × Obj)} {σ : St} {H : Hp} {s s' : Shared}
/-- from a body: what a callee wants -/
theorem Inv.env0 (I : Inv X pins σ H s) : Env0 X.prog X.w X.K X.mg X.base X.A X.stack s H :=
  ⟨I.ok.frames, I.ok.mod, I.bs, Nat.le_trans I.ok.bsz I.sz, I.stack, I.stkFree, I.hok, I.bare⟩
/-- behind a call -/
theorem Inv.after {Q : VK} {u : Value} (I : Inv X pins σ H s) (h : CE X.stack X.prog X.w H s Q u s') : EP X pins σ Q u s' := by
  obtain ⟨v, H', os, bare, un, hok, r, q⟩ := h
  obtain ⟨hh, g, d, t, os'⟩ := s'
  obtain rfl : os' = s.os := os
  exact ⟨v, H', I.call (h' := hh) (g' := g) (d' := d) (t' := t) (ch := []) un hok bare (fun b z => absurd z (by simp)), r, q⟩
end

/-! ### calls -/
/-- f(..): the written arguments, then the defaults dvs; E: what is wanted of an exception -/
def tCall (sp : Sp) (dvs : List V) (E : XK) (t : TA) : TE := fun σ H Q => t σ H fun vs H1 => sp (vs ++ dvs) H1 Q E
/-- C(..): a new instance and its dict, then __init__ -/
def tMake (C : Addr) (sp : Sp) (dvs : List V) (E : XK) (t : TA) : TE := fun σ H Q => t σ H fun vs H1 => ∀ x dx, H1 x = none → H1 dx = none → dx ≠ x →
  sp (.ref x :: (vs ++ dvs)) (upd (upd H1 dx (.own x)) x (.ins C dx [])) (fun v H2 => v = .non ∧ Q (.ref x) H2) E

/-- how the parameters are bound: us the positional arguments, kw the keywords' values by name, ds the defaults that fill up -/
def Binds (K : PySem.W.Frag) (fd : FuncData) (ps : List Str) (ds : List Value) : Prop :=
  ∀ (s : Shared) (us : List Value), K.In s.heap → (us ++ ds).length = ps.length → BindsTo s fd ⟨us, []⟩ (ps.zip (us ++ ds))
/-- every parameter is given -/
theorem Binds.all {K : PySem.W.Frag} {fd : FuncData} {ps : List Str} (h : ∀ us : List Value, us.length = ps.length → bindArgs fd ⟨us, []⟩ = pure (ps.zip us)) : Binds K fd ps [] := fun s us _ hl => by
  rw [List.append_nil] at hl ⊢
  exact .of_eq (h us hl)

/-- an exception of a callee reaches what this body wants of exceptions -/
def Passes (CX : CXT) (X : Cx) (E : XK) : Prop := (CX.q = true → X.calm = true) ∧ ∀ (pins : List (Addr × Obj)) (σ : St) (H : Hp) (s : Shared) (e : Value) (s' : Shared), Inv X pins σ H s → CX X.stack H s E e s' → X.xe e s'

section
variable {X : Cx} {CX : CXT} {k : Nat} {f C : Addr} {fd : FuncData} {ps : List Str} {sp : Sp} {dvs : List V} {ds : List Value} {E : XK} {x m : Str} {p pos apos : Pos} {e o : Expr} {es : List Expr} {ta : TE} {t : TA}

/-- the callee runs -/
theorem run_fn {pins : List (Addr × Obj)} {σ : St} {H : Hp} {s : Shared} {Q : VK} {us : List Value} {vs : List V} (F : FnOk X.prog X.w X.K X.mg X.base CX k f fd ps sp) (hr : Room k X.A) (hb : Binds X.K fd ps ds) (hd : Vals dvs ds) (hx : Passes CX X E)
    (I : Inv X pins σ H s) (r : Vals vs us) (h : sp (vs ++ dvs) H Q E) : wpAny (model X.prog X.w) X.A (call (.ref f) us) (EP X pins σ Q) X.xe s := by
  have r2 : Vals (vs ++ dvs) (us ++ ds) := r.append hd
  have hl : (us ++ ds).length = ps.length := by rw [← r2.length]; exact F.len _ _ _ _ h
  refine wpAny_call (codeAny_mono (F.run X.A X.stack s H ⟨us, []⟩ (us ++ ds) (vs ++ dvs) Q E hr (fun z => I.ok.hd (hx.1 z)) I.env0 (hb s us I.kIn hl) r2 h) fun r s' hq => ?_)
  cases r with
  | error e => exact hx.2 pins σ H s e s' I hq
  | ok fl =>
    cases fl with
    | ret u => exact I.after hq
    | next => exact False.elim hq
    | brk => exact False.elim hq
    | cont => exact False.elim hq

theorem pe_call (F : FnOk X.prog X.w X.K X.mg X.base CX k f fd ps sp) (hr : Room k X.A) (hg : Gl X x) (hm : X.mg x = some (.ref f)) (hk : PySem.W.keepIn X.K (.ref f) = true) (hb : Binds X.K fd ps ds) (hd : Vals dvs ds) (hx : Passes CX X E)
    (ha : PA X (e :: es) t) (hdb : (x == ("__debug__" : Str)) = false := by decide) (he : starEach (e :: es) X.env = (false, eval e X.env) :: starEach es X.env := by rfl) (hpl : (backTo pos (starEach es X.env)).any (·.1) = false := by rfl) :
    PE X (.Call (.Name x p) (e :: es) [] pos) (tCall sp dvs E t) := by
  intro pins s σ H Q I h
  refine wpAny_Call_Name_kw (ld_glob I hg hm ?_ hdb)
  refine PySem.W.callWith_K (h₀ := X.base) I.ok.mod.kin hk (thn (ha pos pins s σ H _ I h) fun us s1 ⟨vs, H1, I1, r, q⟩ => ⟨I1.kIn, ?_⟩) he hpl
  exact run_fn F hr hb hd hx I1 r q
/-- what a class must have to be made -/
structure Mk (K : PySem.W.Frag) (C f : Addr) : Prop where
  makes : PySem.W.makesIn K C = true
  init : PySem.W.findIn K (.ref C) "__init__" = some (some (.ref f))
  fn : PySem.W.isFn K (.ref f) = true
  kp : PySem.W.keepIn K (.ref C) = true

theorem run_make {pins : List (Addr × Obj)} {σ : St} {H : Hp} {s : Shared} {Q : VK} {us : List Value} {vs : List V} (M : Mk X.K C f) (F : FnOk X.prog X.w X.K X.mg X.base CX k f fd ps sp) (hr : Room (k + 1) X.A) (hb : Binds X.K fd ps ds) (hd : Vals dvs ds)
    (hx : Passes CX X E) (I : Inv X pins σ H s) (r : Vals vs us)
    (h : ∀ x dx, H x = none → H dx = none → dx ≠ x → sp (.ref x :: (vs ++ dvs)) (upd (upd H dx (.own x)) x (.ins C dx [])) (fun v H2 => v = .non ∧ Q (.ref x) H2) E) :
    wpAny (model X.prog X.w) X.A (call (.ref C) us) (EP X pins σ Q) X.xe s := by
  have hq := h (s.heap.objs.size + 1) s.heap.objs.size (I.hok.fresh (Nat.le_succ _)) (I.hok.fresh (Nat.le_refl _)) (Nat.ne_of_lt (Nat.lt_succ_self _))
  have I2 := Inv.made (C := C) I
  have r2 : Vals (V.ref (s.heap.objs.size + 1) :: (vs ++ dvs)) (Value.ref (s.heap.objs.size + 1) :: (us ++ ds)) := .cons rfl (r.append hd)
  have hl : (Value.ref (s.heap.objs.size + 1) :: us ++ ds).length = ps.length := by
    have e := r2.length
    rw [F.len _ _ _ _ hq] at e
    exact e.symm
  refine wpAny_call (make_map (f := f) I.kIn M.makes M.init (beq_iff_eq.mp M.fn) (codeAny_mono (F.run _ X.stack _ _ ⟨Value.ref (s.heap.objs.size + 1) :: us, []⟩ (Value.ref (s.heap.objs.size + 1) :: (us ++ ds)) _ _ E (hr.make C us []) (fun z => I.ok.hd (hx.1 z))
    (I2.env0.make C us []) (hb _ (Value.ref (s.heap.objs.size + 1) :: us) I2.kIn hl) r2 hq) fun r s' hq' => ?_))
  cases r with
  | error e => exact hx.2 pins σ _ _ e s' I2 hq'
  | ok fl =>
    cases fl with
    | ret u =>
      obtain ⟨v, H', I3, rv, ev, q3⟩ := I2.after hq'
      subst ev
      exact ⟨rv, ⟨V.ref (s.heap.objs.size + 1), H', I3, rfl, q3⟩⟩
    | next => exact False.elim hq'
    | brk => exact False.elim hq'
    | cont => exact False.elim hq'
theorem pe_make (M : Mk X.K C f) (F : FnOk X.prog X.w X.K X.mg X.base CX k f fd ps sp) (hr : Room (k + 1) X.A) (hg : Gl X x) (hm : X.mg x = some (.ref C)) (hb : Binds X.K fd ps ds) (hd : Vals dvs ds) (hx : Passes CX X E)
    (ha : PA X (e :: es) t) (hdb : (x == ("__debug__" : Str)) = false := by decide) (he : starEach (e :: es) X.env = (false, eval e X.env) :: starEach es X.env := by rfl) (hpl : (backTo pos (starEach es X.env)).any (·.1) = false := by rfl) :
    PE X (.Call (.Name x p) (e :: es) [] pos) (tMake C sp dvs E t) := by
  intro pins s σ H Q I h
  refine wpAny_Call_Name_kw (ld_glob I hg hm ?_ hdb)
  refine PySem.W.callWith_K (h₀ := X.base) I.ok.mod.kin M.kp (thn (ha pos pins s σ H _ I h) fun us s1 ⟨vs, H1, I1, r, q⟩ => ⟨I1.kIn, ?_⟩) he hpl
  exact run_make M F hr hb hd hx I1 r q
end

/-! ### keywords -/
section
variable {X : Cx} {CX : CXT} {k : Nat} {f C : Addr} {fd : FuncData} {ps ks : List Str} {sp : Sp} {E : XK} {x m : Str} {p pos apos kpos : Pos} {e o : Expr} {es : List Expr} {kws : List Keyword} {te ta : TE} {t tk : TA} {nm : Option Str}
/-- how a call with keywords binds: g puts the positional values us and the keywords' values ws (names ks) in the parameters' order, defaults among them -/
structure KBinds (K : PySem.W.Frag) (fd : FuncData) (ps ks : List Str) (g : List Value → List Value → List Value) (gV : List V → List V → List V) : Prop where
  to : ∀ (s : Shared) (us ws : List Value), K.In s.heap → (g us ws).length = ps.length → BindsTo s fd ⟨us, ks.zip ws⟩ (ps.zip (g us ws))
  rel : ∀ {vs : List V} {us : List Value} {zs : List V} {ws : List Value}, Vals vs us → Vals zs ws → Vals (gV vs zs) (g us ws)
variable {g : List Value → List Value → List Value} {gV : List V → List V → List V}
end

/-! ### a def's body keeps its promise -/
/-- names: the parameters first -/
structure FnScope (N P : List Str) (sc : Scope) : Prop where
  kind : sc.kind = .function
  co : sc.isCoroutine = false
  gen : sc.isGenerator = false
  nd : N.Nodup
  pre : N.take P.length = P
  par : ∀ x ∈ P, sc.names.lookup x = some .local ∨ sc.names.lookup x = some .cell
  nofree : ∀ y ∈ sc.names, y.2 ≠ .free

theorem bindL_out {kindOf : Str → Option NameKind} {x : Str} : ∀ {binds : List (Str × Value)} {m : Str → Option Value}, (∀ v, (x, v) ∉ binds) → bindL kindOf binds m x = m x
  | [], _, _ => rfl
  | (n, v) :: r, m, h => by
    unfold bindL
    rw [bindL_out fun w hw => h w (List.mem_cons_of_mem _ hw)]
    split
    · have : x ≠ n := by rintro rfl; exact h v List.mem_cons_self
      simp [this]
    · rfl
theorem bindC_out {kindOf : Str → Option NameKind} {x : Str} : ∀ {binds : List (Str × Value)} {m : Str → Option Value}, (∀ v, (x, v) ∉ binds) → bindC kindOf binds m x = m x
  | [], _, _ => rfl
  | (n, v) :: r, m, h => by
    unfold bindC
    rw [bindC_out fun w hw => h w (List.mem_cons_of_mem _ hw)]
    split
    · rfl
    · have : x ≠ n := by rintro rfl; exact h v List.mem_cons_self
      simp [this]
theorem bindL_get {kindOf : Str → Option NameKind} {x : Str} {v : Value} : ∀ {P : List Str} {vs : List Value} {i : Nat} {m : Str → Option Value}, P.Nodup → P[i]? = some x → vs[i]? = some v → kindOf x = some .local →
    bindL kindOf (P.zip vs) m x = some v
  | [], _, _, _, _, h, _, _ => by simp at h
  | _ :: _, [], _, _, _, _, h, _ => by simp at h
  | p :: P, w :: vs, 0, m, nd, h1, h2, hk => by
    simp at h1 h2; subst h1; subst h2
    show bindL kindOf ((p, w) :: P.zip vs) m p = _
    unfold bindL
    rw [bindL_out fun v hv => (List.nodup_cons.mp nd).1 (List.of_mem_zip hv).1, if_pos hk]
    simp
  | p :: P, w :: vs, i + 1, m, nd, h1, h2, hk => by
    show bindL kindOf ((p, w) :: P.zip vs) m x = _
    unfold bindL
    exact bindL_get (i := i) (List.nodup_cons.mp nd).2 (by simpa using h1) (by simpa using h2) hk
theorem bindC_get {kindOf : Str → Option NameKind} {x : Str} {v : Value} : ∀ {P : List Str} {vs : List Value} {i : Nat} {m : Str → Option Value}, P.Nodup → P[i]? = some x → vs[i]? = some v → kindOf x ≠ some .local →
    bindC kindOf (P.zip vs) m x = some v
  | [], _, _, _, _, h, _, _ => by simp at h
  | _ :: _, [], _, _, _, _, h, _ => by simp at h
  | p :: P, w :: vs, 0, m, nd, h1, h2, hk => by
    simp at h1 h2; subst h1; subst h2
    show bindC kindOf ((p, w) :: P.zip vs) m p = _
    unfold bindC
    rw [bindC_out fun v hv => (List.nodup_cons.mp nd).1 (List.of_mem_zip hv).1, if_neg hk]
    simp
  | p :: P, w :: vs, i + 1, m, nd, h1, h2, hk => by
    show bindC kindOf ((p, w) :: P.zip vs) m x = _
    unfold bindC
    exact bindC_get (i := i) (List.nodup_cons.mp nd).2 (by simpa using h1) (by simpa using h2) hk

/-- the names' values at the entry -/
def start (N : List Str) (vs : List V) : St := vs.map some ++ List.replicate (N.length - vs.length) none

/-- the context of a def's body, at its entry; an exception leaves the frame, then lies as CX says -/
def cxOf (CX : CXT) (P : Program) (w : World) (K : PySem.W.Frag) (mg : Str → Option Value) (base : Heap) (N : List Str) (qual : Str) (scope : Scope) (f : Addr) (cd : Value) (A : Around) (outer : List Env) (s : Shared) (H : Hp) (E : XK) : Cx where
  prog := P
  w := w
  K := K
  mg := mg
  base := base
  A := A.deeper (envOfC qual scope s.heap.objs.size f cd)
  N := N
  s₀ := s
  H₀ := H
  env := envOfC qual scope s.heap.objs.size f cd
  outer := outer
  stack := envOfC qual scope s.heap.objs.size f cd :: outer
  ex := []
  calm := CX.q
  fn := fun _ => true
  pn := []
  xe := fun e s' => wpAny (model P w) (A.deeper (envOfC qual scope s.heap.objs.size f cd)) (leaving (envOfC qual scope s.heap.objs.size f cd) e) (fun _ s'' => CX outer H s E e s'') (fun e' s'' => CX outer H s E e' s'') s'

theorem cell_has {sc : Scope} {n : Nat} {x : Str} (h : sc.names.lookup x = some .cell) : ∃ c, (cellsFrom n sc.names []).lookup x = some c := by
  have q := PySem.W.cellsFrom_some sc.names n [] (.inl h)
  exact Option.isSome_iff_exists.mp q

theorem inv_start {CX : CXT} {P : Program} {w : World} {K : PySem.W.Frag} {mg : Str → Option Value} {base : Heap} {N ps : List Str} {qual : Str} {scope : Scope} {f : Addr} {cd : Value} {A : Around} {outer : List Env} {s s1 : Shared} {H : Hp} {E : XK} {us : List Value} {vs : List V}
    (S : FnScope N ps scope) (hd : CX.q = true → A.handled = none) (e0 : Env0 P w K mg base A outer s H) (hl : vs.length = ps.length) (r : Vals vs us)
    (x : InCallC s s.heap.objs.size (bindL (envOfC qual scope s.heap.objs.size f cd).kindOf (ps.zip us) fun _ => none) (cellsFrom (s.heap.objs.size + 1) scope.names []) (bindC (envOfC qual scope s.heap.objs.size f cd).kindOf (ps.zip us) fun _ => none) s1) :
    Inv (cxOf CX P w K mg base N qual scope f cd A outer s H E) [] (start N vs) H s1 := by
  have hpl : ps.length ≤ N.length := by have := congrArg List.length S.pre; rw [List.length_take] at this; omega
  obtain ⟨h1, tk, rfl, hk⟩ := x.done
  have noA : ∀ b : Addr, b ∉ (cxOf CX P w K mg base N qual scope f cd A outer s H E).ex := fun b z => absurd (show b ∈ ([] : List Addr) from z) (by simp)
  refine ⟨⟨e0.mod, S.kind, rfl, rfl, Nat.le_refl _, fun y z c h1 h2 => ?_, fun y hy => ?_, fun y c _ h => ?_, hd, Around.frames_deeper e0.frames, .inr ⟨rfl, rfl⟩, fun b z => absurd z (noA b), e0.bs, e0.bsz, fun b _ _ => noA b, fun b z => absurd z (noA b), e0.funs, e0.frf⟩,
    rfl, e0.bare, Un.kept hk, ⟨_, x.toInCall.ns, fun i y v h1 h2 h3 => ?_⟩, fun y c h => ⟨_, x.cell y c h⟩, e0.hok.fresh (Nat.le_refl _), fun y c h => ?_, fun p hp => absurd (show p ∈ ([] : List (Addr × Obj)) from hp) (by simp), e0.hok.kept hk, ?_⟩
  · exact name_of_addr x.apart (PySem.mem_of_lookup h1) (PySem.mem_of_lookup h2)
  · have hy : scope.names.lookup y = some .cell ∨ scope.names.lookup y = some .free := hy
    rcases hy with hy | hy
    · exact cell_has hy
    · exact absurd rfl (S.nofree _ (PySem.mem_of_lookup hy))
  · exact Nat.le_of_lt (x.above y c (PySem.mem_of_lookup h))
  · have hi : i < vs.length := by
      unfold start at h2
      by_cases hi : i < vs.length
      · exact hi
      · rw [List.getElem?_append_right (by simpa using hi)] at h2
        rw [List.getElem?_replicate] at h2
        split at h2 <;> cases h2
    have ha : vs[i]? = some v := by
      unfold start at h2
      rw [List.getElem?_append_left (by simpa using hi), List.getElem?_map] at h2
      cases e : vs[i]? with
      | none => rw [e] at h2; cases h2
      | some a => rw [e] at h2; cases h2; rfl
    obtain ⟨u, hu, rv⟩ := r.get ha
    have hp : ps[i]? = some y := by
      rw [← S.pre, List.getElem?_take_of_lt (by omega)]; exact h1
    have ndP : ps.Nodup := by rw [← S.pre]; exact S.nd.sublist (List.take_sublist _ _)
    refine ⟨u, rv, ?_⟩
    rcases S.par y (List.mem_of_getElem? hp) with k | k
    · exact .inl ⟨k, bindL_get ndP hp hu k⟩
    · obtain ⟨c, e⟩ := cell_has (n := s.heap.objs.size + 1) k
      refine .inr ⟨.inl k, c, e, ?_⟩
      have q := x.cell y c e
      rw [bindC_get ndP hp hu (by show scope.names.lookup y ≠ _; rw [k]; decide)] at q
      exact q
  · exact e0.hok.fresh (Nat.le_of_lt (x.above y c (PySem.mem_of_lookup h)))
  · unfold start
    show _ = N.length
    rw [List.length_append, List.length_map, List.length_replicate]
    omega

/-- THE RULE: a def (or a method) of the text, by its body. The body's reading t is chosen for each entry; it is run at the parameters' values -/
theorem fn_of {CX : CXT} {P : Program} {w : World} {K : PySem.W.Frag} {mg : Str → Option Value} {base : Heap} {k : Nat} {f : Addr} {name qual : Str} {params : Arguments} {body : List Stmt} {scope : Scope} {dV kV doc pm cdv ct oc : Value} {an od : Option Addr}
    {osl : Array (Option Value)} {N ps : List Str} {sp : Sp} (lk : K.lookup f = some ⟨oc, od, .func (PySem.W.fnOf name qual params body scope dV kV doc pm an cdv ct), osl⟩) (hcd : PySem.W.codeIn K cdv qual = true) (S : FnScope N ps scope)
    (len : ∀ vs H Q E, sp vs H Q E → vs.length = ps.length)
    (hbody : ∀ (A : Around) (outer : List Env) (s : Shared) (H : Hp) (vs : List V) (Q : VK) (E : XK), Room k (A.deeper (envOfC qual scope s.heap.objs.size f cdv)) → sp vs H Q E →
      ∃ t, PSs (cxOf CX P w K mg base N qual scope f cdv A outer s H E) body t ∧ t { nx := fun _ H' => Q .non H', rt := Q } (start N vs) H) :
    FnOk P w K mg base CX (k + 1) f (PySem.W.fnOf name qual params body scope dV kV doc pm an cdv ct) ps sp := by
  refine ⟨len, fun A outer s H args us vs Q E hr hq0 e0 hb r hsp => ?_⟩
  have hl := len _ _ _ _ hsp
  have KX : K.In s.heap := e0.mod.kin.keeps fun b o e => (e0.bs b o e).1
  have lim : s.heap.NoLimit := e0.mod.nolimit.keeps fun b o e => (e0.bs b o e).1
  have hkind : ∀ y ∈ ps.zip us, scope.names.lookup y.1 = some .local ∨ (scope.names.lookup y.1 = some .cell ∧ ((cellsFrom (s.heap.objs.size + 1) scope.names []).lookup y.1).isSome = true) := fun ⟨n, v⟩ hy => by
    rcases S.par n (List.of_mem_zip hy).1 with q | q
    · exact .inl q
    · exact .inr ⟨q, PySem.W.cellsFrom_some _ _ _ (.inl q)⟩
  refine codeAny_call_function hr.depth (KX _ _ lk) rfl S.co S.gen rfl (PySem.W.codeRec_of KX hcd) (hb _ _ _ _ ?_)
  refine wpAny_newFunctionEnv_cells S.kind hkind fun env he s1 x => ?_
  subst he
  refine ⟨lim.keeps x.toInCall.keep, codeAny_func ?_⟩
  obtain ⟨t, ht, hq⟩ := hbody A outer s H vs Q E (hr.deeper _) hsp
  have I : Inv (cxOf CX P w K mg base N qual scope f cdv A outer s H E) [] (start N vs) H s1 := inv_start S hq0 e0 hl r x
  refine wpAny_mono (ht [] s1 (start N vs) H _ I hq) (fun fl s' hs => ?_) fun e s' hs => hs
  have fin : ∀ {σ' : St} {H' : Hp} {v : V} {u : Value}, Inv (cxOf CX P w K mg base N qual scope f cdv A outer s H E) [] σ' H' s' → RelV v u → Q v H' → CE outer P w H s Q u s' :=
    fun {σ' H' v u} J rv q => ⟨v, H', J.os, J.bare, J.base, J.hok, rv, q⟩
  cases fl with
  | ret u =>
    obtain ⟨v, σ', H', J, rv, q⟩ := hs
    exact fin J rv q
  | next =>
    obtain ⟨σ', H', J, q⟩ := hs
    exact fin (v := V.non) (u := Value.none) J rfl q
  | brk =>
    obtain ⟨_, _, _, q⟩ := hs
    exact False.elim q
  | cont =>
    obtain ⟨_, _, _, q⟩ := hs
    exact False.elim q
end L2

namespace L2
open PySem PySem.Spec PyProof.Rows
section
variable {X : Cx} {x : Str} {p pos : Pos} {e : Expr} {es : List Expr} {t : TA} {id T : String} {r : List V → Hp → VK → Prop}

def tCB (r : List V → Hp → VK → Prop) (t : TA) : TE := fun σ H Q => t σ H fun vs H1 => r vs H1 Q
/-- f(e, ..), f a built-in function -/
theorem pe_callB (hc : CallR X (.builtin id) r) (hg : Gl X x) (hm : X.mg x = none) (hv : bootBuiltins x = some (.builtin id)) (ha : PA X (e :: es) t) (hn : x ≠ "__name__" := by decide) (hdb : (x == ("__debug__" : Str)) = false := by decide)
    (he : starEach (e :: es) X.env = (false, eval e X.env) :: starEach es X.env := by rfl) (hpl : (backTo pos (starEach es X.env)).any (·.1) = false := by rfl) : PE X (.Call (.Name x p) (e :: es) [] pos) (tCB r t) := by
  intro pins s σ H Q I h
  refine wpAny_Call_Name_kw (ld_blt I hg hm hv ?_ hn hdb)
  exact PyProof.Rows.callWith_builtin1 (thn (ha pos pins s σ H _ I h) fun us s1 ⟨vs, H1, I1, r1, q1⟩ => hc pins s1 σ H1 vs us Q I1 r1 q1) he hpl
/-- T(e, ..), T a built-in type -/
theorem pe_callTy (hc : CallR X (.type T) r) (hg : Gl X x) (hm : X.mg x = none) (hv : bootBuiltins x = some (.type T)) (ha : PA X (e :: es) t) (hn : x ≠ "__name__" := by decide) (hdb : (x == ("__debug__" : Str)) = false := by decide)
    (he : starEach (e :: es) X.env = (false, eval e X.env) :: starEach es X.env := by rfl) (hpl : (backTo pos (starEach es X.env)).any (·.1) = false := by rfl) : PE X (.Call (.Name x p) (e :: es) [] pos) (tCB r t) := by
  intro pins s σ H Q I h
  refine wpAny_Call_Name_kw (ld_blt I hg hm hv ?_ hn hdb)
  exact PyProof.Rows.callWith_type1 (thn (ha pos pins s σ H _ I h) fun us s1 ⟨vs, H1, I1, r1, q1⟩ => hc pins s1 σ H1 vs us Q I1 r1 q1) he hpl
end
end L2


namespace HT
open PySem PyProof.Rows

section
open PySem.SeqAt
open PySem.AutoSeq1 (wpAny_loadPart')
open PySem.MeetsSeq PySem.MeetsSeq2 PySem.MeetsSeq3

end

section
variable {prog : Program} {w : World} {A : Around} {E : Value → Shared → Prop} {s : Shared}

/-- t + u, t not empty -/
theorem cat_tup {t b : Addr} {vs ws : List Value} {Q : Value → Shared → Prop} (ht : IsTup s.heap t vs.toArray) (hb : IsTup s.heap b ws.toArray) (hv : vs ≠ [])
    (h1 : ws = [] → Q (.ref t) s) (h2 : ws ≠ [] → Q (.ref s.heap.objs.size) { s with heap := s.heap.push { cls := .type "tuple", data := .seq (vs ++ ws).toArray } })
    (hsz : vs.length + ws.length ≤ sizeLine) : wpAny (model prog w) A (binaryOp .Add (.ref t) (.ref b)) Q E s := by
  obtain ⟨⟨cls, dd, data, sl⟩, ho, hc, n, hd⟩ := id ht
  obtain ⟨⟨cls2, dd2, data2, sl2⟩, ho2, hc2, n2, hd2⟩ := id hb
  simp only at hc hd hc2 hd2
  subst hc hd hc2 hd2
  have e : vs.toArray ++ ws.toArray = (vs ++ ws).toArray := by simp
  by_cases hw : ws = []
  · exact concat_meets ⟨_, ho, rfl⟩ ⟨_, ho2, rfl⟩ noFill_tuple_add seq_tuple_add PySem.F.slot_tuple_add PySem.F.entry_tuple_add (PySem.F.args_tuple_add_2 _ _)
      (tuple_addW1 t b vs.toArray ws.toArray n n2 dd dd2 sl sl2 (by simpa using hv) (by simp [hw])) ⟨ho, ho2, h1 hw⟩
  · refine concat_meets ⟨_, ho, rfl⟩ ⟨_, ho2, rfl⟩ noFill_tuple_add seq_tuple_add PySem.F.slot_tuple_add PySem.F.entry_tuple_add (PySem.F.args_tuple_add_2 _ _)
      (tuple_addW2 t b vs.toArray ws.toArray n n2 dd dd2 sl sl2 (by simpa using hv) (by simpa using hw) (by rw [List.size_toArray, List.size_toArray]; exact hsz)) ⟨ho, ho2, ?_⟩
    rw [e]
    exact h2 hw

/-! ### t[a:b], not the whole -/
/-- a slice's bound as a place among n (d where it is left out) -/
def sIx (n d : Nat) : Option Int → Nat
  | none => d
  | some v => if v < 0 then (v + (n : Int)).toNat else min v.toNat n
end
end HT

namespace L2
open PySem PySem.Spec PyProof.Rows

/-! ### the parts of a slice -/
abbrev TO := St → Hp → (Option Int → Hp → Prop) → Prop
/-- a slice's part (left out, or an int) -/
def PO (X : Cx) (e : Option Expr) (t : TO) : Prop :=
  ∀ (pins : List (Addr × Obj)) (s : Shared) (σ : St) (H : Hp) (Q : Option Int → Hp → Prop), Inv X pins σ H s → t σ H Q →
    wpAny (model X.prog X.w) X.A (evalPart e X.env) (fun u s' => ∃ o H', Inv X pins σ H' s' ∧ IsPart u o ∧ Q o H') X.xe s
def tNoPart : TO := fun _ H Q => Q none H
def tPart (t : TE) : TO := fun σ H Q => t σ H fun x H1 => ∃ i, x = .int i ∧ Q (some i) H1

section
variable {X : Cx} {e : Expr} {te : TE} {lo hi : Option Expr} {tl th : TO} {pos p2 : Pos}

theorem po_none : PO X none tNoPart := by
  intro pins s σ H Q I h
  rw [evalPart_none]
  exact wpAny_pure ⟨none, H, I, .none, h⟩
theorem po_some (h : PE X e te) : PO X (some e) (tPart te) := by
  intro pins s σ H Q I hw
  rw [evalPart_some]
  refine thn (h pins s σ H _ I hw) fun u s1 ⟨x, H1, I1, r1, q1⟩ => ?_
  obtain ⟨i, rfl, q⟩ := q1
  obtain ⟨t, rfl⟩ := r1
  exact ⟨some i, H1, I1, .int i t, q⟩

/-- what a slice of a value is, by values: the slice object stands at sl -/
def SlR (X : Cx) (r : V → Option Int → Option Int → Hp → VK → Prop) : Prop :=
  ∀ (pins : List (Addr × Obj)) (s : Shared) (σ : St) (H : Hp) (x : V) (v vl vu : Value) (lo hi : Option Int) (sl : Addr) (Q : VK), Inv X pins σ H s → RelV x v → s.heap.IsSliceOf sl vl vu .none → IsPart vl lo → IsPart vu hi → r x lo hi H Q →
    ∃ T id, typeLookup (.type T) "__getitem__" = pure (some (.builtin id)) ∧ s.TypeIs v T ∧ wpAny (model X.prog X.w) X.A (getItem v (.ref sl)) (EP X pins σ Q) X.xe s
theorem SlR.or {r r' : V → Option Int → Option Int → Hp → VK → Prop} (h : SlR X r) (h' : SlR X r') : SlR X (fun x lo hi H Q => r x lo hi H Q ∨ r' x lo hi H Q) := by
  intro pins s σ H x v vl vu lo hi sl Q I rx hs pl pu q
  rcases q with q | q
  · exact h pins s σ H x v vl vu lo hi sl Q I rx hs pl pu q
  · exact h' pins s σ H x v vl vu lo hi sl Q I rx hs pl pu q
def tSl (r : V → Option Int → Option Int → Hp → VK → Prop) (te : TE) (tl th : TO) : TE := fun σ H Q => te σ H fun x H1 => tl σ H1 fun l H2 => th σ H2 fun u H3 => r x l u H3 Q
/-- a[lo:hi], any a -/
theorem pe_slice {r : V → Option Int → Option Int → Hp → VK → Prop} (hr : SlR X r) (he : PE X e te) (hl : PO X lo tl) (hu : PO X hi th) : PE X (.Subscript e (.Slice lo hi none p2) pos) (tSl r te tl th) := by
  intro pins s σ H Q I h
  refine Subscript_ (thn (he pins s σ H _ I h) fun v s1 ⟨x, H1, I1, r1, q1⟩ => ?_)
  refine wpAny_Slice (thn (hl pins s1 σ H1 _ I1 q1) fun vl s2 ⟨l, H2, I2, pl, q2⟩ => thn (hu pins s2 σ H2 _ I2 q2) fun vu s3 ⟨u, H3, I3, pu, q3⟩ => ?_)
  rw [evalPart_none]
  refine wpAny_pure ?_
  have I4 : Inv X pins σ H3 { s3 with heap := s3.heap.push { cls := .type "slice", data := .fields #[vl, vu, .none] } } := I3.kept (t' := s3.toks) fun b ob q => Heap.get?_push_of_some _ q
  obtain ⟨T, id, hT, ht, hg⟩ := hr pins { s3 with heap := s3.heap.push { cls := .type "slice", data := .fields #[vl, vu, .none] } } σ H3 x v vl vu l u s3.heap.objs.size Q I4 r1 (Heap.IsSliceOf.new ..) pl pu q3
  show wpAny (model X.prog X.w) X.A (subscriptTail e (.Slice lo hi none p2) v (.ref s3.heap.objs.size)) (EP X pins σ Q) X.xe { s3 with heap := s3.heap.push { cls := .type "slice", data := .fields #[vl, vu, .none] } }
  exact tail_any (ops := [.ref s3.heap.objs.size, v]) ht hT hg (by with_unfolding_all rfl)

/-- the items of xs[lo:hi] -/
def cutV (xs : List V) (lo hi : Option Int) : List V := (xs.drop (HT.sIx xs.length 0 lo)).take (HT.sIx xs.length xs.length hi - HT.sIx xs.length 0 lo)
theorem cutV_length (xs : List V) (lo hi : Option Int) : (cutV xs lo hi).length ≤ xs.length := by
  unfold cutV
  rw [List.length_take, List.length_drop]
  omega
/-! ### t < u, t + u -/
/-- t + u, t not empty: u empty gives t itself -/
def rCatT (K : PySem.W.Frag) : R2 := fun x y H Q => ∃ a b xs ys, x = .ref a ∧ y = .ref b ∧ SqT K H a xs ∧ SqT K H b ys ∧ xs ≠ [] ∧ xs.length + ys.length ≤ sizeLine ∧
  (ys = [] → Q (.ref a) H) ∧ (ys ≠ [] → ∀ p, H p = none → Q (.ref p) (upd H p (.tup (xs ++ ys))))
theorem Vals.nil_iff {xs : List V} {us : List Value} (r : Vals xs us) : us = [] ↔ xs = [] := by
  cases r with
  | nil => simp
  | cons _ _ => simp
theorem op_catT : OpR X (binaryOp .Add) (rCatT X.K) := by
  intro pins s σ H x y v u Q I rx ry h
  obtain ⟨a, b, xs, ys, rfl, rfl, ha, hb, hx, hz, q1, q2⟩ := h
  cases rx
  cases ry
  obtain ⟨its, r1, p1, _⟩ := I.tuple ha
  obtain ⟨its2, r2, p2, _⟩ := I.tuple hb
  refine HT.cat_tup p1 p2 (fun z => hx (r1.nil_iff.mp z)) (fun z => ⟨.ref a, H, I, rfl, q1 (r2.nil_iff.mp z)⟩) (fun z => ?_) (by rw [← r1.length, ← r2.length]; exact hz)
  refine ⟨.ref s.heap.objs.size, _, I.laid (t' := s.toks) (o := .tup (xs ++ ys)) (fun b ob q => Heap.get?_push_of_some _ q) (Nat.le_refl _) ?_, rfl, q2 (fun w => z (r2.nil_iff.mpr w)) _ (I.hok.fresh (Nat.le_refl _))⟩
  exact ⟨by rw [List.length_append]; exact hz, _, r1.append r2, IsTup.new _ _⟩
end
end L2

namespace L2
open PySem PySem.Spec PyProof.Rows

/-! ### places -/
/-- the place that an index of any sign means -/
def ixN (n : Nat) (i : Int) : Option Nat := if 0 ≤ i then (if i < n then some i.toNat else none) else if -(n : Int) ≤ i then some (i + n).toNat else none
def atI {α : Type} (xs : List α) (i : Int) : Option α := (ixN xs.length i).bind fun j => xs[j]?
theorem ixN_seq {n : Nat} {i : Int} {j : Nat} (h : ixN n i = some j) : seqIndex? i n = some j ∧ j < n ∧ -(n : Int) ≤ i ∧ i < n := by
  unfold ixN at h
  by_cases h0 : 0 ≤ i
  · rw [if_pos h0] at h
    by_cases h1 : i < n
    · rw [if_pos h1] at h
      have e : i.toNat = j := Option.some.inj h
      exact ⟨by rw [seqIndex_of h0 h1, e], by omega, by omega, h1⟩
    · rw [if_neg h1] at h; cases h
  · rw [if_neg h0] at h
    by_cases h1 : -(n : Int) ≤ i
    · rw [if_pos h1] at h
      have e : (i + n).toNat = j := Option.some.inj h
      exact ⟨by rw [seqIndex_neg (by omega) h1, e], by omega, h1, by omega⟩
    · rw [if_neg h1] at h; cases h
theorem atI_get {α : Type} {xs : List α} {i : Int} {v : α} (h : atI xs i = some v) : ∃ j, seqIndex? i xs.length = some j ∧ xs[j]? = some v ∧ j < xs.length ∧ -(xs.length : Int) ≤ i ∧ i < xs.length := by
  unfold atI at h
  cases e : ixN xs.length i with
  | none => rw [e] at h; cases h
  | some j =>
    rw [e] at h
    obtain ⟨h1, h2, h3, h4⟩ := ixN_seq e
    exact ⟨j, h1, h, h2, h3, h4⟩
/-! ### what may be subscripted -/
/-- what stands as an index of a plain subscript -/
def PlainIx (b : Expr) : Prop := ∀ o i, subscripted b false o i = operate [o, i] (getItem o i)
/-- a subscript by values -/
def IxR (X : Cx) (r : R2) : Prop :=
  ∀ (value slice : Expr) (pins : List (Addr × Obj)) (s : Shared) (σ : St) (H : Hp) (x y : V) (v u : Value) (Q : VK), Inv X pins σ H s → RelV x v → RelV y u → r x y H Q →
    subscripted slice false v u = operate [v, u] (getItem v u) → wpAny (model X.prog X.w) X.A (subscriptTail value slice v u) (EP X pins σ Q) X.xe s
/-- a call of a builtin's method by values: the receiver, the arguments -/
def MtR (X : Cx) (id : String) (r : V → List V → Hp → VK → Prop) : Prop :=
  ∀ (pins : List (Addr × Obj)) (s : Shared) (σ : St) (H : Hp) (x : V) (xs : List V) (v : Value) (us : List Value) (Q : VK), Inv X pins σ H s → RelV x v → Vals xs us → r x xs H Q →
    wpAny (model X.prog X.w) X.A (call (.builtin id) (v :: us)) (EP X pins σ Q) X.xe s
section
variable {X : Cx} {a b : Expr} {ta tb : TE} {pos : Pos}
theorem IxR.or {r r' : R2} (h : IxR X r) (h' : IxR X r') : IxR X (fun x y H Q => r x y H Q ∨ r' x y H Q) := by
  intro value slice pins s σ H x y v u Q I rx ry q hs
  rcases q with q | q
  · exact h value slice pins s σ H x y v u Q I rx ry q hs
  · exact h' value slice pins s σ H x y v u Q I rx ry q hs
theorem MtR.or {id : String} {r r' : V → List V → Hp → VK → Prop} (h : MtR X id r) (h' : MtR X id r') : MtR X id (fun x xs H Q => r x xs H Q ∨ r' x xs H Q) := by
  intro pins s σ H x xs v us Q I rx rs q
  rcases q with q | q
  · exact h pins s σ H x xs v us Q I rx rs q
  · exact h' pins s σ H x xs v us Q I rx rs q
/-- a[b] -/
theorem pe_ix {r : R2} (hr : IxR X r) (ha : PE X a ta) (hb : PE X b tb) (hs : PlainIx b) : PE X (.Subscript a b pos) (tOp r ta tb) := by
  intro pins s σ H Q I h
  exact Subscript_ (binT ha hb I h fun v u s2 x y H2 I2 rx ry q => hr a b pins s2 σ H2 x y v u Q I2 rx ry q (hs _ _))

def rIxL (K : PySem.W.Frag) : R2 := fun x y H Q => ∃ p xs i v, x = .ref p ∧ y = .int i ∧ SqL K H p xs ∧ atI xs i = some v ∧ Q v H
def rIxT (K : PySem.W.Frag) : R2 := fun x y H Q => ∃ p xs i v, x = .ref p ∧ y = .int i ∧ SqT K H p xs ∧ atI xs i = some v ∧ Q v H
def rIxS : R2 := fun x y H Q => ∃ z i c, x = .str z ∧ y = .int i ∧ z.length ≤ sizeLine ∧ atI z.cps.toList i = some c ∧ Q (.str ⟨#[c]⟩) H
theorem ix_list : IxR X (rIxL X.K) := by
  intro value slice pins s σ H x y v u Q I rx ry h hs
  obtain ⟨p, xs, i, z, rfl, rfl, hq, he, q⟩ := h
  cases rx
  obtain ⟨t, rfl⟩ := ry
  obtain ⟨its, r, pl, hz⟩ := I.list hq
  obtain ⟨j, h1, h2, h3, h4, h5⟩ := atI_get he
  obtain ⟨w, ew, rw'⟩ := r.get h2
  have hl := r.length
  have hn := line63
  have fin : EP X pins σ Q w s := ⟨z, H, I, rw', q⟩
  by_cases h0 : 0 ≤ i
  · have hj : i.toNat = j := by
      rw [seqIndex_of h0 h5] at h1
      exact Option.some.inj h1
    exact item_listR pl.isList h0 (by omega) (by rw [hj]; simpa using ew) fin hs
  · have hj : (i + (its.toArray.size : Int)).toNat = j := by
      rw [seqIndex_neg (by omega) h4] at h1
      rw [List.size_toArray, ← hl]
      exact Option.some.inj h1
    exact subscriptTail_builtinR (x := w) pl.isList.typeIs slot_list_getitem.lookup
      (wpAny_getItem_list_neg (Q := fun r s' => r = w ∧ EP X pins σ Q r s') pl.isList (by omega) (by rw [List.size_toArray] <;> omega) (by omega) (by rw [hj]; simpa using ew) ⟨rfl, fin⟩) hs
theorem ix_tup : IxR X (rIxT X.K) := by
  intro value slice pins s σ H x y v u Q I rx ry h hs
  obtain ⟨p, xs, i, z, rfl, rfl, hq, he, q⟩ := h
  cases rx
  obtain ⟨t, rfl⟩ := ry
  obtain ⟨its, r, pl, hz⟩ := I.tuple hq
  obtain ⟨j, h1, h2, h3, h4, h5⟩ := atI_get he
  obtain ⟨w, ew, rw'⟩ := r.get h2
  have hl := r.length
  have hn := line63
  have fin : EP X pins σ Q w s := ⟨z, H, I, rw', q⟩
  exact subscriptTail_builtinR (x := w) pl.typeIs slot_tuple_getitem.lookup
    (getItem_tuple (j := j) (Q := fun r s' => r = w ∧ EP X pins σ Q r s') pl (by omega) (by omega) (by rw [List.size_toArray, ← hl]; exact h1) (by simpa using ew) ⟨rfl, fin⟩) hs
theorem ix_str : IxR X rIxS := by
  intro value slice pins s σ H x y v u Q I rx ry h hs
  obtain ⟨z, i, c, rfl, rfl, hz, he, q⟩ := h
  obtain ⟨t, rfl⟩ := rx
  obtain ⟨t', rfl⟩ := ry
  obtain ⟨j, h1, h2, h3, h4, h5⟩ := atI_get he
  have hl : z.cps.toList.length = z.length := by simp [Str.length]
  rw [hl] at h1 h4 h5
  have hn := line63
  exact tail_any (typeIs_str s z t) slot_str_getitem.lookup (getItem_str (c := c) (by
    have e1 : decide (i < -(2 ^ 63 : Int)) = false := decide_eq_false (by omega)
    have e2 : decide (i ≥ 2 ^ 63) = false := decide_eq_false (by omega)
    rw [e1, e2, Bool.or_false]) (by rw [h1]; simpa using h2) ⟨.str ⟨#[c]⟩, H, I.tok _, ⟨_, rfl⟩, q⟩) hs
/-- list, tuple or str -/
def rIx (K : PySem.W.Frag) : R2 := fun x y H Q => rIxL K x y H Q ∨ rIxT K x y H Q ∨ rIxS x y H Q
theorem ix_seq : IxR X (rIx X.K) := ix_list.or (ix_tup.or ix_str)

/-! ### xs[i] = v, any sign -/
/-- the list's object behind a store -/
theorem mapSeq_set (its : List Value) (n j : Nat) (u : Value) : Obj.mapSeq (·.setIfInBounds j u) { cls := .type "list", data := .seq its.toArray n } = { cls := .type "list", data := .seq (its.set j u).toArray n } := by
  simp [Obj.mapSeq]
theorem Inv.lst {pins : List (Addr × Obj)} {σ : St} {H : Hp} {s : Shared} {p : Addr} {xs : List V} (I : Inv X pins σ H s) (h : H p = some (.lst xs)) :
    ∃ (its : List Value) (n : Nat), Vals xs its ∧ s.heap.get? p = some { cls := .type "list", data := .seq its.toArray n } ∧ xs.length ≤ sizeLine := by
  obtain ⟨z, its, n, r, e⟩ := I.hok p _ h
  exact ⟨its, n, r, e, z⟩
/-- the list at p is written by an update of its object -/
theorem Inv.lstUpd {pins : List (Addr × Obj)} {σ : St} {H : Hp} {s : Shared} {p : Addr} {xs ys : List V} {its its' : List Value} {n n' : Nat} {f : Obj → Obj} (I : Inv X pins σ H s) (h : H p = some (.lst xs))
    (ho : s.heap.get? p = some { cls := .type "list", data := .seq its.toArray n }) (hf : f { cls := .type "list", data := .seq its.toArray n } = { cls := .type "list", data := .seq its'.toArray n' }) (r : Vals ys its') (hz : ys.length ≤ sizeLine) (t : Nat) :
    Inv X pins σ (upd H p (.lst ys)) { s with heap := s.heap.update p f, toks := t } := by
  have e : (s.heap.update p f).get? p = some { cls := .type "list", data := .seq its'.toArray n' } := by
    rw [Heap.get?_update_self f ho (by rw [hf] <;> rfl), hf]
  refine I.write (x := p) (e := p) (by rw [h]; trivial) (.inl rfl) (fun b u hb q => (Heap.get?_update_other _ _ (Ne.symm hb)).trans q) ⟨_, e⟩ ?_
  exact ⟨hz, its', n', r, e⟩
def rSetL : V → V → V → Hp → (Hp → Prop) → Prop := fun o i v H Q => ∃ p xs k j, o = .ref p ∧ i = .int k ∧ H p = some (.lst xs) ∧ ixN xs.length k = some j ∧ Q (upd H p (.lst (xs.set j v)))
theorem set_list : PSet X rSetL := by
  intro pins s σ H o i v ov iv u Q I ro ri rv h
  obtain ⟨p, xs, k, j, rfl, rfl, hp, hj, q⟩ := h
  cases ro
  obtain ⟨t, rfl⟩ := ri
  obtain ⟨its, n, r, ho, hz⟩ := I.lst hp
  obtain ⟨h1, h2, h3, h4⟩ := ixN_seq hj
  have hl := r.length
  have hn := line63
  have I' : Inv X pins σ (upd H p (.lst (xs.set j v))) { s with heap := s.heap.update p (Obj.mapSeq (·.setIfInBounds j u)) } :=
    I.lstUpd hp ho (mapSeq_set its n j u) (r.set rv j) (by rw [List.length_set]; exact hz) s.toks
  by_cases h0 : 0 ≤ k
  · have hk : k.toNat = j := by
      rw [seqIndex_of h0 h4] at h1
      exact Option.some.inj h1
    exact PySem.W.ki_setAt ho h0 (by omega) (by rw [List.size_toArray, ← hl]; exact h4) (by rw [hk]; exact ⟨_, I', q⟩)
  · have hk : (k + (its.toArray.size : Int)).toNat = j := by
      rw [seqIndex_neg (by omega) h3] at h1
      rw [List.size_toArray, ← hl]
      exact Option.some.inj h1
    exact PySem.W.ki_setBack ho (by omega) (by rw [List.size_toArray, ← hl]; exact h3) (by omega) (by rw [hk]; exact ⟨_, I', q⟩)

/-! ### slices -/
theorem slice_bounds (lo hi : Option Int) (n : Nat) : (sliceBounds lo hi none n).1 = ((HT.sIx n 0 lo : Nat) : Int) ∧ (sliceBounds lo hi none n).2.1 = ((HT.sIx n n hi : Nat) : Int) ∧ (sliceBounds lo hi none n).2.2 = 1 := by
  refine ⟨?_, ?_, rfl⟩
  · cases lo with
    | none => simp [sliceBounds, HT.sIx]
    | some i =>
      simp only [sliceBounds, HT.sIx, Option.getD_none, show (1 : Int) > 0 by decide, if_true]
      by_cases h : i < 0
      · simp only [h, if_true] <;> omega
      · simp only [h, if_false] <;> omega
  · cases hi with
    | none => simp [sliceBounds, HT.sIx]
    | some i =>
      simp only [sliceBounds, HT.sIx, Option.getD_none, show (1 : Int) > 0 by decide, if_true]
      by_cases h : i < 0
      · simp only [h, if_true] <;> omega
      · simp only [h, if_false] <;> omega
theorem slicePick_cut (its : List Value) (lo hi : Option Int) : slicePick its.toArray lo hi none = ((its.drop (HT.sIx its.length 0 lo)).take (HT.sIx its.length its.length hi - HT.sIx its.length 0 lo)).toArray := by
  obtain ⟨h1, h2, h3⟩ := slice_bounds lo hi its.toArray.size
  unfold slicePick
  rw [h1, h2, h3]
  simp only [sliceRange_one, pick_run, List.size_toArray] <;> rfl
/-- xs[lo:hi] of a list: a new list -/
def rSlL (K : PySem.W.Frag) : V → Option Int → Option Int → Hp → VK → Prop := fun x lo hi H Q => ∃ a xs, x = .ref a ∧ SqL K H a xs ∧ ∀ p, H p = none → Q (.ref p) (upd H p (.lst (cutV xs lo hi)))
theorem sl_list : SlR X (rSlL X.K) := by
  intro pins s σ H x v vl vu lo hi sl Q I rx hs pl pu h
  obtain ⟨a, xs, rfl, hx, q⟩ := h
  cases rx
  obtain ⟨its, r, ht, hz⟩ := I.list hx
  have hlen := r.length
  refine ⟨"list", _, slot_list_getitem.lookup, ht.isList.typeIs, ?_⟩
  refine wpAny_getItem_list_slice ht.isList hs pl pu .none (by simp) ?_ (by rw [List.size_toArray] <;> omega)
  rw [slicePick_cut, ← hlen]
  refine ⟨.ref s.heap.objs.size, _, I.laid (t' := s.toks) (o := .lst (cutV xs lo hi)) (fun b ob q => Heap.get?_push_of_some _ q) (Nat.le_refl _) ?_, rfl, q _ (I.hok.fresh (Nat.le_refl _))⟩
  exact ⟨Nat.le_trans (cutV_length xs lo hi) hz, _, 0, (r.drop (HT.sIx xs.length 0 lo)).take (HT.sIx xs.length xs.length hi - HT.sIx xs.length 0 lo), Heap.get?_push_size _ rfl⟩

/-! ### in, not in: flat items -/
def flatV : V → Bool
  | .non => true
  | .bl _ => true
  | .int _ => true
  | .str _ => true
  | _ => false
/-- == of flat values -/
def eqV : V → V → Bool
  | .non, .non => true
  | .bl a, .bl b => a == b
  | .bl a, .int b => (if a then 1 else 0) == b
  | .int a, .bl b => a == (if b then 1 else 0)
  | .int a, .int b => a == b
  | .str a, .str b => a == b
  | _, _ => false
theorem eqAt_V {A : Around} {s : Shared} {y x : V} {u v : Value} (ry : RelV y u) (rx : RelV x v) (fy : flatV y = true) (fx : flatV x = true) : SeqAt.EqAt A s u v (eqV y x) := by
  cases y with
  | non =>
    cases ry
    cases x with
    | non => cases rx; exact SeqAt.EqAt.same _
    | bl b => cases rx; exact SeqAt.EqAt.none_bool b
    | int b => obtain ⟨t, rfl⟩ := rx; exact SeqAt.EqAt.none_int b t
    | str b => obtain ⟨t, rfl⟩ := rx; exact SeqAt.EqAt.none_str b t
    | _ => exact absurd (show false = true from fx) Bool.false_ne_true
  | bl a =>
    cases ry
    cases x with
    | non => cases rx; exact SeqAt.EqAt.bool_none a
    | bl b => cases rx; exact SeqAt.EqAt.bool_bool a b
    | int b => obtain ⟨t, rfl⟩ := rx; exact SeqAt.EqAt.bool_int a b t
    | str b => obtain ⟨t, rfl⟩ := rx; exact SeqAt.EqAt.bool_str a b t
    | _ => exact absurd (show false = true from fx) Bool.false_ne_true
  | int a =>
    obtain ⟨t', rfl⟩ := ry
    cases x with
    | non => cases rx; exact SeqAt.EqAt.int_none a t'
    | bl b => cases rx; exact SeqAt.EqAt.int_bool a t' b
    | int b => obtain ⟨t, rfl⟩ := rx; exact SeqAt.EqAt.int_int a t' b t
    | str b => obtain ⟨t, rfl⟩ := rx; exact SeqAt.EqAt.int_str a t' b t
    | _ => exact absurd (show false = true from fx) Bool.false_ne_true
  | str a =>
    obtain ⟨t', rfl⟩ := ry
    cases x with
    | non => cases rx; exact SeqAt.EqAt.str_none a t'
    | bl b => cases rx; exact SeqAt.EqAt.str_bool a t' b
    | int b => obtain ⟨t, rfl⟩ := rx; exact SeqAt.EqAt.str_int a t' b t
    | str b => obtain ⟨t, rfl⟩ := rx; exact SeqAt.EqAt.str_str a t' b t
    | _ => exact absurd (show false = true from fx) Bool.false_ne_true
  | _ => exact absurd (show false = true from fy) Bool.false_ne_true
/-- the items' answers, read off the values (a value's own answer does not lean on its token) -/
def eqU (x : V) (u : Value) : Bool := match u with
  | .none => eqV .non x
  | .bool b => eqV (.bl b) x
  | .int i _ => eqV (.int i) x
  | .str z _ => eqV (.str z) x
  | _ => false
theorem eqU_of {x y : V} {u : Value} (r : RelV y u) (f : flatV y = true) : eqU x u = eqV y x := by
  cases y with
  | non => cases r; rfl
  | bl b => cases r; rfl
  | int i => obtain ⟨t, rfl⟩ := r; rfl
  | str z => obtain ⟨t, rfl⟩ := r; rfl
  | _ => exact absurd (show false = true from f) Bool.false_ne_true
theorem any_eqU {x : V} : ∀ {xs : List V} {us : List Value}, Vals xs us → xs.all flatV = true → us.any (eqU x) = xs.any fun y => eqV y x
  | _, _, .nil, _ => rfl
  | y :: xs, u :: us, .cons r t, f => by
    rw [List.all_cons, Bool.and_eq_true] at f
    rw [List.any_cons, List.any_cons, eqU_of r f.1, any_eqU t f.2]
theorem mem_eqAt {A : Around} {s : Shared} {x : V} {v : Value} (rx : RelV x v) (fx : flatV x = true) : ∀ {xs : List V} {us : List Value}, Vals xs us → xs.all flatV = true → ∀ u ∈ us, SeqAt.EqAt A s u v (eqU x u)
  | _, _, .nil, _ => fun u hu => by cases hu
  | y :: xs, u :: us, .cons r t, f => fun u' hu => by
    rw [List.all_cons, Bool.and_eq_true] at f
    rcases List.mem_cons.mp hu with rfl | hu
    · rw [eqU_of r f.1]; exact eqAt_V r rx f.1 fx
    · exact mem_eqAt rx fx t f.2 u' hu
def inV (x : V) (xs : List V) : Bool := xs.any fun y => eqV y x
/-- x in a list or tuple of flat items -/
def rIn (K : PySem.W.Frag) (neg : Bool) : R2 := fun x y H Q => ∃ p xs, y = .ref p ∧ (SqL K H p xs ∨ SqT K H p xs) ∧ flatV x = true ∧ xs.all flatV = true ∧ Q (.bl (if neg then !inV x xs else inV x xs)) H
theorem op_notIn_seq : OpR X (compareOp .NotIn) (rIn X.K true) := by
  intro pins s σ H x y v u Q I rx ry h
  obtain ⟨p, xs, rfl, hq, fx, fs, q⟩ := h
  cases ry
  rcases hq with hq | hq
  · obtain ⟨its, r, pl, hz⟩ := I.list hq
    refine SeqAt.notIn_listAt (eqU x) pl.isList (fun w hw => mem_eqAt rx fx r fs w (by simpa using hw)) ⟨.bl _, H, I, rfl, ?_⟩
    rw [show its.toArray.any (eqU x) = its.any (eqU x) by simp, any_eqU r fs]
    exact q
  · obtain ⟨its, r, pl, hz⟩ := I.tuple hq
    refine SeqAt.notIn_tupleAt (eqU x) pl (fun w hw => mem_eqAt rx fx r fs w (by simpa using hw)) ⟨.bl _, H, I, rfl, ?_⟩
    rw [show its.toArray.any (eqU x) = its.any (eqU x) by simp, any_eqU r fs]
    exact q
theorem op_notIn_str : OpR X (compareOp .NotIn) (fun x y H Q => ∃ i j, x = .str i ∧ y = .str j ∧ Q (.bl (!(!(Builtin.Str.occurrences j i 0 j.length 1).isEmpty))) H) := by
  intro pins s σ H x y v u Q I rx ry h
  obtain ⟨i, j, rfl, rfl, q⟩ := h
  obtain ⟨t, rfl⟩ := rx
  obtain ⟨t', rfl⟩ := ry
  exact notIn_str ⟨.bl _, H, I, rfl, q⟩

/-! ### len, list(x), tuple(x) of any list or tuple that is read -/
theorem CallR.or {f : Value} {r r' : List V → Hp → VK → Prop} (h : CallR X f r) (h' : CallR X f r') : CallR X f (fun xs H Q => r xs H Q ∨ r' xs H Q) := by
  intro pins s σ H xs us Q I rs q
  rcases q with q | q
  · exact h pins s σ H xs us Q I rs q
  · exact h' pins s σ H xs us Q I rs q
theorem call_tuple_of : CallR X (.type "tuple") (fun xs H Q => ∃ p ys, xs = [.ref p] ∧ ((SqL X.K H p ys ∧ ∀ l, H l = none → Q (.ref l) (upd H l (.tup ys))) ∨ (SqT X.K H p ys ∧ Q (.ref p) H))) := by
  intro pins s σ H xs us Q I r h
  obtain ⟨p, ys, rfl, h⟩ := h
  obtain ⟨u, rfl, rx⟩ := vals1 r
  cases rx
  rcases h with ⟨hq, q⟩ | ⟨hq, q⟩
  · obtain ⟨its, r', pl, hz⟩ := I.list hq
    have hlen := r'.length
    refine call_tuple_list pl.isList (fun h' kp => ?_) (by simp only [List.size_toArray] <;> omega)
    have I1 : Inv X pins σ H { s with heap := h' } := I.kept (t' := s.toks) kp
    have I2 : Inv X pins σ (upd H h'.objs.size (.tup ys)) { s with heap := h'.push { cls := .type "tuple", data := .seq its.toArray } } :=
      I1.laid (t' := s.toks) (fun b o e => Heap.get?_push_of_some _ e) (Nat.le_refl _) (show ObjOk X.prog X.w _ _ _ (.tup ys) from ⟨hz, its, r', IsTup.new _ _⟩)
    exact ⟨.ref h'.objs.size, _, I2, rfl, q _ (I1.hok.fresh (Nat.le_refl _))⟩
  · obtain ⟨its, r', pl, hz⟩ := I.tuple hq
    exact call_tuple_same pl ⟨.ref p, H, I, rfl, q⟩

/-! ### the call of a builtin's method: o.m(..) -/
/-- the value is of that builtin type -/
def tyV (K : PySem.W.Frag) (T : String) (x : V) (H : Hp) : Prop := match x with
  | .str _ => T = "str"
  | .int _ => T = "int"
  | .ref p => (T = "list" ∧ ∃ xs, SqL K H p xs) ∨ (T = "tuple" ∧ ∃ o, K.lookup p = some o ∧ o.cls = .type "tuple" ∧ o.dict = none) ∨
      (T = "dict" ∧ ((∃ kvs, H p = some (.dK kvs)) ∨ ∃ kvs, H p = some (.dT kvs))) ∨ (T = "set" ∧ ∃ S n, H p = some (.set S n))
  | _ => False
theorem tyV_is {pins : List (Addr × Obj)} {σ : St} {H : Hp} {s : Shared} {T : String} {x : V} {v : Value} (I : Inv X pins σ H s) (r : RelV x v) (ty : tyV X.K T x H) :
    s.TypeIs v T ∧ ∀ a, v = .ref a → ∃ ob, s.heap.get? a = some ob ∧ ob.dict = none := by
  cases x with
  | str z =>
    obtain ⟨t, rfl⟩ := r
    cases (show T = "str" from ty)
    exact ⟨typeIs_str s z t, fun _ e => nomatch e⟩
  | int i =>
    obtain ⟨t, rfl⟩ := r
    cases (show T = "int" from ty)
    exact ⟨typeIs_int s i t, fun _ e => nomatch e⟩
  | ref p =>
    cases r
    rcases ty with ⟨rfl, xs, hq⟩ | ⟨rfl, o, hk, hc, hd⟩ | ⟨rfl, hk⟩ | ⟨rfl, S, n, hk⟩
    · obtain ⟨its, _, pl, _⟩ := I.list hq
      refine ⟨pl.isList.typeIs, fun a e => ?_⟩
      cases e
      obtain ⟨o, n, e, c, hd, _⟩ := pl
      exact ⟨o, e, hd⟩
    · refine ⟨⟨o, I.kIn p o hk, hc⟩, fun a e => ?_⟩
      cases e
      exact ⟨o, I.kIn _ o hk, hd⟩
    · have z : ∃ o, s.heap.get? p = some o ∧ o.ExactDict := by
        rcases hk with ⟨kvs, hk⟩ | ⟨kvs, hk⟩
        · obtain ⟨_, _, _, _, o, _, _, e, ex, _⟩ := I.hok p _ hk
          exact ⟨o, e, ex⟩
        · obtain ⟨_, _, _, _, o, _, _, e, ex, _⟩ := I.hok p _ hk
          exact ⟨o, e, ex⟩
      obtain ⟨o, e, ex⟩ := z
      refine ⟨⟨o, e, ex.1⟩, fun a e2 => ?_⟩
      cases e2
      exact ⟨o, e, ex.2.1⟩
    · obtain ⟨o, _, _, _, e, ex, _⟩ := I.hok p _ hk
      refine ⟨⟨o, e, ex.1⟩, fun a e2 => ?_⟩
      cases e2
      exact ⟨o, e, ex.2.1⟩
  | _ => exact False.elim ty
def tBM (K : PySem.W.Frag) (T : String) (r : V → List V → Hp → VK → Prop) (to : TE) (t : TA) : TE := fun σ H Q => to σ H fun x H1 => tyV K T x H1 ∧ t σ H1 fun xs H2 => r x xs H2 Q
variable {o e : Expr} {es : List Expr} {to : TE} {t : TA} {name : Str} {apos cpos : Pos} {T id : String} {r : V → List V → Hp → VK → Prop}
theorem pe_bm (pa : PlainAttrs T) (slot : Slot T name id) (hty : typeOf (.builtin id) = pure (.type "method_descriptor")) (hm : MtR X id r) (ho : PE X o to) (ha : PA X (e :: es) t)
    (hbase : attributeBase o name X.env (eval o X.env) = eval o X.env := by rfl)
    (hfew : ((backTo cpos (starEach (e :: es) X.env)).all (fun x => !x.1) && (backToKw cpos (keywordEach [] X.env)).all (fun x => x.1.isSome)
      && decide ((e :: es).length + ([] : List Keyword).length + (if ([] : List Keyword).isEmpty then 0 else 1) < 30)) = true := by rfl)
    (hline : (apos.endLine == cpos.line) = true := by rfl) (hs : starEach (e :: es) X.env = (false, eval e X.env) :: starEach es X.env := by rfl) (hplain : (backTo cpos (starEach es X.env)).any (·.1) = false := by rfl) :
    PE X (.Call (.Attribute o name apos) (e :: es) [] cpos) (tBM X.K T r to t) := by
  intro pins s σ H Q I h
  refine wpAny_Call_method_late hbase hfew hline rfl (thn (ho pins s σ H _ I h) fun v s1 ⟨x, H1, I1, r1, ty, q1⟩ => ?_)
  obtain ⟨h1, h2⟩ := tyV_is I1 r1 ty
  refine ⟨T, id, pa, slot, hty, h1, h2, ?_⟩
  have hA := ha cpos pins s1 σ H1 _ I1 q1
  rw [hs] at hA ⊢
  refine Calls.callWith_builtin (by show (false || (backTo cpos (starEach es X.env)).any (·.1)) = false; rw [hplain] <;> rfl) (Calls.evalArgs_plain ?_)
  exact thn hA fun us s2 ⟨vs, H2, I2, r2, q2⟩ => hm pins s2 σ H2 x vs v us Q I2 r1 r2 q2
/- xs.append(e), list.index on a module's tuple .. are MtR facts of 06m -/
end
end L2

namespace L2
open PySem PySem.Spec PyProof.Rows

def MtM (X : Cx) (id : String) (r : V → List V → Hp → VK → Prop) : Prop :=
  ∀ (pins : List (Addr × Obj)) (s : Shared) (σ : St) (H : Hp) (x : V) (xs : List V) (v : Value) (us : List Value) (Q : VK), Inv X pins σ H s → RelV x v → Vals xs us → r x xs H Q →
    wpAny (model X.prog X.w) X.A (call (.builtin id) (v :: us)) (EP X pins σ Q) X.xe s

/-! ### lists of values -/
theorem Vals.one : ∀ {x : V} {us : List Value}, Vals [x] us → ∃ u, us = [u] ∧ RelV x u
  | _, _, .cons r .nil => ⟨_, rfl, r⟩
theorem Vals.two : ∀ {x y : V} {us : List Value}, Vals [x, y] us → ∃ u v, us = [u, v] ∧ RelV x u ∧ RelV y v
  | _, _, _, .cons r (.cons q .nil) => ⟨_, _, rfl, r, q⟩
theorem Vals.zero : ∀ {us : List Value}, Vals [] us → us = []
  | _, .nil => rfl
theorem Vals.eraseIdx : ∀ {xs : List V} {us : List Value} (i : Nat), Vals xs us → Vals (xs.eraseIdx i) (us.eraseIdx i)
  | _, _, _, .nil => .nil
  | _, _, 0, .cons _ t => t
  | _, _, i + 1, .cons r t => .cons r (Vals.eraseIdx i t)
theorem len_erase {α : Type} : ∀ (l : List α) (i : Nat), (l.eraseIdx i).length ≤ l.length
  | [], _ => Nat.le_refl _
  | _ :: _, 0 => Nat.le_succ _
  | _ :: r, i + 1 => Nat.succ_le_succ (len_erase r i)
section
variable {X : Cx} {pins : List (Addr × Obj)} {σ : St} {H : Hp} {s : Shared} {l b : Addr} {xs ys zs : List V}

/-! ### the two steps: a tracked list is rewritten, a new list is laid -/
theorem Inv.lset {its its' : List Value} {n : Nat} {f : Array Value → Array Value} {t' : Nat} (I : Inv X pins σ H s) (hH : H l = some (.lst xs))
    (e : s.heap.get? l = some { cls := .type "list", data := .seq its.toArray n }) (hf : f its.toArray = its'.toArray) (hv : Vals ys its') (hz : ys.length ≤ sizeLine) :
    Inv X pins σ (upd H l (.lst ys)) { s with heap := s.heap.update l (Obj.mapSeq f), toks := t' } := by
  have q := PySem.IsL.update e f
  rw [hf] at q
  refine I.write (x := l) (e := l) (by rw [hH]; exact trivial) (.inl rfl) (fun b' u hb hu => (Heap.get?_update_other s.heap (Obj.mapSeq f) (Ne.symm hb)).trans hu) ⟨_, q⟩ ?_
  exact ⟨hz, its', _, hv, q⟩
theorem Inv.lnew {its : List Value} {t' : Nat} (I : Inv X pins σ H s) (hv : Vals ys its) (hz : ys.length ≤ sizeLine) :
    Inv X pins σ (upd H s.heap.objs.size (.lst ys)) { s with heap := s.heap.push { cls := .type "list", data := .seq its.toArray }, toks := t' } :=
  I.laid (fun _ _ q => Heap.get?_push_of_some _ q) (Nat.le_refl _) ⟨hz, its, 0, hv, Heap.get?_push_size _ rfl⟩
theorem Inv.fresh (I : Inv X pins σ H s) : H s.heap.objs.size = none := I.hok.fresh (Nat.le_refl _)
theorem Inv.lstM (I : Inv X pins σ H s) (hH : H l = some (.lst xs)) : xs.length ≤ sizeLine ∧ ∃ (its : List Value) (n : Nat), Vals xs its ∧ xs.length = its.length ∧ s.heap.get? l = some { cls := .type "list", data := .seq its.toArray n } := by
  obtain ⟨z, its, n, r, e⟩ := I.hok l _ hH
  exact ⟨z, its, n, r, r.length, e⟩

end

section
variable {X : Cx}

/-! ### methods -/
def rAppend : V → List V → Hp → VK → Prop := fun x vs H Q => ∃ l xs y, x = .ref l ∧ vs = [y] ∧ H l = some (.lst xs) ∧ xs.length < sizeLine ∧ Q .non (upd H l (.lst (xs ++ [y])))
theorem mt_append : MtM X "list.append" rAppend := by
  intro pins s σ H x vs v us Q I rx rv h
  obtain ⟨l, xs, y, rfl, rfl, hH, hz, q⟩ := h
  cases rx
  obtain ⟨u, rfl, ru⟩ := rv.one
  obtain ⟨z, its, n, r, hl, e⟩ := I.lstM hH
  refine call_meets F.slot_list_append ⟨_, e, rfl⟩ F.entry_list_append (F.args_list_append_2 _ _) (PySem.list_append l its.toArray n u (by rw [List.size_toArray]; omega)) ⟨e, ?_⟩
  refine ⟨.non, _, I.lset (its' := its ++ [u]) hH e (by simp) (r.append (.cons ru .nil)) ?_, rfl, q⟩
  rw [List.length_append, List.length_singleton]
  omega

def rPopAt : V → List V → Hp → VK → Prop := fun x vs H Q => ∃ l xs i k y, x = .ref l ∧ vs = [.int i] ∧ H l = some (.lst xs) ∧ -(2 ^ 63) ≤ i ∧ i < 2 ^ 63 ∧ seqIndex? i xs.length = some k ∧ xs[k]? = some y ∧ Q y (upd H l (.lst (xs.eraseIdx k)))
theorem mt_popAt : MtM X "list.pop" rPopAt := by
  intro pins s σ H x vs v us Q I rx rv h
  obtain ⟨l, xs, i, k, y, rfl, rfl, hH, h1, h2, hk, hy, q⟩ := h
  cases rx
  obtain ⟨u, rfl, ru⟩ := rv.one
  obtain ⟨t, rfl⟩ := ru
  obtain ⟨z, its, n, r, hl, e⟩ := I.lstM hH
  obtain ⟨w, hw, rw'⟩ := r.get hy
  refine call_meets F.slot_list_pop ⟨_, e, rfl⟩ F.entry_list_pop (F.args_list_pop_2 _ _)
    (MeetsSeq.list_pop_at l its.toArray n i t k w (fitsIndex_both h1 h2) (by rw [List.size_toArray, ← hl]; exact hk) (by rw [← Array.getElem?_toList]; exact hw) (by rw [List.size_toArray]; omega)) ⟨e, ?_⟩
  refine ⟨y, _, I.lset (its' := its.eraseIdx k) hH e ?_ (r.eraseIdx k) ?_, rw', q⟩
  · show its.toArray.eraseIdxIfInBounds k = (its.eraseIdx k).toArray
    rw [List.eraseIdxIfInBounds_toArray]
  · have := len_erase xs k
    omega

/-! ### list + list, list += list, list * int -/
/-! ### del xs[i] -/
end

/-! ### xs[a:b] = ys -/
section
variable {prog : Program} {w : World} {A : Around} {E : Value → Shared → Prop} {s : Shared}
set_option maxRecDepth 100000 in
end

section
variable {X : Cx}
end
end L2


namespace L2
open PySem PySem.Spec PyProof.Rows

/-! ### lists of pairs as tables -/
section
variable {κ : Type} [DecidableEq κ]
def valV (kvs : List (κ × V)) (k : κ) : Option V := (kvs.find? fun kv => decide (kv.1 = k)).map (·.2)
/-- in its place, or at the end -/
def putK (kvs : List (κ × V)) (k : κ) (v : V) : List (κ × V) :=
  if (kvs.any fun kv => decide (kv.1 = k)) = true then kvs.map (fun kv => if kv.1 = k then (kv.1, v) else kv) else kvs ++ [(k, v)]
def dropK (kvs : List (κ × V)) (k : κ) : List (κ × V) := kvs.filter fun kv => decide (kv.1 ≠ k)

theorem valV_pos {p : κ × V} {r : List (κ × V)} {k : κ} (e : p.1 = k) : valV (p :: r) k = some p.2 := by simp [valV, List.find?_cons, e]
theorem valV_neg {p : κ × V} {r : List (κ × V)} {k : κ} (e : ¬ p.1 = k) : valV (p :: r) k = valV r k := by simp [valV, List.find?_cons, e]
theorem valV_any (k : κ) : ∀ kvs : List (κ × V), (kvs.any fun kv => decide (kv.1 = k)) = (valV kvs k).isSome
  | [] => rfl
  | p :: r => by
    rw [List.any_cons]
    by_cases e : p.1 = k
    · simp only [valV_pos e, decide_eq_true e, Bool.true_or, Option.isSome_some]
    · rw [valV_neg e, decide_eq_false e, Bool.false_or]; exact valV_any k r
theorem length_putK (kvs : List (κ × V)) (k : κ) (v : V) : (putK kvs k v).length ≤ kvs.length + 1 := by
  unfold putK
  split
  · rw [List.length_map]; omega
  · rw [List.length_append, List.length_cons, List.length_nil]; omega
theorem RelO.isSome_eq {o : Option V} {u : Option Value} (r : RelO o u) : o.isSome = u.isSome := by
  cases o with
  | none => cases u with
    | none => rfl
    | some _ => exact (show False from r).elim
  | some _ => cases u with
    | none => exact (show False from r).elim
    | some _ => rfl
theorem RelO.getD {o : Option V} {u : Option Value} {d : V} {d' : Value} (r : RelO o u) (rd : RelV d d') : RelV (o.getD d) (u.getD d') := by
  cases o with
  | none => cases u with
    | none => exact rd
    | some _ => exact (show False from r).elim
  | some _ => cases u with
    | none => exact (show False from r).elim
    | some _ => exact r

/-- raw tables of the same keys -/
theorem KV.val {kvs : List (κ × V)} {vs : List (κ × Value)} (r : KV kvs vs) (k : κ) : RelO (valV kvs k) (valueAt vs k) := by
  unfold KV at r
  induction r with
  | nil => exact True.intro
  | @cons p q ps qs h t ih =>
    obtain ⟨h1, h2⟩ := h
    by_cases e : p.1 = k
    · have e' : q.1 = k := h1.symm.trans e
      have b : valueAt (q :: qs) k = some q.2 := by simp [valueAt, List.find?_cons, e']
      rw [valV_pos e, b]; exact h2
    · have e' : ¬ q.1 = k := fun z => e (h1.trans z)
      have b : valueAt (q :: qs) k = valueAt qs k := by simp [valueAt, List.find?_cons, e']
      rw [valV_neg e, b]; exact ih
theorem KV.any {kvs : List (κ × V)} {vs : List (κ × Value)} (r : KV kvs vs) (k : κ) : (kvs.any fun kv => decide (kv.1 = k)) = vs.any fun kv => decide (kv.1 = k) := by
  unfold KV at r
  induction r with
  | nil => rfl
  | cons h t ih => rw [List.any_cons, List.any_cons, ih, h.1]
theorem KV.repl {kvs : List (κ × V)} {vs : List (κ × Value)} (r : KV kvs vs) (k : κ) {y : V} {u : Value} (ry : RelV y u) :
    KV (kvs.map fun kv => if kv.1 = k then (kv.1, y) else kv) (vs.map fun kv => if kv.1 = k then (kv.1, u) else kv) := by
  unfold KV at r ⊢
  induction r with
  | nil => exact .nil
  | @cons p q ps qs h t ih =>
    rw [List.map_cons, List.map_cons]
    refine .cons ?_ ih
    obtain ⟨h1, h2⟩ := h
    by_cases e : p.1 = k
    · rw [if_pos e, if_pos (h1.symm.trans e)]; exact ⟨h1, ry⟩
    · rw [if_neg e, if_neg (fun z => e (h1.trans z))]; exact ⟨h1, h2⟩
theorem KV.put {kvs : List (κ × V)} {vs : List (κ × Value)} (r : KV kvs vs) (k : κ) {y : V} {u : Value} (ry : RelV y u) : KV (putK kvs k y) (stored vs k u) := by
  unfold putK stored
  rw [r.any k]
  by_cases e : (vs.any fun kv => decide (kv.1 = k)) = true
  · rw [if_pos e, if_pos e]; exact r.repl k ry
  · rw [if_neg e, if_neg e]; exact Paired.snoc r ⟨rfl, ry⟩
theorem KV.drop {kvs : List (κ × V)} {vs : List (κ × Value)} (r : KV kvs vs) (k : κ) : KV (dropK kvs k) (without vs k) := by
  unfold KV at r ⊢
  unfold dropK without
  induction r with
  | nil => exact .nil
  | @cons p q ps qs h t ih =>
    obtain ⟨h1, h2⟩ := h
    rw [List.filter_cons, List.filter_cons]
    by_cases e : p.1 = k
    · have a : ¬ decide (p.1 ≠ k) = true := by simp [e]
      have b : ¬ decide (q.1 ≠ k) = true := by simp [h1.symm.trans e]
      rw [if_neg a, if_neg b]; exact ih
    · have e' : ¬ q.1 = k := fun z => e (h1.trans z)
      have a : decide (p.1 ≠ k) = true := by simp [e]
      have b : decide (q.1 ≠ k) = true := by simp [e']
      rw [if_pos a, if_pos b]; exact .cons ⟨h1, h2⟩ ih
theorem KV.keys {kvs : List (κ × V)} {vs : List (κ × Value)} (r : KV kvs vs) : kvs.map (·.1) = vs.map (·.1) := by
  unfold KV at r
  induction r with
  | nil => rfl
  | cons h t ih => rw [List.map_cons, List.map_cons, ih, h.1]
theorem KV.length {kvs : List (κ × V)} {vs : List (κ × Value)} (r : KV kvs vs) : kvs.length = vs.length := Paired.length r
end


/-! ### a tracked dict, its keys ints and texts or tuples of these -/
theorem kV_is {P : Program} {w : World} {k : Key} {u : Value} (r : RelV (kV k) u) : (mixKind P w).is k u = true := by
  cases k with
  | inl i => obtain ⟨t, e⟩ := (show ∃ t, u = Value.int i t from r); subst e; exact mixKind_int P w i t
  | inr x => obtain ⟨t, e⟩ := (show ∃ t, u = Value.str x t from r); subst e; exact mixKind_str P w x t
theorem items_are {P : Program} {w : World} : ∀ {ks : List Key} {us : List Value}, Vals (ks.map kV) us → ItemsAre (mixKind P w) ks us
  | [], _, r => by rw [List.map_nil] at r; cases r; exact .nil
  | k :: ks, _, r => by
    rw [List.map_cons] at r
    cases r with
    | cons h t => exact .cons (kV_is h) (items_are t)

/-- raw entries of a dict with tuple keys -/
abbrev KT (H : Hp) : List (List Key × V) → List (List Key × Addr × Value) → Prop := Paired fun p q => p.1 = q.1 ∧ H q.2.1 = some (.tup (p.1.map kV)) ∧ RelV p.2 q.2.2
theorem KT.val {H : Hp} {kvs : List (List Key × V)} {xs : List (List Key × Addr × Value)} (r : KT H kvs xs) (k : List Key) : RelO (valV kvs k) ((atKey xs k).map (·.2)) := by
  induction r with
  | nil => exact True.intro
  | @cons p q ps qs h t ih =>
    obtain ⟨h1, _, h2⟩ := h
    by_cases e : p.1 = k
    · have e' : q.1 = k := h1.symm.trans e
      have b : atKey (q :: qs) k = some q.2 := by simp [atKey, List.find?_cons, e']
      rw [valV_pos e, b]; exact h2
    · have e' : ¬ q.1 = k := fun z => e (h1.trans z)
      have b : atKey (q :: qs) k = atKey qs k := by simp [atKey, List.find?_cons, e']
      rw [valV_neg e, b]; exact ih
theorem KT.repl {H : Hp} {kvs : List (List Key × V)} {xs : List (List Key × Addr × Value)} (r : KT H kvs xs) (k : List Key) {y : V} {u : Value} (ry : RelV y u) :
    KT H (kvs.map fun kv => if kv.1 = k then (kv.1, y) else kv) (xs.map (putAt k u)) := by
  induction r with
  | nil => exact .nil
  | @cons p q ps qs h t ih =>
    rw [List.map_cons, List.map_cons]
    refine .cons ?_ ih
    obtain ⟨h1, h2, h3⟩ := h
    unfold putAt
    by_cases e : p.1 = k
    · rw [if_pos e, if_pos (h1.symm.trans e)]; exact ⟨h1, h2, ry⟩
    · rw [if_neg e, if_neg (fun z => e (h1.trans z))]; exact ⟨h1, h2, h3⟩
theorem KT.put {H : Hp} {kvs : List (List Key × V)} {xs : List (List Key × Addr × Value)} (r : KT H kvs xs) (k : List Key) {b : Addr} {y : V} {u : Value} (hb : H b = some (.tup (k.map kV))) (ry : RelV y u) :
    KT H (putK kvs k y) (storedH xs k b u) := by
  have e : (kvs.any fun kv => decide (kv.1 = k)) = (atKey xs k).isSome := by
    rw [valV_any, (r.val k).isSome_eq, Option.isSome_map]
  unfold putK storedH
  rw [e]
  by_cases q : (atKey xs k).isSome = true
  · rw [if_pos q, if_pos q]; exact r.repl k ry
  · rw [if_neg q, if_neg q]; exact Paired.snoc r ⟨rfl, hb, ry⟩
theorem KT.keeps {H H' : Hp} {kvs : List (List Key × V)} {xs : List (List Key × Addr × Value)} (r : KT H kvs xs) (ht : ∀ b ys, H b = some (.tup ys) → H' b = some (.tup ys)) : KT H' kvs xs :=
  Paired.mapP r fun _ _ z => ⟨z.1, ht _ _ z.2.1, z.2.2⟩

section
variable {P : Program} {w : World} {H : Hp} {h : Heap} {a : Addr}
theorem rd_of {u : HO} (ok : HOk P w H h) (e : Rd H a u) : ObjOk P w H h a u := e.ok ok
theorem dk_rd {kvs : List (Key × V)} (ok : HOk P w H h) (e : Rd H a (.dK kvs)) : kvs.length ≤ sizeLine ∧ (a == sysModules) = false ∧ ∃ vs, KV kvs vs ∧ h.DictOf (mixKind P w) a vs :=
  show ObjOk P w H h a (.dK kvs) from rd_of ok e
theorem dk_of {kvs : List (Key × V)} (ok : HOk P w H h) (e : H a = some (.dK kvs)) : kvs.length ≤ sizeLine ∧ (a == sysModules) = false ∧ ∃ vs, KV kvs vs ∧ h.DictOf (mixKind P w) a vs := dk_rd ok (.inl e)
/-- a tracked tuple of ints and texts is a key -/
theorem key_of {ks : List Key} (ok : HOk P w H h) (e : H a = some (.tup (ks.map kV))) : (tupleKind (mixKind P w)).is h ks a := by
  obtain ⟨_, its, r, o, h1, h2, n, h3⟩ := (show ObjOk P w H h a (.tup (ks.map kV)) from ok a _ e)
  exact ⟨o, its.toArray, n, h1, h2, h3, by simpa using items_are r⟩
theorem dt_rd {kvs : List (List Key × V)} (ok : HOk P w H h) (e : Rd H a (.dT kvs)) : kvs.length ≤ sizeLine ∧ (a == sysModules) = false ∧
    ∃ xs, KT H kvs xs ∧ h.DictOfH (tupleKind (mixKind P w)) a xs := by
  obtain ⟨z, y, xs, r, o, es, ep, h1, h2, h3, h4, h5⟩ := (show ObjOk P w H h a (.dT kvs) from rd_of ok e)
  refine ⟨z, y, xs, r, o, es, ep, h1, h2, h3, h4, fun x hx => ?_, h5⟩
  have all : ∀ {l : List (List Key × V)} {m : List (List Key × Addr × Value)}, KT H l m → ∀ x ∈ m, (tupleKind (mixKind P w)).is h x.1 x.2.1 := by
    intro l m q
    induction q with
    | nil => intro x hx; exact nomatch hx
    | @cons p q ps qs hq t ih =>
      intro x hx
      rcases List.mem_cons.mp hx with e | hx
      · subst e
        exact key_of ok (by rw [← hq.1]; exact hq.2.1)
      · exact ih x hx
  exact all r x hx
end

/-- what the dict at a holds at the key y -/
def DGet (H : Hp) (a : Addr) (y : V) (r : Option V) : Prop :=
  (∃ kvs k, Rd H a (.dK kvs) ∧ y = kV k ∧ r = valV kvs k) ∨ ∃ kvs k b, Rd H a (.dT kvs) ∧ y = .ref b ∧ H b = some (.tup (k.map kV)) ∧ r = valV kvs k
/-- the heap behind a[y] = v -/
def DPut (H : Hp) (a : Addr) (y v : V) (H' : Hp) : Prop :=
  (∃ kvs k, H a = some (.dK kvs) ∧ y = kV k ∧ kvs.length < sizeLine ∧ H' = upd H a (.dK (putK kvs k v))) ∨
  ∃ kvs k b, H a = some (.dT kvs) ∧ y = .ref b ∧ H b = some (.tup (k.map kV)) ∧ kvs.length < sizeLine ∧ H' = upd H a (.dT (putK kvs k v))
theorem DGet.k {H : Hp} {a : Addr} {kvs : List (Key × V)} {k : Key} (e : H a = some (.dK kvs)) : DGet H a (kV k) (valV kvs k) := .inl ⟨kvs, k, .inl e, rfl, rfl⟩
theorem DGet.t {H : Hp} {a b : Addr} {kvs : List (List Key × V)} {k : List Key} (e : H a = some (.dT kvs)) (eb : H b = some (.tup (k.map kV))) : DGet H a (.ref b) (valV kvs k) := .inr ⟨kvs, k, b, .inl e, rfl, eb, rfl⟩
theorem DPut.k {H : Hp} {a : Addr} {kvs : List (Key × V)} {k : Key} {v : V} (e : H a = some (.dK kvs)) (hl : kvs.length < sizeLine) : DPut H a (kV k) v (upd H a (.dK (putK kvs k v))) := .inl ⟨kvs, k, e, rfl, hl, rfl⟩
theorem DPut.t {H : Hp} {a b : Addr} {kvs : List (List Key × V)} {k : List Key} {v : V} (e : H a = some (.dT kvs)) (eb : H b = some (.tup (k.map kV))) (hl : kvs.length < sizeLine) :
    DPut H a (.ref b) v (upd H a (.dT (putK kvs k v))) := .inr ⟨kvs, k, b, e, rfl, eb, hl, rfl⟩


section
variable {X : Cx} {pins : List (Addr × Obj)} {σ : St} {H : Hp} {s : Shared} {a : Addr} {y v : V} {u r : Value} {o : Option V} {A : Around} {E : Value → Shared → Prop}

theorem Inv.big (I : Inv X pins σ H s) : sysModules < s.heap.objs.size := by
  have h : mainGlobals < s.heap.objs.size := (I.mod.glob.keeps I.bk).lt
  exact Nat.lt_trans (by decide) h

/-- d[y], there -/
theorem d_getItem {Q : Value → Shared → Prop} (hu : A.units + 1 < cLine) (I : Inv X pins σ H s) (g : DGet H a y (some v)) (ry : RelV y u) (h : ∀ w' s', Inv X pins σ H s' → RelV v w' → Q w' s') :
    wpAny (model X.prog X.w) A (getItem (.ref a) u) Q E s := by
  rcases g with ⟨kvs, k, e, ey, l⟩ | ⟨kvs, k, b, e, ey, eb, l⟩
  · subst ey
    obtain ⟨z, hd, vs, rel, dd⟩ := dk_rd I.hok e
    obtain ⟨w', hw, rw'⟩ := RelO.some_of (v := v) (o := valueAt vs k) (by rw [l]; exact rel.val k)
    exact wpAny_getItem_of (kV_is ry) dd.mapOf hw (h w' _ (I.tok _) rw')
  · subst ey
    cases (show u = Value.ref b from ry)
    obtain ⟨z, hd, xs, rel, dd⟩ := dt_rd I.hok e
    obtain ⟨w', hw, rw'⟩ := RelO.some_of (v := v) (o := (atKey xs k).map (·.2)) (by rw [l]; exact rel.val k)
    obtain ⟨p, hp, hp2⟩ := Option.map_eq_some_iff.mp hw
    refine wpAny_getItem_heap (tupleKind_room_in1 hu) (key_of I.hok eb) dd hp ?_
    rw [hp2]
    exact h w' _ (I.tok _) rw'
theorem d_notIn {Q : Value → Shared → Prop} (hu : A.units + 1 < cLine) (I : Inv X pins σ H s) (g : DGet H a y o) (ry : RelV y u) (h : ∀ s', Inv X pins σ H s' → Q (.bool (!o.isSome)) s') :
    wpAny (model X.prog X.w) A (compareOp .NotIn u (.ref a)) Q E s := by
  rcases g with ⟨kvs, k, e, ey, l⟩ | ⟨kvs, k, b, e, ey, eb, l⟩
  · subst ey
    obtain ⟨z, hd, vs, rel, dd⟩ := dk_rd I.hok e
    refine wpAny_notIn_of (kV_is ry) hd dd.mapOf ?_
    rw [← (rel.val k).isSome_eq, ← l]
    exact h _ (I.tok _)
  · subst ey
    cases (show u = Value.ref b from ry)
    obtain ⟨z, hd, xs, rel, dd⟩ := dt_rd I.hok e
    refine wpAny_notIn_heap (tupleKind_room_in1 hu) (key_of I.hok eb) hd dd ?_
    have q := (rel.val k).isSome_eq
    rw [Option.isSome_map] at q
    rw [← q, ← l]
    exact h _ (I.tok _)
/-- a dict's object is replaced -/
theorem d_write {h' : Heap} {t' : Nat} {ob : HO} (I : Inv X pins σ H s) (mu : Mut (H a)) (hs : Heap.SameBut a s.heap h') (he : ∃ q, h'.get? a = some q) (new : ObjOk X.prog X.w (upd H a ob) h' a ob) :
    Inv X pins σ (upd H a ob) { s with heap := h', toks := t' } :=
  I.write (x := a) (e := a) mu (.inl rfl) (fun b q hb z => (hs.2 b hb).trans z) he new
theorem dk_new {P : Program} {w : World} {H' : Hp} {h' : Heap} {kvs : List (Key × V)} {vs : List (Key × Value)} (z : kvs.length ≤ sizeLine) (hd : (a == sysModules) = false) (rel : KV kvs vs) (dd : h'.DictOf (mixKind P w) a vs) :
    ObjOk P w H' h' a (.dK kvs) := ⟨z, hd, vs, rel, dd⟩
end

section
variable {X : Cx} {pins : List (Addr × Obj)} {σ : St} {H : Hp} {s : Shared} {a : Addr} {kvs : List (Key × V)} {k : Key} {u : Value} {A : Around} {E : Value → Shared → Prop}
/-- len(d) -/
theorem d_len {Q : Value → Shared → Prop} (I : Inv X pins σ H s) (e : Rd H a (.dK kvs)) (h : ∀ t s', Inv X pins σ H s' → Q (.int kvs.length t) s') : wpAny (model X.prog X.w) A (call (.builtin "len") [.ref a]) Q E s := by
  obtain ⟨z, hd, vs, rel, dd⟩ := dk_rd I.hok e
  refine call_len_dict hd dd (by rw [← rel.length]; rw [sizeLine_eq] at z; omega) ?_
  rw [← rel.length]
  exact h _ _ (I.tok _)
end


/-! ### readings and rules -/
/-- the element of a subscription, not a slice -/
def NoSl (i : Expr) : Prop := ∀ ov iv, subscripted i false ov iv = operate [ov, iv] (getItem ov iv)
theorem subD_of {prog : Program} {w : World} {A : Around} {E : Value → Shared → Prop} {s : Shared} {env : Env} {value slice : Expr} {pos : Pos} {T id : String} {Q : Value → Shared → Prop}
    (hl : typeLookup (.type T) "__getitem__" = pure (some (.builtin id))) (hs : NoSl slice)
    (h : wpAny (model prog w) A (eval value env) (fun o s₁ => wpAny (model prog w) A (eval slice env) (fun i s₂ => s₂.TypeIs o T ∧ wpAny (model prog w) A (getItem o i) Q E s₂) E s₁) E s) :
    wpAny (model prog w) A (eval (.Subscript value slice pos) env) Q E s := by
  refine Subscript_ (wpAny_mono h (fun o s₁ h₁ => wpAny_mono h₁ (fun i s₂ h₂ => ?_) fun _ _ x => x) fun _ _ x => x)
  obtain ⟨hT, h₂⟩ := h₂
  unfold subscriptTail
  refine wpAny_bind ?_
  rw [getitemInPython_of_ne hT.not_modules]
  refine wpAny_bind (wpAny_specialOf hT hl ?_)
  have fin : wpAny (model prog w) A (subscripted slice false o i) (fun r s₃ => wpAny (model prog w) A (letTemporaryGo value o r >>= fun _ => pure r) Q E s₃) E s₂ := by
    rw [hs o i]
    exact wpAny_operating (wpAny_mono h₂ (fun r s₃ h₃ => wpAny_bind (wpAny_letTemporaryGo (wpAny_pure h₃))) fun _ _ x => x)
  first
    | exact wpAny_pure (wpAny_bind fin)
    | exact wpAny_bind (wpAny_pure (wpAny_bind fin))
    | exact wpAny_bind fin

theorem dict_typeIs {X : Cx} {pins : List (Addr × Obj)} {σ : St} {H : Hp} {s : Shared} {a : Addr} {y : V} {o : Option V} (I : Inv X pins σ H s) (g : DGet H a y o) : s.TypeIs (.ref a) "dict" := by
  rcases g with ⟨kvs, k, e, _, _⟩ | ⟨kvs, k, b, e, _, _, _⟩
  · obtain ⟨_, _, vs, _, dd⟩ := dk_rd I.hok e
    exact dd.typeIs
  · obtain ⟨_, _, xs, _, dd⟩ := dt_rd I.hok e
    exact dd.typeIs
/-- d[y] -/
def tDGet (td ty : TE) : TE := fun σ H Q => td σ H fun x H1 => ty σ H1 fun y H2 => ∃ a v, x = .ref a ∧ DGet H2 a y (some v) ∧ Q v H2
section
variable {X : Cx} {o i e value : Expr} {pos pos' tpos : Pos} {td ty tv : TE}
theorem pe_dget (hu : X.A.units + 1 < cLine) (ho : PE X o td) (hi : PE X i ty) (hs : NoSl i) : PE X (.Subscript o i pos) (tDGet td ty) := by
  intro pins s σ H Q I h
  refine subD_of PySem.F.slot_dict_getitem.lookup hs (thn (ho pins s σ H _ I h) fun u s1 ⟨x, H1, I1, rx, q1⟩ => thn (hi pins s1 σ H1 _ I1 q1) fun iv s2 ⟨y, H2, I2, ry, a, v, ex, g, q2⟩ => ?_)
  subst ex
  obtain rfl : u = Value.ref a := rx
  exact ⟨dict_typeIs I2 g, d_getItem hu I2 g ry fun w' s3 I3 rw' => ⟨v, H2, I3, rw', q2⟩⟩
end


/-! ### displays -/
theorem dk_empty {P : Program} {w : World} {H : Hp} (h : Heap) (hb : sysModules < h.objs.size) : ObjOk P w H (h.push { cls := .type "dict", data := .dict #[] }) h.objs.size (.dK []) :=
  ⟨Nat.zero_le _, beq_eq_false_iff_ne.mpr (Ne.symm (Nat.ne_of_lt hb)), [], .nil, Heap.DictOf.new h⟩
section
variable {X : Cx} {pos : Pos}
end

/-- the pairs of a display, from the left -/
def tPairs : List (TE × TE) → St → Hp → (List (V × V) → Hp → Prop) → Prop
  | [], _, H, Q => Q [] H
  | (tk, tv) :: r, σ, H, Q => tk σ H fun x H1 => tv σ H1 fun y H2 => tPairs r σ H2 fun ps H3 => Q ((x, y) :: ps) H3
abbrev VV : List (V × V) → List (Value × Value) → Prop := Paired fun p q => RelV p.1 q.1 ∧ RelV p.2 q.2
def PPs (X : Cx) (pos : Pos) (keys : List (Option Expr)) (values : List Expr) (trs : List (TE × TE)) : Prop :=
  ∀ (pins : List (Addr × Obj)) (s : Shared) (σ : St) (H : Hp) (Q : List (V × V) → Hp → Prop), Inv X pins σ H s → tPairs trs σ H Q →
    wpAny (model X.prog X.w) X.A (evalPairs (pairTrees keys values X.env pos)) (fun vs s' => ∃ ps H', Inv X pins σ H' s' ∧ VV ps vs ∧ Q ps H') X.xe s
theorem pps_nil {X : Cx} {pos : Pos} : PPs X pos [] [] [] := fun pins s σ H Q I h => pairTrees_nil_walk ⟨[], H, I, .nil, h⟩
theorem pps_cons {X : Cx} {pos : Pos} {k v : Expr} {ks : List (Option Expr)} {vs : List Expr} {tk tv : TE} {trs : List (TE × TE)} (hk : PE X k tk) (hv : PE X v tv) (hr : PPs X pos ks vs trs) :
    PPs X pos (some k :: ks) (v :: vs) ((tk, tv) :: trs) := fun pins s σ H Q I h =>
  pairTrees_cons_walk (thn (hk pins s σ H _ I h) fun u s1 ⟨x, H1, I1, rx, q1⟩ => thn (hv pins s1 σ H1 _ I1 q1) fun w2 s2 ⟨y, H2, I2, ry, q2⟩ =>
    thn (hr pins s2 σ H2 _ I2 q2) fun ws s3 ⟨ps, H3, I3, rel, q3⟩ => ⟨(x, y) :: ps, H3, I3, .cons ⟨rx, ry⟩ rel, q3⟩)

def mergeK (kvs more : List (Key × V)) : List (Key × V) := more.foldl (fun acc kv => putK acc kv.1 kv.2) kvs
theorem KV.merge : ∀ {more : List (Key × V)} {rs : List (Key × Value)} {kvs : List (Key × V)} {vs : List (Key × Value)}, KV more rs → KV kvs vs → KV (mergeK kvs more) (merged vs rs) := by
  intro more rs kvs vs r
  unfold KV at r
  induction r generalizing kvs vs with
  | nil => intro q; exact q
  | @cons p q ps qs h t ih =>
    intro r0
    have e : KV (putK kvs p.1 p.2) (stored vs q.1 q.2) := by
      have := r0.put p.1 h.2
      rw [← h.1]; exact this
    exact ih e
theorem length_mergeK : ∀ (more kvs : List (Key × V)), (mergeK kvs more).length ≤ kvs.length + more.length
  | [], kvs => by show kvs.length ≤ kvs.length + 0; omega
  | p :: r, kvs => by
    have h1 := length_mergeK r (putK kvs p.1 p.2)
    have h2 := length_putK kvs p.1 p.2
    show (mergeK (putK kvs p.1 p.2) r).length ≤ _
    rw [List.length_cons]; omega
theorem carries_of {P : Program} {w : World} : ∀ {kvs : List (Key × V)} {ws : List (Value × Value)}, VV (kvs.map fun kv => (kV kv.1, kv.2)) ws → ∃ rs, Carries (mixKind P w) ws rs ∧ KV kvs rs
  | [], _, r => by rw [List.map_nil] at r; cases r; exact ⟨[], True.intro, .nil⟩
  | p :: kvs, _, r => by
    rw [List.map_cons] at r
    cases r with
    | @cons a b as bs h t =>
      obtain ⟨rs, c, q⟩ := carries_of (P := P) (w := w) t
      obtain ⟨b1, b2⟩ := b
      exact ⟨(p.1, b2) :: rs, ⟨kV_is h.1, rfl, c⟩, .cons ⟨rfl, h.2⟩ q⟩
/-- {k: v, ..} with keys ints and texts; the new dict stands empty while the pairs are made -/
def tDisp (trs : List (TE × TE)) : TE := fun σ H Q => ∀ p, H p = none → tPairs trs σ (upd H p (.dK [])) fun ps H2 => H2 p = some (.dK []) ∧ ∃ kvs : List (Key × V), ps = kvs.map (fun kv => (kV kv.1, kv.2)) ∧ kvs.length ≤ 15 ∧ Q (.ref p) (upd H2 p (.dK (mergeK [] kvs)))
theorem pe_disp {X : Cx} {pos : Pos} {keys : List (Option Expr)} {values : List Expr} {trs : List (TE × TE)} (h : PPs X pos keys values trs) (hall : keys.all (·.isSome) = true) (hl : keys.length = values.length) (h0 : keys ≠ [])
    (h15 : keys.length ≤ 15) : PE X (.Dict keys values pos) (tDisp trs) := by
  intro pins s σ H Q I q
  have hn := I.hok.fresh (Nat.le_refl s.heap.objs.size)
  have I1 := I.laid (a := s.heap.objs.size) (o := .dK []) (h' := s.heap.push { cls := .type "dict", data := .dict #[] }) (t' := s.toks) (fun _ _ q => Heap.get?_push_of_some _ q) (Nat.le_refl _) (dk_empty s.heap I.big)
  refine wpAny_Dict_walk (knd := mixKind X.prog X.w) hall hl h0 h15 (thn (h pins _ σ _ _ I1 (q _ hn)) fun ws s2 ⟨ps, H2, I2, rel, e, kvs, ep, lk, q2⟩ => ?_)
  subst ep
  obtain ⟨rs, c, rk⟩ := carries_of (P := X.prog) (w := X.w) rel
  obtain ⟨z, hd, vs0, r0, dd⟩ := dk_of I2.hok e
  cases r0
  refine ⟨rs, c, dd, fun h' dd' hs => ⟨.ref s.heap.objs.size, _, ?_, rfl, q2⟩⟩
  have hz : (mergeK [] kvs).length ≤ sizeLine := by
    have h1 := length_mergeK kvs []
    rw [List.length_nil] at h1
    rw [sizeLine_eq]; omega
  have he : ∃ q, h'.get? s.heap.objs.size = some q := let ⟨q, _, _, hq, _⟩ := dd'; ⟨q, hq⟩
  exact d_write I2 (by rw [e]; exact True.intro) hs he (dk_new hz hd (rk.merge .nil) dd')


/-! ### methods -/
/-- a method call o.m(e) of a built-in, with one argument: what must be seen of the text -/
structure M1 (X : Cx) (o : Expr) (m : Str) (apos : Pos) (e : Expr) (cpos : Pos) : Prop where
  base : attributeBase o m X.env (eval o X.env) = eval o X.env
  few : ((backTo cpos (starEach [e] X.env)).all (fun x => !x.1) && (backToKw cpos (keywordEach [] X.env)).all (fun x => x.1.isSome)
    && decide (([e] : List Expr).length + ([] : List Keyword).length + (if ([] : List Keyword).isEmpty then 0 else 1) < 30)) = true
  line : (apos.endLine == cpos.line) = true
  trees : backTo cpos (starEach [e] X.env) = [(false, eval e X.env)]
structure M2 (X : Cx) (o : Expr) (m : Str) (apos : Pos) (e f : Expr) (cpos : Pos) : Prop where
  base : attributeBase o m X.env (eval o X.env) = eval o X.env
  few : ((backTo cpos (starEach [e, f] X.env)).all (fun x => !x.1) && (backToKw cpos (keywordEach [] X.env)).all (fun x => x.1.isSome)
    && decide (([e, f] : List Expr).length + ([] : List Keyword).length + (if ([] : List Keyword).isEmpty then 0 else 1) < 30)) = true
  line : (apos.endLine == cpos.line) = true
  trees : backTo cpos (starEach [e, f] X.env) = [(false, eval e X.env), (false, eval f X.env)]

section
variable {X : Cx} {pins : List (Addr × Obj)} {σ : St} {H : Hp} {s : Shared} {a : Addr} {y d : V} {u r : Value} {o : Option V} {A : Around} {E : Value → Shared → Prop}
end

section
variable {X : Cx} {o e f : Expr} {apos cpos : Pos} {td ty tx : TE}
end

/-! ### dict(d): a copy -/
section
variable {X : Cx} {pins : List (Addr × Obj)} {σ : St} {H : Hp} {s : Shared} {a : Addr} {kvs : List (Key × V)} {A : Around} {E : Value → Shared → Prop}
end


section
variable {X : Cx} {pins : List (Addr × Obj)} {σ : St} {H : Hp} {s : Shared} {a : Addr} {y : V} {u : Value} {A : Around} {E : Value → Shared → Prop}
end
end L2


namespace Att
open PySem PySem.W PySem.Calls PyProof.Rows

/-! ### the script -/
theorem ints_of_wellAll {P : Params} {h : Heap} : ∀ (ns : List Int) (vs : List Value), WellAll P h vs (ns.map WData.int) → IntsAre vs ns := by
  intro ns
  induction ns with
  | nil =>
    intro vs w
    rw [List.map_nil] at w
    cases w
    exact .nil
  | cons n ns ih =>
    intro vs w
    rw [List.map_cons] at w
    cases w with
    | cons a b =>
      cases a
      exact .cons _ _ (ih _ b)

theorem script_of {l : OpenLaw} {n : Nat} (hn : l.most = some n) {P : Params} {h : Heap} {args : List WData} {vals : List Value}
    (hpre : l.row.toRowW.claim.pre args = true) (hwl : WellAll P h vals args) :
    ∃ a vs ns, vals = [Value.ref a] ∧ args = [WData.list (ns.map WData.int)] ∧ h.get? a = some { cls := .type "list", data := .seq vs.toArray } ∧ IntsAre vs ns ∧ ns.length ≤ n := by
  have hsh : WShape.hasAll [] args [.list .int] = true := (pre_splitW hpre).1
  have hc : l.pre.holds [] { args := args } = true := (pre_splitW hpre).2
  obtain ⟨d, r, rfl, h1, h2⟩ := hasAllW_cons hsh
  obtain rfl := hasAllW_nil h2
  obtain ⟨xs, rfl, h3⟩ := hasW_list h1
  obtain ⟨ns, rfl⟩ := items_int h3
  have hlen : ns.length ≤ n := by
    unfold OpenLaw.pre at hc
    have h4 : (WTm.not (.lt (.lit (.int (n : Int))) (.len (.arg 0)))).holds [] { args := [.list (ns.map .int)] } = true := by
      have h4 := (holds_andW hc).1
      rw [hn] at h4
      exact h4
    have h5 := condW_of h4 (w_not (w_lt w_lit (w_len_list (w_arg rfl))))
    rw [List.length_map] at h5
    refine Nat.le_of_not_lt fun q => ?_
    have q' : (n : Int) < ((ns.length : Nat) : Int) := by omega
    first
      | (rw [decide_eq_true q'] at h5; exact absurd h5 (by decide))
      | (simp at h5; omega)
  cases hwl with
  | cons w1 w2 =>
    cases w2
    cases w1 with
    | list ho hall => exact ⟨_, _, ns, rfl, rfl, ho, ints_of_wellAll ns _ hall, hlen⟩

theorem post_true (l : OpenLaw) (args : List WData) : l.row.toRowW.claim.post args (.bool true) args = true :=
  postW_of (r := l.row.toRowW) (X := (true == true))
    (show WShape.has [] (.bool true) .bool = true by first | rfl | decide | simp [WShape.has, WShape.arms, WShape.armsAll])
    (show (WTm.eq .res (.lit (.bool true))).value [] { args := args, res := some (.bool true), after := args } = some (.bool (true == true)) from w_eq_bool (w_res rfl) w_lit) rfl

/-! ### the attachment: holds_open's last premise (the goal 'hc' behind k_head) from a wpAny of the law's body -/
/-- the same from a codeAny of the CALL (for a layer whose function contracts speak of calls) -/
theorem attach_call {l : OpenLaw} {n : Nat} {q : Program} {loose : List Str} {XP : (Str → Option Value) → Heap → Prop} {YP : World → Heap → Prop} {d : DefRec}
    (hn : l.most = some n) (hdf : d.params.defaults = [])
    (call : ∀ (w : World) (s₀ s₁ : Shared) (mg mb : Str → Option Value) (fa : Addr) (o : Obj) (pm cd doc : Value) (a : Addr) (vs : List Value) (ns : List Int),
      Ground q loose [] XP w s₀ mg mb s₁.heap → YP w s₁.heap →
      s₁.heap.get? fa = some o → o.data = .func (docDef d.name d.params d.body d.scope pm cd doc) → s₁.heap.CodeRec cd d.name → mg d.name = some (.ref fa) →
      s₁.heap.get? a = some { cls := .type "list", data := .seq vs.toArray } → IntsAre vs ns → ns.length ≤ n → s₁.gens = #[] →
      codeAny (model l.prog w) callerA (.call (.ref fa) ⟨[.ref a], []⟩) (fun r s' => r = .ok (.ret (.bool true)) ∧ OldK s₁.heap s'.heap ∧ s'.os = s₁.os ∧ AllBare s'.gens) s₁) :
    WalkO q loose XP YP l.row.toRowW d [] (fun f vs => PySem.call f vs) := by
  intro w s₀ s₁ mg mb G Y fa o pm cd doc dV kV ho hd hcd hD hmg hg args vals as hpre hlay hrd hwl hlo
  obtain rfl : dV = .none := Dflts.none hD hdf
  obtain rfl : kV = .none := Dflts.noKw hD
  obtain ⟨a, vs, ns, rfl, rfl, hobj, hints, hlen⟩ := script_of hn hpre hwl
  refine enter_call (codeAny_mono (call w s₀ s₁ mg mb fa o pm cd doc a vs ns G Y ho (fd_plain hd) hcd hmg hobj hints hlen hg) fun r s' hq => ?_)
  obtain ⟨rfl, h2, h3, h4⟩ := hq
  exact ⟨.inl ⟨.bool true, .bool true, [], rfl, fun _ => rfl, .bool true, post_true l _, fun _ => ⟨List.Pairwise.nil, fun _ hm => (nomatch hm)⟩⟩, h2, h3, h4⟩

/-! ### rules over ANY heap (no ledger) from facts about the written part K: the library's own take a ledger (News) for what they write -/
section
variable {prog : Program} {w : World} {A : Around} {E : Value → Shared → Prop} {s : Shared} {K : Frag}

/-! the whole heap as the ledger: makes every rule that writes through a ledger a rule over any heap -/
def ledger (h : Heap) (L d : Addr) : List (Addr × Obj) := (List.range h.objs.size).filterMap fun a => if a = L ∨ a = d then none else (h.get? a).map fun o => (a, o)
end
end Att

namespace L2
open PySem PySem.Spec PyProof.Rows

theorem vals_ints : ∀ {vs : List Value} {ns : List Int}, IntsAre vs ns → Vals (ns.map V.int) vs
  | _, _, .nil => .nil
  | _, _, .cons n t h => .cons ⟨t, rfl⟩ (vals_ints h)

/-- nothing is tracked but the script, known to the object (or it is an object of the module) -/
def Only (H : Hp) : Prop := ∀ b, H b = none ∨ ∃ o xs, H b = some (.frz o (.lst xs))

/-- THE HEAD: the law's promise, at the heap behind the top. F, the promise of the law's def, may use that base is part of the heap (so K.In base, base.Ns mainGlobals mg stand in Mod) -/
theorem law_call {P : Program} {w : World} {K : PySem.W.Frag} {mg mb : Str → Option Value} {CX : CXT} {k : Nat} {fa a : Addr} {fd : FuncData} {x : Str} {sp : Sp} {s₁ : Shared} {vs : List Value} {ns : List Int}
    (KX : K.In s₁.heap) (hns : s₁.heap.Ns mainGlobals mg) (hb : s₁.heap.Ns builtinsNs mb) (hbb : ∀ x : Str, x ≠ "__name__" → mb x = bootBuiltins x) (hlim : s₁.heap.NoLimit) (hg : s₁.gens = #[])
    (ha : s₁.heap.get? a = some { cls := .type "list", data := .seq vs.toArray }) (hi : IntsAre vs ns) (hl : ns.length ≤ sizeLine) (hr : Room k callerA)
    (F : ∀ base : Heap, K.In base → base.Ns mainGlobals mg → FnOk P w K mg base CX k fa fd [x] sp) (hbind : ∀ (s : Shared) (u : Value), BindsTo s fd ⟨[u], []⟩ [(x, u)])
    (hsp : ∀ H : Hp, Only H → SqL K H a (ns.map V.int) → sp [.ref a] H (fun v _ => v = .bl true) fun _ _ _ => False)
    (hCX : ∀ H e s', CX [] H s₁ (fun _ _ _ => False) e s' → False) :
    codeAny (model P w) callerA (.call (.ref fa) ⟨[.ref a], []⟩) (fun r s' => r = .ok (.ret (.bool true)) ∧ OldK s₁.heap s'.heap ∧ s'.os = s₁.os ∧ AllBare s'.gens) s₁ := by
  have rv := vals_ints hi
  have lenV := hi.length
  -- from an abstract heap in which nothing but the script may be tracked
  have core : ∀ H : Hp, Only H → SqL K H a (ns.map V.int) → HOk P w H s₁.heap → (∀ b, H b ≠ none → b = a) → (H a ≠ none → K.lookup a = none) →
      codeAny (model P w) callerA (.call (.ref fa) ⟨[.ref a], []⟩) (fun r s' => r = .ok (.ret (.bool true)) ∧ OldK s₁.heap s'.heap ∧ s'.os = s₁.os ∧ AllBare s'.gens) s₁ := by
    intro H hO hS hok hA hK
    have base_of : ∀ {b : Addr} {o : Obj}, s₁.heap.get? b = some o → H b = none → (hidT s₁.heap H).get? b = some o := fun e n => hidT_get e n
    have noA : ∀ {b : Addr} {o : Obj} {es : Array DictEntry} {ep : Nat}, s₁.heap.get? b = some o → o.data = .dict es ep → H b = none := fun {b o es ep} e d => by
      cases q : H b with
      | none => rfl
      | some u =>
        have e' : b = a := hA b (by rw [q]; simp)
        subst e'
        rw [ha] at e; cases e
        have d' : Data.seq vs.toArray _ = Data.dict es ep := d
        cases d'
    have nsK : ∀ {b : Addr} {m : Str → Option Value}, s₁.heap.Ns b m → (hidT s₁.heap H).Ns b m := fun {b m} ⟨o, es, ep, e, d, r⟩ => ⟨o, es, ep, base_of e (noA e d), d, r⟩
    have hKb : K.In (hidT s₁.heap H) := fun b o e => base_of (KX b o e) (by
      cases q : H b with
      | none => rfl
      | some u =>
        have e' : b = a := hA b (by rw [q]; simp)
        subst e'
        rw [hK (by rw [q]; simp)] at e; cases e)
    have hM : Mod K mg (hidT s₁.heap H) := ⟨hKb, nsK hns, ⟨mb, nsK hb, hbb⟩, let ⟨mc, h1, h2⟩ := hlim; ⟨mc, nsK h1, h2⟩⟩
    have e0 : Env0 P w K mg (hidT s₁.heap H) callerA [] s₁ H := ⟨rfl, hM, fun b o e => of_hidT e, Nat.le_of_eq (hidT_size _ _), trivial, fun b hb => absurd (show b ∈ ([] : List Addr) from hb) (by simp), hok, .of_eq hg⟩
    refine codeAny_mono ((F _ hKb (nsK hns)).run callerA [] s₁ H ⟨[.ref a], []⟩ [.ref a] [.ref a] _ _ hr (fun _ => rfl) e0 (hbind s₁ (.ref a)) (.cons rfl .nil) (hsp H hO hS)) fun r s' h => ?_
    cases r with
    | error e => exact (hCX H e s' h).elim
    | ok fl =>
      cases fl with
      | next => exact False.elim h
      | brk => exact False.elim h
      | cont => exact False.elim h
      | ret u =>
        obtain ⟨v, H', os, bare, un, hok', r', q⟩ := h
        have q' : v = .bl true := q
        subst q'
        obtain rfl : u = Value.bool true := r'
        refine ⟨rfl, OldK.of_keep fun b o e => ?_, os, bare⟩
        cases q : H b with
        | none => exact un.keep b o e q (by intro z; exact absurd (show b ∈ ([] : List Addr) from z) (by simp)) (by simp)
        | some u =>
          rcases hO b with z | ⟨ob, xs, z⟩
          · rw [q] at z; cases z
          · have z2 := un.frzs b ob _ z
            obtain ⟨e1, _⟩ := hok b _ z
            obtain ⟨e2, _⟩ := hok' b _ z2
            rw [e] at e1; cases e1
            exact e2
  cases hk : K.lookup a with
  | some o =>
    -- the script is one of the module's own objects
    have e := KX a o hk
    rw [ha] at e
    cases e
    refine core (fun _ => none) (fun _ => .inl rfl) (.inr ⟨_, vs.toArray, _, hk, rfl, rfl, rfl, by rw [List.size_toArray, lenV]; exact hl, by simpa using rv⟩) (fun b u z => by have z' : (none : Option HO) = some u := z; cases z') (fun b z => absurd rfl z) fun z => absurd rfl z
  | none =>
    refine core (fun b => if b = a then some (.frz { cls := .type "list", data := .seq vs.toArray } (.lst (ns.map V.int))) else none) (fun b => ?_) (.inl (.inr ⟨{ cls := .type "list", data := .seq vs.toArray }, if_pos rfl⟩)) (fun b u z => ?_) (fun b z => ?_) fun _ => hk
    · by_cases hb : b = a
      · exact .inr ⟨_, _, if_pos hb⟩
      · exact .inl (if_neg hb)
    · by_cases hb : b = a
      · have z' := (if_pos hb).symm.trans z
        cases z'
        subst hb
        exact ⟨ha, by rw [List.length_map]; exact hl, vs, _, rv, ha⟩
      · have z' := (if_neg hb).symm.trans z
        cases z'
    · by_cases hb : b = a
      · exact hb
      · exact absurd (if_neg hb) z
end L2

namespace L2
open PySem PySem.Spec PyProof.Rows

abbrev KOf {K : PySem.W.Frag} {h : Heap} (_ : K.In h) : PySem.W.Frag := K

/-- the goal that k_head leaves (case hc), from the law's promise. F gives the function object fd (K's own) once, then the promise over every base -/
theorem walk_of {l : PySem.W.OpenLaw} {n k : Nat} {q : Program} {loose : List Str} {XP : (Str → Option Value) → Heap → Prop} {YP : World → Heap → Prop} {d : DefRec} {K : Params → PySem.W.Frag} {CX : World → CXT} {sp : World → Sp} {x : Str}
    (hn : l.most = some n) (hn2 : n ≤ sizeLine) (hdf : d.params.defaults = []) (hr : Room k callerA)
    (hY : ∀ (w : World) (h : Heap), YP w h → (K w.params).In h)
    (F : ∀ (w : World) (mg : Str → Option Value) (fa : Addr) (h : Heap), (K w.params).In h → h.Ns mainGlobals mg → mg d.name = some (.ref fa) →
      ∃ fd : FuncData, (∀ (s : Shared) (u : Value), BindsTo s fd ⟨[u], []⟩ [(x, u)]) ∧
        ∀ base : Heap, (K w.params).In base → base.Ns mainGlobals mg → FnOk l.prog w (K w.params) mg base (CX w) k fa fd [x] (sp w))
    (hsp : ∀ (w : World) (H : Hp) (a : Addr) (ns : List Int), ns.length ≤ n → Only H → SqL (K w.params) H a (ns.map V.int) → sp w [.ref a] H (fun v _ => v = .bl true) fun _ _ _ => False)
    (hCX : ∀ (w : World) (H : Hp) (s : Shared) (e : Value) (s' : Shared), CX w [] H s (fun _ _ _ => False) e s' → False) :
    PySem.W.WalkO q loose XP YP l.row.toRowW d [] (fun f vs => PySem.call f vs) := by
  refine Att.attach_call hn hdf fun w s₀ s₁ mg mb fa o pm cd doc a vs ns G Y ho hd hcd hmg hobj hints hlen hg => ?_
  have KX := hY w _ Y
  obtain ⟨fd, hb, hF⟩ := F w mg fa _ KX G.T.g hmg
  exact law_call KX G.T.g G.T.b G.T.builtins G.T.nolimit hg hobj hints (Nat.le_trans hlen hn2) hr hF hb (fun H hO hS => hsp w H a ns hlen hO hS) fun H e s' => hCX w H s₁ e s'
end L2

/- THE LAST THEOREM (shape; LID, My.* are yours):
   My.Adr: a structure of the addresses that your layer names (classes, functions); My.Txt K t: a structure (Prop) of the equations over K;
   My.txt_mk : {K} {implicit addresses ..} (e1 : nsIn K mainGlobals "law" = some (some (.ref f))) (e2 : K.lookup f = some ⟨oc, od, .func (fnOf "law" "law" params body scope dV kV doc pm an cdv ct), sl⟩) (e3 : codeIn K cdv "law" = true) .. : ∃ t, My.Txt K t

set_option maxRecDepth 100000 in
set_option maxHeartbeats 0 in
theorem PySem.Challenge.cw_LID_holds : PySem.Challenge.rw_LID.Holds := by
  w_on; o_law; k_head; (case hw => w_witness2)
  k_fill
  refine L2.walk_of (l := PySem.Challenge.rw_LID) (n := 63) (k := 40) (x := "script") (CX := fun w => ..) (sp := fun _ => My.sp_law) rfl (by decide) rfl ⟨rfl, by decide, by decide⟩ (fun w h Y => PySem.W.kIn_of Y) ?F ?S ?C
  case F =>
    intro w mg fa h KX G hmg
    have T : ∃ t, My.Txt (L2.KOf KX) t := by
      dsimp only [L2.KOf]                          -- K must stand as «<heap const> w.params» for k_is
      refine' My.txt_mk ?e1 ?e2 ?e3 ..
      (case e1 => PySem.W.k_is)                    -- in the order: a name -> its address -> its object -> its parts
      (case e2 => PySem.W.k_is)
      ..
    obtain ⟨t, T⟩ := T
    have e0 := hmg.symm.trans (PySem.W.mg_of KX G T.law)
    cases e0                                       -- fa is the law's own address
    exact ⟨_, fun s u => .of_eq rfl, fun base kb nb => My.law_fn T kb nb⟩     -- if «.of_eq rfl» comes too early: refine' ⟨_, ?b, fun base kb nb => My.law_fn T kb nb⟩; exact fun s u => .of_eq rfl
  case S => exact fun w H a ns hl hO hS => ..
  case C => exact ..
(the tactic k_is has no namespace: write k_is) -/

/-! SHORT WORDS over the layer: a def of the text, its body, what a loop and a test want. -/
namespace L2
open PySem PySem.Spec PyProof.Rows

/-! ### the text by places -/
/-- the j-th statement of a class's body -/
def inClass (s : Stmt) (j : Nat) : Stmt := match s with
  | .ClassDef _ _ _ body _ _ _ _ _ _ _ => body.getD j (.Pass ⟨0, 0, 0, 0⟩)
  | _ => .Pass ⟨0, 0, 0, 0⟩
def defArgs (s : Stmt) : Arguments := match s with
  | .FunctionDef _ a _ _ _ _ _ _ _ _ => a
  | _ => { posonlyargs := [], args := [], vararg := none, kwonlyargs := [], kw_defaults := [], kwarg := none, defaults := [] }
def defBody (s : Stmt) : List Stmt := match s with
  | .FunctionDef _ _ b _ _ _ _ _ _ _ => b
  | _ => []
def defScope (s : Stmt) : Scope := match s with
  | .FunctionDef _ _ _ _ _ _ sc _ _ _ => sc
  | _ => { kind := .function, names := [], isGenerator := false, isCoroutine := false }

/-! ### no exception leaves a def -/
abbrev CX0 : CXT := ⟨fun _ _ _ _ _ _ => False, true⟩
abbrev E0 : XK := fun _ _ _ => False
theorem pass0 {X : Cx} (hc : X.calm = true) : Passes CX0 X E0 := ⟨fun _ => hc, fun _ _ _ _ _ _ _ h => False.elim h⟩

/-! ### a def (or method) of the text as it stands behind the top -/
structure Fun (K : PySem.W.Frag) (x qual : Str) (st : Stmt) (f : Addr) (fd : FuncData) : Prop where
  ex : ∃ (oc : Value) (od : Option Addr) (kV doc pm : Value) (an : Option Addr) (cdv ct : Value) (osl : Array (Option Value)),
    fd = PySem.W.fnOf x qual (defArgs st) (defBody st) (defScope st) .none kV doc pm an cdv ct ∧ K.lookup f = some ⟨oc, od, .func fd, osl⟩ ∧ PySem.W.codeIn K cdv qual = true
  kp : PySem.W.keepIn K (.ref f) = true
section
variable {P : Program} {w : World} {K : PySem.W.Frag} {mg : Str → Option Value} {base : Heap}
/-- THE RULE for a def: its body as a term of rules, and the reading of that term -/
theorem Fun.ok {x qual : Str} {st : Stmt} {f : Addr} {fd : FuncData} {N ps : List Str} {k : Nat} {sp : Sp} (F : Fun K x qual st f fd) (S : FnScope N ps (defScope st)) (len : ∀ vs H Q E, sp vs H Q E → vs.length = ps.length)
    (hbody : ∀ (cdv : Value) (A : Around) (outer : List Env) (s : Shared) (H : Hp) (vs : List V) (Q : VK) (E : XK), Room k (A.deeper (envOfC qual (defScope st) s.heap.objs.size f cdv)) → sp vs H Q E →
      ∃ t, PSs (cxOf CX0 P w K mg base N qual (defScope st) f cdv A outer s H E).nox (defBody st) t ∧ t { nx := fun _ H' => Q .non H', rt := Q } (start N vs) H) : FnOk P w K mg base CX0 (k + 1) f fd ps sp := by
  obtain ⟨oc, od, kV, doc, pm, an, cdv, ct, osl, rfl, lk, hcd⟩ := F.ex
  refine fn_of lk hcd S len fun A outer s H vs Q E hr hsp => ?_
  obtain ⟨t, h, q⟩ := hbody cdv A outer s H vs Q E hr hsp
  exact ⟨t, h.nox, q⟩
/-- how its arguments bind (no defaults): h is «fun _ _ _ _ _ _ us hl => match us, hl with | [_, _], _ => rfl», one _ a parameter -/
theorem Fun.binds {x qual : Str} {st : Stmt} {f : Addr} {fd : FuncData} {ps : List Str} (F : Fun K x qual st f fd)
    (h : ∀ (kV doc pm : Value) (an : Option Addr) (cdv ct : Value) (us : List Value), us.length = ps.length → bindArgs (PySem.W.fnOf x qual (defArgs st) (defBody st) (defScope st) .none kV doc pm an cdv ct) ⟨us, []⟩ = pure (ps.zip us)) : Binds K fd ps [] := by
  obtain ⟨oc, od, kV, doc, pm, an, cdv, ct, osl, rfl, lk, hcd⟩ := F.ex
  exact .all (h kV doc pm an cdv ct)
theorem fun_mk {x qual : Str} {st : Stmt} {f : Addr} {oc : Value} {od an : Option Addr} {osl : Array (Option Value)} {kV doc pm cdv ct : Value} (l : K.lookup f = some ⟨oc, od, .func (PySem.W.fnOf x qual (defArgs st) (defBody st) (defScope st) .none kV doc pm an cdv ct), osl⟩)
    (c : PySem.W.codeIn K cdv qual = true) (k : PySem.W.keepIn K (.ref f) = true) : Fun K x qual st f (PySem.W.fnOf x qual (defArgs st) (defBody st) (defScope st) .none kV doc pm an cdv ct) := ⟨⟨oc, od, kV, doc, pm, an, cdv, ct, osl, rfl, l, c⟩, k⟩
end
theorem hu_of {A : Around} {k : Nat} (hr : Room k A) : A.units + 1 < cLine := Nat.lt_of_le_of_lt (Nat.add_le_add_left (by decide : 1 ≤ 64) _) hr.units
/-! ### expressions in short: the name that stands in the i-th slot -/
section
variable {X : Cx}
/-- len of a dict -/
theorem call_lenD : CallR X (.builtin "len") (fun xs H Q => ∃ a kvs, xs = [V.ref a] ∧ H a = some (.dK kvs) ∧ Q (.int kvs.length) H) := by
  intro pins s σ H xs us Q I r h
  obtain ⟨a, kvs, rfl, ha, q⟩ := h
  obtain ⟨u, rfl, ru⟩ := vals1 r
  cases ru
  exact d_len I (.inl ha) fun t s' I' => ⟨.int kvs.length, H, I', ⟨t, rfl⟩, q⟩
end

/-! ### tests -/
theorem iteF {A B : Prop} (h : B) : if false = true then A else B := by
  rw [if_neg Bool.false_ne_true]
  exact h
theorem iteT {A B : Prop} (h : A) : if true = true then A else B := by
  rw [if_pos rfl]
  exact h
/-! ### heaps -/
/-- all that was tracked is as it was -/
def Same (H H' : Hp) : Prop := ∀ b o, H b = some o → H' b = some o
theorem Same.refl (H : Hp) : Same H H := fun _ _ h => h
theorem Same.trans {H H1 H2 : Hp} (a : Same H H1) (b : Same H1 H2) : Same H H2 := fun c o h => b c o (a c o h)
theorem Same.free {H H' : Hp} (e : Same H H') {l : Addr} (h : H' l = Option.none) : H l = Option.none := by
  cases q : H l with
  | none => rfl
  | some o =>
    rw [e l o q] at h
    cases h
theorem Same.seq {K : PySem.W.Frag} {H H' : Hp} {a : Addr} {xs : List V} (e : Same H H') (h : SqL K H a xs) : SqL K H' a xs := by
  rcases h with (h | ⟨o, h⟩) | h
  · exact .inl (.inl (e _ _ h))
  · exact .inl (.inr ⟨o, e _ _ h⟩)
  · exact .inr h

/-! ### a dict's pairs: keys that differ -/
section
variable {κ : Type} [DecidableEq κ]
end
end L2

set_option Elab.async false
set_option linter.all false
set_option maxRecDepth 100000
namespace L2
open PySem PySem.Spec PyProof.Rows

/-! ## my own additions to the hand layer: A -/
theorem boot_ty_int : bootBuiltins "int" = some (.type "int") := by decide +kernel
theorem boot_ty_bool : bootBuiltins "bool" = some (.type "bool") := by decide +kernel
theorem boot_ty_str : bootBuiltins "str" = some (.type "str") := by decide +kernel
theorem boot_ty_tuple : bootBuiltins "tuple" = some (.type "tuple") := by decide +kernel
theorem boot_b_len : bootBuiltins "len" = some (.builtin "len") := by decide +kernel
theorem boot_b_isinstance : bootBuiltins "isinstance" = some (.builtin "isinstance") := by decide +kernel
theorem boot_b_abs : bootBuiltins "abs" = some (.builtin "abs") := by decide +kernel
/-- a def of the top as the text has it -/
def DefAt (K : PySem.W.Frag) (mg : Str → Option Value) (x : Str) (st : Stmt) : Prop := ∃ f fd, Fun K x x st f fd ∧ mg x = some (.ref f)
/-- a def of the top with a promise -/
def FnAt (P : Program) (w : World) (K : PySem.W.Frag) (mg : Str → Option Value) (base : Heap) (CX : CXT) (k : Nat) (x : Str) (sp : Sp) : Prop :=
  ∃ f fd ps, FnOk P w K mg base CX k f fd ps sp ∧ mg x = some (.ref f) ∧ PySem.W.keepIn K (.ref f) = true ∧ Binds K fd ps []
/-- how a def's arguments bind -/
def BindsAll (x qual : Str) (st : Stmt) (ps : List Str) : Prop := ∀ (kV doc pm : Value) (an : Option Addr) (cdv ct : Value) (us : List Value), us.length = ps.length →
  bindArgs (PySem.W.fnOf x qual (defArgs st) (defBody st) (defScope st) .none kV doc pm an cdv ct) ⟨us, []⟩ = pure (ps.zip us)
section
variable {P : Program} {w : World} {K : PySem.W.Frag} {mg : Str → Option Value} {base : Heap}
theorem DefAt.ok {x : Str} {st : Stmt} {N ps : List Str} {k : Nat} {sp : Sp} (R : DefAt K mg x st) (S : FnScope N ps (defScope st)) (hb : BindsAll x x st ps) (len : ∀ vs H Q E, sp vs H Q E → vs.length = ps.length)
    (hbody : ∀ (f : Addr) (cdv : Value) (A : Around) (outer : List Env) (s : Shared) (H : Hp) (vs : List V) (Q : VK) (E : XK), Room k (A.deeper (envOfC x (defScope st) s.heap.objs.size f cdv)) → sp vs H Q E →
      ∃ t, PSs (cxOf CX0 P w K mg base N x (defScope st) f cdv A outer s H E).nox (defBody st) t ∧ t { nx := fun _ H' => Q .non H', rt := Q } (start N vs) H) : FnAt P w K mg base CX0 (k + 1) x sp := by
  obtain ⟨f, fd, F, hm⟩ := R
  exact ⟨f, fd, ps, F.ok S len (hbody f), hm, F.kp, F.binds hb⟩
theorem FnAt.mono {x : Str} {CX : CXT} {sp : Sp} {j k : Nat} (G : FnAt P w K mg base CX j x sp) (h : j ≤ k) : FnAt P w K mg base CX k x sp := by
  obtain ⟨f, fd, ps, F, r⟩ := G
  exact ⟨f, fd, ps, F.mono h, r⟩
theorem FnAt.imp {x : Str} {CX : CXT} {sp sp' : Sp} {k : Nat} (G : FnAt P w K mg base CX k x sp) (h : ∀ vs H Q E, sp' vs H Q E → sp vs H Q E) : FnAt P w K mg base CX k x sp' := by
  obtain ⟨f, fd, ps, F, r⟩ := G
  exact ⟨f, fd, ps, F.imp h, r⟩
end
section
variable {X : Cx} {CX : CXT} {k j : Nat} {sp : Sp} {E : XK} {x : Str} {p pos : Pos} {e : Expr} {es : List Expr} {t : TA}
theorem pe_fn (G : FnAt X.prog X.w X.K X.mg X.base CX k x sp) (hr : Room j X.A) (hkj : k ≤ j) (hg : Gl X x) (hx : Passes CX X E)
    (ha : PA X (e :: es) t) (hdb : (x == ("__debug__" : Str)) = false := by decide) (he : starEach (e :: es) X.env = (false, eval e X.env) :: starEach es X.env := by rfl) (hpl : (backTo pos (starEach es X.env)).any (·.1) = false := by rfl) :
    PE X (.Call (.Name x p) (e :: es) [] pos) (tCall sp [] E t) := by
  obtain ⟨f, fd, ps, F, hm, hk, hb⟩ := G
  exact pe_call F (hr.mono hkj) hg hm hk hb .nil hx ha hdb he hpl
/-- a constant of the top -/
def GC (mg : Str → Option Value) (x : Str) (v : V) : Prop := ∃ u, mg x = some u ∧ RelV v u
theorem pe_gc {v : V} (hg : Gl X x) (h : GC X.mg x v) (hd : (x == ("__debug__" : Str)) = false := by decide) : PE X (.Name x p) (tC v) := by
  obtain ⟨u, hm, r⟩ := h
  exact pe_glob hg hm r hd
/-- the name of a built-in type -/
theorem pe_ty (n : String) (hg : Gl X x) (hm : X.mg x = none) (hv : bootBuiltins x = some (.type n)) (hn : x ≠ "__name__" := by decide) (hd : (x == ("__debug__" : Str)) = false := by decide) : PE X (.Name x p) (tC (.ty n)) :=
  pe_bltn hg hm hv rfl hn hd
/-- two rules for one expression -/
theorem PE.or {t t' : TE} (h : PE X e t) (h' : PE X e t') : PE X e (fun σ H Q => t σ H Q ∨ t' σ H Q) := by
  intro pins s σ H Q I q
  rcases q with q | q
  · exact h pins s σ H Q I q
  · exact h' pins s σ H Q I q
/-- isinstance of one class -/
def clsV : V → Value → Prop
  | .ty n, c => c = .type n
  | .ref a, c => c = .ref a
  | _, _ => False
theorem op_isnotB : OpR X (compareOp .IsNot) (fun x y H Q => ∃ a b, x = .bl a ∧ y = .bl b ∧ Q (.bl (!decide (a = b))) H) := by
  intro pins s σ H x y v u Q I rx ry h
  obtain ⟨a, b, rfl, rfl, q⟩ := h
  cases rx
  cases ry
  exact isnot_bool (fin_bl I q (by cases a <;> cases b <;> rfl))
end

section
variable {K : PySem.W.Frag} {h : Heap} {mg : Str → Option Value}
theorem def_mk {x : Str} {st : Stmt} {f : Addr} {oc : Value} {od an : Option Addr} {osl : Array (Option Value)} {kV doc pm cdv ct : Value} (X : K.In h) (G : h.Ns mainGlobals mg) (a : PySem.W.nsIn K mainGlobals x = some (some (.ref f)))
    (l : K.lookup f = some ⟨oc, od, .func (PySem.W.fnOf x x (defArgs st) (defBody st) (defScope st) .none kV doc pm an cdv ct), osl⟩) (c : PySem.W.codeIn K cdv x = true) (k : PySem.W.keepIn K (.ref f) = true) : DefAt K mg x st :=
  ⟨f, _, fun_mk l c k, PySem.W.mg_of X G a⟩
theorem gc_mk {x : Str} {u : Value} {v : V} (X : K.In h) (G : h.Ns mainGlobals mg) (a : PySem.W.nsIn K mainGlobals x = some (some u)) (r : RelV v u) : GC mg x v := ⟨u, PySem.W.mg_of X G a, r⟩
theorem law_mk {P : Program} {w : World} {CX : CXT} {k : Nat} {sp : Sp} {st : Stmt} {fa : Addr} {x : Str} (R : DefAt K mg "law" st) (hmg : mg "law" = some (.ref fa)) (hb : BindsAll "law" "law" st [x])
    (F : ∀ (f : Addr) (fd : FuncData), Fun K "law" "law" st f fd → ∀ base : Heap, FnOk P w K mg base CX k f fd [x] sp) :
    ∃ fd : FuncData, (∀ (s : Shared) (u : Value), BindsTo s fd ⟨[u], []⟩ [(x, u)]) ∧ ∀ base : Heap, K.In base → base.Ns mainGlobals mg → FnOk P w K mg base CX k fa fd [x] sp := by
  obtain ⟨f, fd, F1, hm⟩ := R
  have e := hmg.symm.trans hm
  cases e
  refine ⟨fd, fun s u => ?_, fun base _ _ => F fa fd F1 base⟩
  obtain ⟨oc, od, kV, doc, pm, an, cdv, ct, osl, rfl, lk, hcd⟩ := F1.ex
  exact .of_eq (hb kV doc pm an cdv ct [u] rfl)
end
/-- law's promise: a list of at most 63 ints is handed in, True comes out -/
def sp_law (K : PySem.W.Frag) : Sp := fun vs H Q _ => ∃ (a : Addr) (ns : List Int), vs = [.ref a] ∧ SqL K H a (ns.map V.int) ∧ ns.length ≤ 63 ∧ Only H ∧ ∀ H', Q (.bl true) H'
theorem walk0 {l : PySem.W.OpenLaw} {k : Nat} {q : Program} {loose : List Str} {XP : (Str → Option Value) → Heap → Prop} {YP : World → Heap → Prop} {d : DefRec} {K : Params → PySem.W.Frag} {x : Str} (hn : l.most = some 63) (hdf : d.params.defaults = []) (hr : Room k callerA)
    (hY : ∀ (w : World) (h : Heap), YP w h → (K w.params).In h)
    (F : ∀ (w : World) (mg : Str → Option Value) (fa : Addr) (h : Heap), (K w.params).In h → h.Ns mainGlobals mg → mg d.name = some (.ref fa) →
      ∃ fd : FuncData, (∀ (s : Shared) (u : Value), BindsTo s fd ⟨[u], []⟩ [(x, u)]) ∧ ∀ base : Heap, (K w.params).In base → base.Ns mainGlobals mg → FnOk l.prog w (K w.params) mg base CX0 k fa fd [x] (sp_law (K w.params))) :
    PySem.W.WalkO q loose XP YP l.row.toRowW d [] (fun f vs => PySem.call f vs) :=
  walk_of (n := 63) (k := k) (x := x) (CX := fun _ => CX0) (sp := fun w => sp_law (K w.params)) hn (by decide) hdf hr hY F (fun _ H a ns hl hO hS => ⟨a, ns, rfl, hS, hl, hO, fun _ => rfl⟩) fun _ _ _ _ _ z => z
theorem Same.tup {K : PySem.W.Frag} {H H' : Hp} {a : Addr} {xs : List V} (e : Same H H') (h : SqT K H a xs) : SqT K H' a xs := by
  rcases h with (h | ⟨o, h⟩) | h
  · exact .inl (.inl (e _ _ h))
  · exact .inl (.inr ⟨o, e _ _ h⟩)
  · exact .inr h
theorem Same.new {H : Hp} {p : Addr} {o : HO} (h : H p = none) : Same H (upd H p o) := fun q u e => by rw [upd_ne (ne_of_none e h)]; exact e
end L2

set_option Elab.async false
set_option linter.all false
set_option maxRecDepth 100000
namespace L2
open PySem PySem.Spec PyProof.Rows
/-! ## B: readings that compute -/
def lstAt (H : Hp) (a : Addr) : Option (List V) := match H a with
  | some (.lst xs) => some xs
  | some (.frz _ (.lst xs)) => some xs
  | _ => none
def tupAt (H : Hp) (a : Addr) : Option (List V) := match H a with
  | some (.tup xs) => some xs
  | _ => none
theorem lstAt_rd {H : Hp} {a : Addr} {xs : List V} (h : lstAt H a = some xs) : Rd H a (.lst xs) := by
  unfold lstAt at h
  split at h
  · rename_i e; cases h; exact .inl e
  · rename_i e; cases h; exact .inr ⟨_, e⟩
  · cases h
theorem lstAt_sq {K : PySem.W.Frag} {H : Hp} {a : Addr} {xs : List V} (h : lstAt H a = some xs) : SqL K H a xs := .inl (lstAt_rd h)
theorem tupAt_eq {H : Hp} {a : Addr} {xs : List V} (h : tupAt H a = some xs) : H a = some (.tup xs) := by
  unfold tupAt at h
  split at h
  · rename_i e; cases h; exact e
  · cases h
theorem tupAt_sq {K : PySem.W.Frag} {H : Hp} {a : Addr} {xs : List V} (h : tupAt H a = some xs) : SqT K H a xs := .inl (.inl (tupAt_eq h))
theorem lstAt_of {H : Hp} {a : Addr} {xs : List V} (h : H a = some (.lst xs)) : lstAt H a = some xs := by unfold lstAt; rw [h]
theorem tupAt_of {H : Hp} {a : Addr} {xs : List V} (h : H a = some (.tup xs)) : tupAt H a = some xs := by unfold tupAt; rw [h]
theorem Same.lstAt {H H' : Hp} {a : Addr} {xs : List V} (e : Same H H') (h : L2.lstAt H a = some xs) : L2.lstAt H' a = some xs := by
  rcases lstAt_rd h with q | ⟨o, q⟩
  · exact lstAt_of (e _ _ q)
  · unfold L2.lstAt; rw [e _ _ q]
theorem Same.tupAt {H H' : Hp} {a : Addr} {xs : List V} (e : Same H H') (h : L2.tupAt H a = some xs) : L2.tupAt H' a = some xs := tupAt_of (e _ _ (tupAt_eq h))
def need {α : Type} (o : Option α) (k : α → Prop) : Prop := match o with
  | some a => k a
  | none => False
theorem need_ex {α : Type} {o : Option α} {k : α → Prop} (h : need o k) : ∃ a, o = some a ∧ k a := by
  cases o with
  | none => exact h.elim
  | some a => exact ⟨a, rfl, h⟩
/-- a list or a tuple that is read -/
def seqAt (H : Hp) (a : Addr) : Option (List V) := match H a with
  | some (.lst xs) => some xs
  | some (.frz _ (.lst xs)) => some xs
  | some (.tup xs) => some xs
  | _ => none
theorem seqAt_or {H : Hp} {a : Addr} {xs : List V} (h : seqAt H a = some xs) : lstAt H a = some xs ∨ tupAt H a = some xs := by
  unfold seqAt at h
  unfold lstAt tupAt
  split at h
  · rename_i e; cases h; left; rw [e]
  · rename_i e; cases h; left; rw [e]
  · rename_i e; cases h; right; rw [e]
  · cases h
def ixV : R2 := fun x y H Q => match x, y with
  | .ref p, .int i => need (seqAt H p) fun xs => need (atI xs i) fun v => Q v H
  | .str z, .int i => z.length ≤ sizeLine ∧ need (atI z.cps.toList i) fun c => Q (.str ⟨#[c]⟩) H
  | _, _ => False
section
variable {X : Cx} {a b c : Expr} {ta tb tc : TE} {pos : Pos}
theorem IxR.imp {r r' : R2} (h : IxR X r) (i : ∀ x y H Q, r' x y H Q → r x y H Q) : IxR X r' := fun value slice pins s σ H x y v u Q I rx ry q hs => h value slice pins s σ H x y v u Q I rx ry (i _ _ _ _ q) hs
theorem OpR.imp {f : Value → Value → Sem Value} {r r' : R2} (h : OpR X f r) (i : ∀ x y H Q, r' x y H Q → r x y H Q) : OpR X f r' := fun pins s σ H x y v u Q I rx ry q => h pins s σ H x y v u Q I rx ry (i _ _ _ _ q)
theorem CallR.imp {f : Value} {r r' : List V → Hp → VK → Prop} (h : CallR X f r) (i : ∀ xs H Q, r' xs H Q → r xs H Q) : CallR X f r' := fun pins s σ H xs us Q I rx q => h pins s σ H xs us Q I rx (i _ _ _ q)
theorem SlR.imp {r r' : V → Option Int → Option Int → Hp → VK → Prop} (h : SlR X r) (i : ∀ x l u H Q, r' x l u H Q → r x l u H Q) : SlR X r' := fun pins s σ H x v vl vu lo hi sl Q I rx h1 h2 h3 q => h pins s σ H x v vl vu lo hi sl Q I rx h1 h2 h3 (i _ _ _ _ _ q)
theorem ix_any : IxR X ixV := by
  refine (ix_seq (X := X)).imp fun x y H Q h => ?_
  unfold ixV at h
  split at h
  · rename_i p i
    obtain ⟨xs, e, h⟩ := need_ex h
    obtain ⟨v, e2, h⟩ := need_ex h
    rcases seqAt_or e with e | e
    · exact .inl ⟨p, xs, i, v, rfl, rfl, lstAt_sq e, e2, h⟩
    · exact .inr (.inl ⟨p, xs, i, v, rfl, rfl, tupAt_sq e, e2, h⟩)
  · rename_i z i
    obtain ⟨hz, h⟩ := h
    obtain ⟨c, e2, h⟩ := need_ex h
    exact .inr (.inr ⟨z, i, c, rfl, rfl, hz, e2, h⟩)
  · exact h.elim
theorem Inv.lstR {pins : List (Addr × Obj)} {s : Shared} {σ : St} {H : Hp} {l : Addr} {xs : List V} (I : Inv X pins σ H s) (hH : lstAt H l = some xs) :
    xs.length ≤ sizeLine ∧ ∃ (its : List Value) (n : Nat), Vals xs its ∧ xs.length = its.length ∧ s.heap.get? l = some { cls := .type "list", data := .seq its.toArray n } := by
  obtain ⟨z, its, n, r, e⟩ := (lstAt_rd hH).ok I.hok
  exact ⟨z, its, n, r, r.length, e⟩
def catV : R2 := fun x y H Q => match x, y with
  | .ref l, .ref b => need (lstAt H l) fun xs => need (lstAt H b) fun zs => xs.length + zs.length ≤ sizeLine ∧ ∀ p, H p = none → Q (.ref p) (upd H p (.lst (xs ++ zs)))
  | _, _ => False
theorem op_catV : OpR X (binaryOp .Add) catV := by
  intro pins s σ H x y v u Q I rx ry h
  unfold catV at h
  split at h
  · obtain ⟨xs, hH, h⟩ := need_ex h
    obtain ⟨zs, hB, hz, q⟩ := need_ex h
    cases rx
    cases ry
    obtain ⟨z, its, n, r, hl, e⟩ := I.lstR hH
    obtain ⟨z2, its2, n2, r2, hl2, e2⟩ := I.lstR hB
    refine PySem.P.add_list e e2 ?_ (by rw [List.size_toArray, List.size_toArray]; omega)
    have ea : its.toArray ++ its2.toArray = (its ++ its2).toArray := by simp
    rw [ea]
    exact ⟨.ref _, _, I.lnew (t' := s.toks) (r.append r2) (by rw [List.length_append]; omega), rfl, q _ I.fresh⟩
  · exact h.elim
/-- + of ints, texts, lists -/
def addV : R2 := fun x y H Q => match x, y with
  | .int i, .int j => Q (.int (i + j)) H
  | .str i, .str j => i.length + j.length ≤ sizeLine ∧ Q (.str (i ++ j)) H
  | .ref l, .ref b => catV (.ref l) (.ref b) H Q
  | _, _ => False
theorem op_addV : OpR X (binaryOp .Add) addV := by
  refine ((op_add (X := X)).or ((op_add_str (X := X)).or (op_catV (X := X)))).imp fun x y H Q h => ?_
  unfold addV at h
  split at h
  · exact .inl ⟨_, _, rfl, rfl, h⟩
  · exact .inr (.inl ⟨_, _, rfl, rfl, h.1, h.2⟩)
  · exact .inr (.inr h)
  · exact h.elim
/-- a list's slice -/
def slL : V → Option Int → Option Int → Hp → VK → Prop := fun x lo hi H Q => match x with
  | .ref a => need (lstAt H a) fun xs => ∀ p, H p = none → Q (.ref p) (upd H p (.lst (cutV xs lo hi)))
  | _ => False
theorem sl_lstV : SlR X slL := by
  refine (sl_list (X := X)).imp fun x l u H Q h => ?_
  unfold slL at h
  split at h
  · obtain ⟨xs, e, h⟩ := need_ex h
    exact ⟨_, xs, rfl, lstAt_sq e, h⟩
  · exact h.elim
/-- len -/
def lenV : List V → Hp → VK → Prop := fun xs H Q => match xs with
  | [.str z] => z.length ≤ sizeLine ∧ Q (.int z.length) H
  | [.ref p] => (match H p with
    | some (.dK kvs) => Q (.int kvs.length) H
    | _ => need (seqAt H p) fun ys => Q (.int ys.length) H)
  | _ => False
theorem call_lenV : CallR X (.builtin "len") lenV := by
  refine ((call_len (X := X)).or (call_lenD (X := X))).imp fun xs H Q h => ?_
  unfold lenV at h
  split at h
  · exact .inl ⟨_, _, rfl, ⟨h.1, rfl⟩, h.2⟩
  · rename_i p
    split at h
    · rename_i e
      exact .inr ⟨p, _, rfl, e, h⟩
    · obtain ⟨ys, e, h⟩ := need_ex h
      rcases seqAt_or e with e | e
      · exact .inl ⟨_, _, rfl, .inl ⟨ys, lstAt_sq e, rfl⟩, h⟩
      · exact .inl ⟨_, _, rfl, .inr ⟨ys, tupAt_sq e, rfl⟩, h⟩
  · exact h.elim
end
end L2

set_option Elab.async false
set_option linter.all false
set_option maxRecDepth 100000
set_option maxHeartbeats 1000000
namespace L2
open PySem PySem.Spec PyProof.Rows
/-! ## C: list comprehensions -/
/-- the cells that a block takes along -/
def clFrom (cells : List (Str × Addr)) : List (Str × NameKind) → List (Str × Addr) → List (Str × Addr)
  | [], acc => acc
  | (n, k) :: r, acc => if (k == .free) = true then (match cells.lookup n with
      | some c => clFrom cells r ((n, c) :: acc)
      | none => clFrom cells r acc) else clFrom cells r acc
theorem forIn_closure {env : Env} : ∀ (names : List (Str × NameKind)) (acc : List (Str × Addr)), (∀ x ∈ names, x.2 = .free → ∃ c, env.cells.lookup x.1 = some c) →
    (forIn names acc fun (x : Str × NameKind) (cs : List (Str × Addr)) => (match x with
      | (name, kind) => if (kind == NameKind.free) = true then do let a ← cellOf env name; pure (ForInStep.yield ((name, a) :: cs)) else pure (ForInStep.yield cs) : Sem (ForInStep (List (Str × Addr))))) = pure (clFrom env.cells names acc)
  | [], acc, _ => rfl
  | (n, k) :: r, acc, h => by
    have ih := fun a => forIn_closure (env := env) r a fun x hx => h x (List.mem_cons_of_mem _ hx)
    rw [List.forIn_cons]
    by_cases hk : (k == NameKind.free) = true
    · obtain ⟨c, hc⟩ := h (n, k) List.mem_cons_self (by simpa using hk)
      have e1 : cellOf env n = pure c := by unfold cellOf; rw [hc]
      simp only [hk, if_true, e1, clFrom, hc]
      exact ih _
    · simp only [hk, if_false, clFrom]
      exact ih _
theorem closure_eq {scope : Scope} {env : Env} (h : ∀ x ∈ scope.names, x.2 = .free → ∃ c, env.cells.lookup x.1 = some c) : closureFor scope env = pure (clFrom env.cells scope.names []) := by
  unfold closureFor
  simp only []
  have := forIn_closure (env := env) scope.names [] h
  rw [show (forIn scope.names [] fun x r => (match x with
      | (name, kind) => if (kind == NameKind.free) = true then do let __do_lift ← cellOf env name; pure (ForInStep.yield ((name, __do_lift) :: r)) else pure (ForInStep.yield r) : Sem (ForInStep (List (Str × Addr))))) = pure (clFrom env.cells scope.names []) from this]
  rfl
theorem clFrom_sub {cells : List (Str × Addr)} {x : Str} {c : Addr} : ∀ (names : List (Str × NameKind)) (acc : List (Str × Addr)), (∀ y d, acc.lookup y = some d → cells.lookup y = some d) → (clFrom cells names acc).lookup x = some c → cells.lookup x = some c
  | [], acc, ha, h => ha x c h
  | (n, k) :: r, acc, ha, h => by
    unfold clFrom at h
    split at h
    · split at h
      · rename_i d hd
        refine clFrom_sub r _ (fun y e hy => ?_) h
        rw [List.lookup_cons] at hy
        cases hb : y == n with
        | true =>
          rw [hb] at hy
          have : y = n := eq_of_beq hb
          subst this
          cases hy
          exact hd
        | false =>
          rw [hb] at hy
          exact ha y e hy
      · exact clFrom_sub r acc ha h
    · exact clFrom_sub r acc ha h
theorem clFrom_old {cells : List (Str × Addr)} {x : Str} {c : Addr} (hx : cells.lookup x = some c) : ∀ (names : List (Str × NameKind)) (acc : List (Str × Addr)), acc.lookup x = some c → (clFrom cells names acc).lookup x = some c
  | [], _, h => h
  | (n, k) :: r, acc, h => by
    unfold clFrom
    split
    · split
      · rename_i d hd
        refine clFrom_old hx r _ ?_
        rw [List.lookup_cons]
        cases hb : x == n with
        | true =>
          have : x = n := eq_of_beq hb
          subst this
          rw [hx] at hd
          cases hd
          rfl
        | false => exact h
      · exact clFrom_old hx r acc h
    · exact clFrom_old hx r acc h
theorem clFrom_has {cells : List (Str × Addr)} {x : Str} {c : Addr} (hx : cells.lookup x = some c) : ∀ (names : List (Str × NameKind)) (acc : List (Str × Addr)), names.lookup x = some .free → (clFrom cells names acc).lookup x = some c
  | [], _, h => by simp at h
  | (n, k) :: r, acc, h => by
    rw [List.lookup_cons] at h
    unfold clFrom
    cases hb : x == n with
    | true =>
      rw [hb] at h
      cases h
      have : x = n := eq_of_beq hb
      subst this
      rw [if_pos (show (NameKind.free == NameKind.free) = true by decide), hx]
      exact clFrom_old hx r _ (by rw [List.lookup_cons, beq_self_eq_true])
    | false =>
      rw [hb] at h
      split
      · split
        · exact clFrom_has hx r _ h
        · exact clFrom_has hx r acc h
      · exact clFrom_has hx r acc h

/-- what a block asks of the names, by a look at the text -/
def compOk (osc : Scope) (N own fr : List Str) (ix : List Nat) (scope : Scope) : Bool :=
  scope.kind == .function && scope.names.all (fun y => y.2 != .cell) && scope.names.all (fun y => y.2 != .local || scope.names.lookup y.1 == some .local) &&
  scope.names.all (fun y => y.2 != .free || osc.names.lookup y.1 == some .cell) && own.all (fun x => scope.names.lookup x == some .local) && fr.all (fun x => scope.names.lookup x == some .free) && decide (ix.map (fun j => N[j]?) = fr.map some) && decide ((own ++ fr).Nodup) && own.all (fun x => scope.names.all fun y => y.2 != .free || decide (y.1 ≠ x))
/-- the block's context -/
def cxComp (X : Cx) (own fr : List Str) (scope : Scope) (C : Addr) (s : Shared) (H : Hp) (pins : List (Addr × Obj)) (fp : List Addr) : Cx where
  prog := X.prog
  w := X.w
  K := X.K
  mg := X.mg
  base := X.base
  A := X.A
  N := own ++ fr
  s₀ := s
  H₀ := H
  env := compEnvC scope (clFrom X.env.cells scope.names []) C X.env
  outer := X.stack
  stack := X.stack
  ex := fp
  calm := true
  fn := fun x => decide (x ∈ own)
  pn := X.pn ++ pins
  xe := fun _ _ => False
/-- the values at the block's start -/
def σC (own : List Str) (ix : List Nat) (σ : St) : St := List.replicate own.length none ++ ix.map fun j => (σ[j]?).join
theorem lookup_relabel_free {env : Env} : ∀ {names : List (Str × NameKind)} {x : Str} {k : NameKind}, (names.map fun (n, k) => if (k == NameKind.free && env.scope.kind == .function && env.kindOf n == some .cell) then (n, NameKind.cell) else (n, k)).lookup x = some k →
    names.lookup x = some k ∨ (k = .cell ∧ names.lookup x = some .free)
  | [], _, _, h => by simp at h
  | (n, k') :: r, x, k, h => by
    have ih := @lookup_relabel_free env r x k
    have h : List.lookup x ((if (k' == NameKind.free && env.scope.kind == .function && env.kindOf n == some .cell) = true then (n, NameKind.cell) else (n, k')) :: _) = _ := h
    by_cases hc : (k' == NameKind.free && env.scope.kind == .function && env.kindOf n == some .cell) = true
    · rw [if_pos hc, List.lookup_cons] at h
      have hk : k' = .free := by
        have h0 := hc
        rw [Bool.and_eq_true, Bool.and_eq_true] at h0
        have := h0.1.1
        cases k' <;> first | rfl | cases this
      rw [List.lookup_cons]
      cases hx : x == n with
      | true =>
        rw [hx] at h
        cases h
        exact .inr ⟨rfl, by rw [hk]⟩
      | false =>
        rw [hx] at h
        exact ih h
    · rw [if_neg hc, List.lookup_cons] at h
      rw [List.lookup_cons]
      cases hx : x == n with
      | true =>
        rw [hx] at h
        exact .inl h
      | false =>
        rw [hx] at h
        exact ih h
theorem lookup_relabel_of_free {env : Env} : ∀ {names : List (Str × NameKind)} {x : Str}, names.lookup x = some .free →
    (names.map fun (n, k) => if (k == NameKind.free && env.scope.kind == .function && env.kindOf n == some .cell) then (n, NameKind.cell) else (n, k)).lookup x = some .cell ∨
    (names.map fun (n, k) => if (k == NameKind.free && env.scope.kind == .function && env.kindOf n == some .cell) then (n, NameKind.cell) else (n, k)).lookup x = some .free
  | [], _, h => by simp at h
  | (n, k') :: r, x, h => by
    have ih := @lookup_relabel_of_free env r x
    show List.lookup x ((if (k' == NameKind.free && env.scope.kind == .function && env.kindOf n == some .cell) = true then (n, NameKind.cell) else (n, k')) :: _) = _ ∨ List.lookup x ((if (k' == NameKind.free && env.scope.kind == .function && env.kindOf n == some .cell) = true then (n, NameKind.cell) else (n, k')) :: _) = _
    rw [List.lookup_cons] at h
    by_cases hc : (k' == NameKind.free && env.scope.kind == .function && env.kindOf n == some .cell) = true
    · rw [if_pos hc]; simp only [List.lookup_cons]
      cases hx : x == n with
      | true => exact .inl rfl
      | false => rw [hx] at h; exact ih h
    · rw [if_neg hc]; simp only [List.lookup_cons]
      cases hx : x == n with
      | true => rw [hx] at h; exact .inr h
      | false => rw [hx] at h; exact ih h
structure CompScope (osc : Scope) (N own fr : List Str) (ix : List Nat) (scope : Scope) : Prop where
  kind : scope.kind = .function
  nocell : ∀ y ∈ scope.names, y.2 ≠ .cell
  loc : ∀ y ∈ scope.names, y.2 = .local → scope.names.lookup y.1 = some .local
  free : ∀ y ∈ scope.names, y.2 = .free → osc.names.lookup y.1 = some .cell
  ow : ∀ x ∈ own, scope.names.lookup x = some .local
  fe : ∀ x ∈ fr, scope.names.lookup x = some .free
  ic : ix.map (fun j => N[j]?) = fr.map some
  nd : (own ++ fr).Nodup
  lf : ∀ x ∈ own, ∀ y ∈ scope.names, y.2 = .free → y.1 ≠ x
theorem compOk.of {osc : Scope} {N own fr : List Str} {ix : List Nat} {scope : Scope} (h : compOk osc N own fr ix scope = true) : CompScope osc N own fr ix scope := by
  unfold compOk at h
  simp only [Bool.and_eq_true, decide_eq_true_eq] at h
  obtain ⟨⟨⟨⟨⟨⟨⟨⟨h1, h2⟩, h3⟩, h4⟩, h5⟩, h6⟩, h7⟩, h8⟩, h9⟩ := h
  refine ⟨?_, fun y hy e => ?_, fun y hy e => ?_, fun y hy e => ?_, fun x hx => ?_, fun x hx => ?_, h7, h8, fun x hx y hy e => ?_⟩
  · revert h1; cases scope.kind <;> first | (intro _; rfl) | (intro z; cases z)
  · have := List.all_eq_true.mp h2 y hy
    rw [e] at this
    exact absurd this (by decide)
  · have := List.all_eq_true.mp h3 y hy
    rw [e] at this
    have q : (scope.names.lookup y.1 == some NameKind.local) = true := by simpa using this
    exact eq_of_beq q
  · have := List.all_eq_true.mp h4 y hy
    rw [e] at this
    have q : (osc.names.lookup y.1 == some NameKind.cell) = true := by simpa using this
    exact eq_of_beq q
  · exact eq_of_beq (List.all_eq_true.mp h5 x hx)
  · exact eq_of_beq (List.all_eq_true.mp h6 x hx)
  · have := List.all_eq_true.mp (List.all_eq_true.mp h9 x hx) y hy
    rw [e] at this
    simpa using this

section
variable {X : Cx} {pins : List (Addr × Obj)} {σ : St} {H H' : Hp} {s : Shared} {own fr : List Str} {ix : List Nat} {scope : Scope} {fp : List Addr} {osc : Scope} {N : List Str}
theorem Inv.cellAt (I : Inv X pins σ H s) {x : Str} (h : X.env.scope.names.lookup x = some .cell) : ∃ c, X.env.cells.lookup x = some c := I.ok.has x (.inl h)
theorem comp_ok (I : Inv X pins σ H s) (S : CompScope X.env.scope X.N own fr ix scope) (hc : X.calm = true) (hf : ∀ b ∈ fp, FpOk X pins H b) (hx : ∀ b ∈ fp, b < s.heap.objs.size) :
    (cxComp X own fr scope s.heap.objs.size s H pins fp).Ok := by
  have sub : ∀ x c, (clFrom X.env.cells scope.names []).lookup x = some c → X.env.cells.lookup x = some c := fun x c h => clFrom_sub scope.names [] (fun y d q => by simp at q) h
  have frees : ∀ x, scope.names.lookup x = some .free → ∃ c, (clFrom X.env.cells scope.names []).lookup x = some c := fun x h => by
    obtain ⟨c, hc'⟩ := I.cellAt (S.free (x, .free) (PySem.mem_of_lookup h) rfl)
    exact ⟨c, clFrom_has hc' scope.names [] h⟩
  refine ⟨I.ok.mod, S.kind, I.ok.glob, I.ok.blt, Nat.le_refl _, fun x y c h1 h2 => I.ok.inj x y c (sub x c h1) (sub y c h2), fun x hx' => ?_, fun x c h1 h2 => ?_, fun _ => I.ok.hd hc, I.ok.frames, .inl rfl, fun b hb => ?_, I.bs, Nat.le_trans I.ok.bsz I.sz, fun b o e hb => ?_, fun b hb hs => ?_, I.stack, I.stkFree⟩
  · have hx' : (relabel scope X.env).names.lookup x = some .cell ∨ (relabel scope X.env).names.lookup x = some .free := hx'
    rcases hx' with h | h
    · rcases lookup_relabel_free h with q | ⟨_, q⟩
      · exact absurd rfl (S.nocell (x, .cell) (PySem.mem_of_lookup q))
      · exact frees x q
    · rcases lookup_relabel_free h with q | ⟨z, _⟩
      · exact frees x q
      · cases z
  · exfalso
    have h1 : x ∈ own := of_decide_eq_true h1
    have h3 := S.ow x h1
    -- a name of its own is no cell
    have : ∀ (names : List (Str × NameKind)) (acc : List (Str × Addr)), acc.lookup x = none → (∀ y ∈ names, y.2 = .free → y.1 ≠ x) → (clFrom X.env.cells names acc).lookup x = none := by
      intro names
      induction names with
      | nil => intro acc ha _; exact ha
      | cons y r ih =>
        intro acc ha hn
        obtain ⟨n, k⟩ := y
        unfold clFrom
        split
        · rename_i hk
          have hk : k = .free := by cases k <;> first | rfl | cases hk
          split
          · refine ih _ ?_ fun z hz => hn z (List.mem_cons_of_mem _ hz)
            rw [List.lookup_cons]
            have : (x == n) = false := by
              have := hn (n, k) List.mem_cons_self hk
              exact beq_eq_false_iff_ne.mpr fun z => this z.symm
            rw [this]
            exact ha
          · exact ih _ ha fun z hz => hn z (List.mem_cons_of_mem _ hz)
        · exact ih _ ha fun z hz => hn z (List.mem_cons_of_mem _ hz)
    by_cases hm : ∃ y ∈ scope.names, y.2 = .free ∧ y.1 = x
    · obtain ⟨y, hy, e1, e2⟩ := hm
      exact S.lf x h1 y hy e1 e2
    · have h5 := this scope.names [] (by simp) (fun y hy e z => hm ⟨y, hy, e, z⟩)
      have h2 : (clFrom X.env.cells scope.names []).lookup x = some c := h2
      rw [h5] at h2
      cases h2
  · refine ⟨Nat.ne_of_lt (hx b hb), fun x c h z => ?_⟩
    exact (hf b hb).2.2.2.2.1 x c (sub x c h) z
  · rcases (hf b hb).2.2.2.1 with z | z
    · exact I.ok.noex b o e z
    · exact absurd (Nat.lt_of_lt_of_le (Heap.lt_size e) (Nat.le_trans I.ok.bsz z)) (Nat.lt_irrefl _)
  · obtain ⟨_, h1, h2, _⟩ := hf b hb
    rcases List.mem_cons.mp (I.stkSub b hs) with z | z
    · exact h1 z
    · exact h2 z
theorem comp_start (I : Inv X pins σ H s) (S : CompScope X.env.scope X.N own fr ix scope) (hc : X.calm = true) (hf : ∀ b ∈ fp, FpOk X pins H b) (hx : ∀ b ∈ fp, b < s.heap.objs.size) {h1 : Heap} {tk : Nat} {m : Str → Option Value}
    (hns : h1.Ns s.heap.objs.size m) (hk : ∀ b o, s.heap.get? b = some o → h1.get? b = some o) :
    Inv (cxComp X own fr scope s.heap.objs.size s H pins fp) [] (σC own ix σ) H { s with heap := h1, toks := tk } := by
  have sub : ∀ x c, (clFrom X.env.cells scope.names []).lookup x = some c → X.env.cells.lookup x = some c := fun x c h => clFrom_sub scope.names [] (fun y d q => by simp at q) h
  have hl : ix.length = fr.length := by
    have := congrArg List.length S.ic
    simpa using this
  refine ⟨comp_ok I S hc hf hx, rfl, I.bare, Un.kept hk, ⟨m, hns, fun i x v h1' h2 h3 => ?_⟩, fun x c h => ?_, I.hok.fresh (Nat.le_refl _), fun x c h => I.freeC x c (sub x c h), fun p hp => ?_, I.hok.kept hk, ?_⟩
  · have h1' : (own ++ fr)[i]? = some x := h1'
    have hi : own.length ≤ i := by
      by_cases z : i < own.length
      · unfold σC at h2
        rw [List.getElem?_append_left (by simpa using z), List.getElem?_replicate] at h2
        split at h2 <;> cases h2
      · omega
    unfold σC at h2
    rw [List.getElem?_append_right (by simpa using hi), List.length_replicate, List.getElem?_map] at h2
    rw [List.getElem?_append_right hi] at h1'
    cases e : ix[i - own.length]? with
    | none => rw [e] at h2; cases h2
    | some j =>
      rw [e] at h2
      have h2 : (σ[j]?).join = some v := Option.some.inj h2
      have e2 : σ[j]? = some (some v) := by
        cases q : σ[j]? with
        | none => rw [q] at h2; cases h2
        | some o => rw [q] at h2; exact congrArg some h2
      have e3 : X.N[j]? = some x := by
        have q := congrArg (fun l => l[i - own.length]?) S.ic
        simp only [List.getElem?_map, e, h1'] at q
        simpa using q
      have hfr := S.fe x (List.mem_of_getElem? h1')
      have ho := S.free (x, .free) (PySem.mem_of_lookup hfr) rfl
      obtain ⟨m0, _, hl0⟩ := I.loc
      obtain ⟨u, r, l⟩ := hl0 j x v e3 e2 (.inr (.inl ho))
      refine ⟨u, r, .inr ⟨?_, ?_⟩⟩
      · exact lookup_relabel_of_free hfr
      · rcases l with ⟨k, _⟩ | ⟨_, c, hcl, hcell⟩
        · have k : X.env.scope.names.lookup x = some .local := k
          rw [ho] at k; cases k
        · refine ⟨c, clFrom_has hcl scope.names [] hfr, ?_⟩
          obtain ⟨o, q1, q2⟩ := hcell
          exact ⟨o, hk c o q1, q2⟩
  · obtain ⟨v, o, q1, q2⟩ := I.cell x c (sub x c h)
    exact ⟨v, o, hk c o q1, q2⟩
  · have hp : p ∈ (X.pn ++ pins) ++ [] := hp
    rw [List.append_nil] at hp
    obtain ⟨e, n, ne, nf, d⟩ := I.pin p hp
    refine ⟨hk _ _ e, n, Nat.ne_of_lt (Heap.lt_size e), fun z => ?_, d⟩
    rcases List.mem_cons.mp (I.stkSub p.1 z) with q | q
    · exact ne q
    · exact nf q
  · show (σC own ix σ).length = (own ++ fr).length
    unfold σC
    simp [hl]
/-- the block's end: back in the frame -/
theorem comp_back (I : Inv X pins σ H s) {pins' : List (Addr × Obj)} {σ' : St} {s' : Shared} (J : Inv (cxComp X own fr scope s.heap.objs.size s H pins fp) pins' σ' H' s') (hf : ∀ b ∈ fp, FpOk X pins H b) : Inv X pins σ H' s' :=
  I.call' (ch := fp) J.os J.base J.hok J.bare fun b hb => ⟨(hf b hb).2.2.2.1, (hf b hb).2.1, (hf b hb).2.2.2.2.1, (hf b hb).2.2.2.2.2⟩
end
end L2

set_option Elab.async false
set_option linter.all false
set_option maxRecDepth 100000
set_option maxHeartbeats 1000000
namespace L2
open PySem PySem.Spec PyProof.Rows
/-- the second knows at least what the first knows -/
def leS : St → St → Prop
  | [], [] => True
  | none :: a, _ :: b => leS a b
  | some x :: a, y :: b => y = some x ∧ leS a b
  | _, _ => False
theorem leS.len : ∀ {a b : St}, leS a b → a.length = b.length
  | [], [], _ => rfl
  | none :: a, _ :: b, h => by have := leS.len (a := a) (b := b) h; simp [this]
  | some x :: a, y :: b, h => by have := leS.len (a := a) (b := b) h.2; simp [this]
  | [], _ :: _, h => h.elim
  | none :: _, [], h => h.elim
  | some _ :: _, [], h => h.elim
theorem leS.get : ∀ {a b : St} {i : Nat} {v : V}, leS a b → a[i]? = some (some v) → b[i]? = some (some v)
  | [], [], _, _, _, e => by simp at e
  | none :: a, _ :: b, 0, _, _, e => by simp at e
  | none :: a, _ :: b, i + 1, v, h, e => by
    have := leS.get (a := a) (b := b) (i := i) (v := v) h (by simpa using e)
    simpa using this
  | some x :: a, y :: b, 0, v, h, e => by
    simp at e; subst e
    simpa using h.1
  | some x :: a, y :: b, i + 1, v, h, e => by
    have := leS.get (a := a) (b := b) (i := i) (v := v) h.2 (by simpa using e)
    simpa using this
  | [], _ :: _, _, _, h, _ => h.elim
  | none :: _, [], _, _, h, _ => h.elim
  | some _ :: _, [], _, _, h, _ => h.elim
section
variable {X : Cx} {pins : List (Addr × Obj)} {σ σ' : St} {H : Hp} {s : Shared}
theorem Inv.less (I : Inv X pins σ' H s) (h : leS σ σ') : Inv X pins σ H s := I.weak h.len fun _ _ e => h.get e
/-- a comprehension's tests -/
def PCs (X : Cx) (ifs : List Expr) (t : TT) : Prop :=
  ∀ (pins : List (Addr × Obj)) (s : Shared) (σ : St) (H : Hp) (Q : Bool → Hp → Prop), Inv X pins σ H s → t σ H Q →
    wpAny (model X.prog X.w) X.A (forIn ifs true fun c r => if r = true then do let ok ← isTrue c X.env (eval c X.env); pure (ForInStep.yield ok) else pure (ForInStep.yield r)) (TP X pins σ Q) X.xe s
def tYes : TT := fun _ H Q => Q true H
theorem pcs_nil : PCs X [] tYes := fun pins s σ H Q I h => wpAny_pure ⟨H, I, h⟩
end

/-- the loop of a block, whatever the target -/
theorem comp_loop {prog : Program} {w : World} {A : Around} {R : Result → Shared → Prop} {s : Shared} {elt target iter : Expr} {ifs : List Expr} {scope : Scope} {pos : Pos} {it acc : Value} {env : Env} (I : Nat → Shared → Prop)
    (turn : ∀ n s, I n s → wpAny (model prog w) A (pyNext it) (fun r s₁ => match r with
      | none => R (.ok .next) s₁
      | some v => wpAny (model prog w) A (letOwnedTupleGo target it v) (fun _ s₁' => wpAny (model prog w) A (assign target env v) (fun _ s₂ =>
          wpAny (model prog w) A (forIn ifs true fun c r => if r = true then do let ok ← isTrue c env (eval c env); pure (ForInStep.yield ok) else pure (ForInStep.yield r)) (fun ok s₃ =>
            if ok = true then wpAny (model prog w) A (eval elt env) (fun x s₄ =>
              wpAny (model prog w) A (call (.builtin "list.append") [acc, x]) (fun _ s₅ => ∃ m, m < n ∧ I m s₅) (fun _ _ => False) s₄) (fun _ _ => False) s₃
            else ∃ m, m < n ∧ I m s₃) (fun _ _ => False) s₂) (fun _ _ => False) s₁') (fun _ _ => False) s₁) (fun _ _ => False) s)
    (n : Nat) (h : I n s) : codeAny (model prog w) A (.compLoop (.ListComp elt [⟨target, iter, ifs, 0⟩] scope pos) 0 it acc env) R s := by
  have mo : ∀ {α : Type} {t : Sem α} {Q : α → Shared → Prop} {E : Value → Shared → Prop} {s : Shared}, wpAny (model prog w) A t Q (fun _ _ => False) s → wpAny (model prog w) A t Q E s := fun h => wpAny_mono h (fun _ _ q => q) fun _ _ z => z.elim
  refine codeAny_loop rfl I (fun n s hI => ?_) n h
  show wpAny _ A ((compTurn (.ListComp elt [⟨target, iter, ifs, 0⟩] scope pos) 0 it acc env).onRaise (fun x => do noteFrame x env; theTreesLotGoes x)) _ _ s
  refine wpAny_noted ?_
  rw [compTurn_list]
  refine wpAny_bind (wpAny_standAt (wpAny_bind (mo (thn (turn n s hI) fun r s₁ h₁ => ?_))))
  cases r with
  | none => exact wpAny_pure h₁
  | some v =>
    refine wpAny_bind (mo (thn h₁ fun _ s₁' h₁' => wpAny_bind (mo (thn h₁' fun _ s₂ h₂ => wpAny_bind (mo (thn h₂ fun ok s₃ h₃ => ?_))))))
    cases ok with
    | false => exact wpAny_pure ⟨rfl, h₃⟩
    | true => exact wpAny_bind (wpAny_bind (mo (thn h₃ fun x s₄ h₄ => wpAny_bind (mo (thn h₄ fun _ s₅ h₅ => wpAny_pure (wpAny_pure ⟨rfl, h₅⟩))))))

/-- the block's own reading: what is walked (J), the heap ahead (H, the list under way stands at acc), what is wanted behind -/
def tBlock (J : It) (σ0 : St) (acc : Addr) (g : TG) (tt : TT) (te : TE) (Q : Hp → Prop) (H : Hp) : Prop :=
  ∃ W : Nat → Nat → Hp → Prop, (∃ m, W 0 m H) ∧ ∀ i m H, W i m H → (J.stop i H ∧ Q H) ∨
    (J.go i H ∧ ∀ x H', J.yld i H x H' → g x σ0 H' fun σ2 H2 => leS σ0 σ2 ∧ tt σ2 H2 fun b H3 => if b = true then te σ2 H3 fun y H4 => ∃ ys, H4 acc = some (.lst ys) ∧ ys.length < sizeLine ∧ ∃ m', m' < m ∧ W (i + 1) m' (upd H4 acc (.lst (ys ++ [y])))
      else ∃ m', m' < m ∧ W (i + 1) m' H3)
/-- x = [..]: the store comes while the block's names still stand -/
def tSetC (own : List Str) (ix : List Nat) (i : Nat) (wi : TI) (g : TG) (tt : TT) (te : TE) : TS := fun D σ H => wi σ H fun J H1 => ∀ acc, H1 acc = none → tBlock J (σC own ix σ) acc g tt te (fun H2 => D.nx (σ.set i (some (.ref acc))) H2) (upd H1 acc (.lst []))
abbrev InC (X : Cx) (own fr : List Str) (scope : Scope) (p : Cx → Prop) : Prop := ∀ (C : Addr) (s : Shared) (H : Hp) (pins : List (Addr × Obj)) (fp : List Addr), p (cxComp X own fr scope C s H pins fp)
section
variable {X : Cx} {osc : Scope} {N own fr : List Str} {ix : List Nat} {scope : Scope} {tg iter elt : Expr} {ifs : List Expr} {pos : Pos} {wi : TI} {g : TG} {tt : TT} {te : TE}
/-- the block runs -/
theorem comp_block {pins : List (Addr × Obj)} {s : Shared} {σ : St} {H : Hp} {it : Addr} {fp : List Addr} {tn : Nat → Heap → Prop} {J : It} {E : Value → Shared → Prop} {Qf : Addr → Hp → Prop} (S : CompScope X.env.scope X.N own fr ix scope) (hc : X.calm = true)
    (hg : InC X own fr scope fun Y => PG Y tg g) (ht : InC X own fr scope fun Y => PCs Y ifs tt) (he : InC X own fr scope fun Y => PE Y elt te)
    (I : Inv X pins σ H s) (T : Turn X.prog X.w X.K tg J fp it tn) (st : tn 0 s.heap) (hf : ∀ b ∈ fp, FpOk X pins H b) (h : ∀ acc, H acc = none → tBlock J (σC own ix σ) acc g tt te (Qf acc) (upd H acc (.lst [])))
    {RR : Value → Addr → Result → Shared → Prop}
    (hR : ∀ (acc C : Addr) (s₃ : Shared) (H₃ H' : Hp) (fp' : List Addr) (s' : Shared), C = s₃.heap.objs.size → s₃.os = s.os → Inv X pins σ H₃ s₃ → (∀ b ∈ fp', FpOk X pins H₃ b) → Inv (cxComp X own fr scope C s₃ H₃ pins fp') [] (σC own ix σ) H' s' → Qf acc H' → (∃ m, s'.heap.Ns C m) → RR (.ref acc) C (.ok .next) s') :
    wpAny (model X.prog X.w) X.A (newList []) (fun acc s₃ => wpAny (model X.prog X.w) X.A (newFunctionEnv scope X.env.globals (clFrom X.env.cells scope.names []) [] X.env.qual none .none (some X.env)) (fun cenv s₄ =>
      codeAny (model X.prog X.w) X.A (.compStart (.ListComp elt [⟨tg, iter, ifs, 0⟩] scope pos) 0 (.ref it) acc { cenv with scope := relabel scope X.env }) (RR acc cenv.locals) s₄) E s₃) E s := by
  refine wpAny_newObj_type (wpAny_newFunctionEnv S.nocell (by intro y hy; simp at hy) (fun h₁ hns₁ hsb₁ => ?_) S.kind)
  dsimp only at hns₁ hsb₁ ⊢
  have hfree : H s.heap.objs.size = none := I.fresh
  -- the list is laid
  have I3 : Inv X pins σ (upd H s.heap.objs.size (.lst [])) { s with heap := s.heap.push { cls := .type "list", dict := none, data := .seq ([] : List Value).toArray }, toks := s.toks } :=
    I.lnew (its := []) (t' := s.toks) .nil (Nat.zero_le _)
  generalize hs3 : ({ s with heap := s.heap.push { cls := .type "list", dict := none, data := .seq ([] : List Value).toArray }, toks := s.toks } : Shared) = s3 at I3
  have eh : s.heap.push { cls := .type "list", dict := none, data := .seq ([] : List Value).toArray } = s3.heap := by rw [← hs3]
  have eo : s3.os = s.os := by rw [← hs3]
  have es : ({ s with heap := h₁, toks := s.toks + ([] : List (Str × Value)).length } : Shared) = { s3 with heap := h₁, toks := s.toks } := by rw [← hs3]; rfl
  rw [eh] at hns₁ hsb₁ ⊢
  have ek : ∀ b o, s.heap.get? b = some o → s3.heap.get? b = some o := fun b o e => by rw [← eh]; exact Heap.get?_push_of_some _ e
  have hk1 : ∀ b o, s3.heap.get? b = some o → h₁.get? b = some o := fun b o e => hsb₁.extBut b o (Nat.ne_of_lt (Heap.lt_size e)) (Heap.get?_push_of_some _ e)
  have hobj : ∀ b ∈ fp, ∃ o, s.heap.get? b = some o ∧ ∀ v, o.data ≠ .cell v := T.obj 0 _ st
  have hx : ∀ b ∈ fp, b < s3.heap.objs.size := fun b hb => by
    obtain ⟨o, e, _⟩ := hobj b hb
    exact Heap.lt_size (ek b o e)
  have hf3 : ∀ b ∈ fp, FpOk X pins (upd H s.heap.objs.size (.lst [])) b := fun b hb => by
    obtain ⟨o, e, _⟩ := hobj b hb
    refine ⟨?_, (hf b hb).2⟩
    rw [upd_ne (Nat.ne_of_lt (Heap.lt_size e))]
    exact (hf b hb).1
  have st3 : tn 0 h₁ := T.keep 0 _ _ st fun b hb o e => hk1 b o (ek b o e)
  have J0 := comp_start (tk := s.toks) I3 S hc hf3 hx hns₁ hk1
  generalize hY : cxComp X own fr scope s3.heap.objs.size s3 (upd H s.heap.objs.size (.lst [])) pins fp = Y at J0
  have hgY : PG Y tg g := hY ▸ hg _ _ _ _ _
  have htY : PCs Y ifs tt := hY ▸ ht _ _ _ _ _
  have heY : PE Y elt te := hY ▸ he _ _ _ _ _
  have y1 : Y.prog = X.prog := by rw [← hY]; rfl
  have y2 : Y.w = X.w := by rw [← hY]; rfl
  have y3 : Y.K = X.K := by rw [← hY]; rfl
  have y4 : Y.calm = true := by rw [← hY]; rfl
  have y5 : Y.A = X.A := by rw [← hY]; rfl
  have y6 : Y.env = compEnvC scope (clFrom X.env.cells scope.names []) s3.heap.objs.size X.env := by rw [← hY]; rfl
  have y7 : Y.xe = fun _ _ => False := by rw [← hY]; rfl
  have hloc : Y.env.locals = s3.heap.objs.size := by rw [y6]; rfl
  have stat : ∀ {H' : Hp}, (∀ b ∈ fp, H' b = none) → ∀ b ∈ fp, FpOk Y [] H' b := fun hn b hb => by
    refine ⟨hn b hb, by rw [hloc]; exact Nat.ne_of_lt (hx b hb), ?_, ?_, ?_, ?_⟩
    · rw [← hY]
      intro z
      rcases List.mem_cons.mp (I.stkSub b z) with q | q
      · exact (hf b hb).2.1 q
      · exact (hf b hb).2.2.1 q
    · rw [← hY]; exact .inl hb
    · rw [y6]
      intro x c e
      exact (hf b hb).2.2.2.2.1 x c (clFrom_sub scope.names [] (fun y d q => by simp at q) e)
    · rw [← hY]
      intro p hp
      have hp : p ∈ (X.pn ++ pins) ++ [] := hp
      rw [List.append_nil] at hp
      exact (hf b hb).2.2.2.2.2 p hp
  obtain ⟨W, ⟨m0, w0⟩, turn⟩ := h s.heap.objs.size hfree
  -- the loop
  have loop : codeAny (model X.prog X.w) X.A (.compLoop (.ListComp elt [⟨tg, iter, ifs, 0⟩] scope pos) 0 (.ref it) (.ref s.heap.objs.size) (compEnvC scope (clFrom X.env.cells scope.names []) s3.heap.objs.size X.env)) (RR (.ref s.heap.objs.size) s3.heap.objs.size) { s3 with heap := h₁, toks := s.toks } := by
    refine comp_loop (fun n s' => ∃ i H', Inv Y [] (σC own ix σ) H' s' ∧ tn i s'.heap ∧ (∀ b ∈ fp, H' b = none) ∧ W i n H') ?_ m0 ⟨0, _, J0, st3, fun b hb => (hf3 b hb).1, w0⟩
    rintro n s4 ⟨i, H4, I4, st4, fr4, w4⟩
    rcases turn i n H4 w4 with ⟨stop, qn⟩ | ⟨go, step⟩
    · have e0 := T.done Y y1 y2 y3 y4 i [] s4 _ H4 (fun _ _ => False) I4 (stat fr4) st4 stop
      rw [y5] at e0
      refine thn e0 fun r s5 ⟨hr, I5⟩ => ?_
      subst hr
      have ns5 : ∃ m, s5.heap.Ns s3.heap.objs.size m := by
        obtain ⟨m, hm, _⟩ := I5.loc
        rw [hloc] at hm
        exact ⟨m, hm⟩
      exact hR s.heap.objs.size s3.heap.objs.size s3 _ H4 fp s5 rfl eo I3 hf3 (by rw [hY]; exact I5) qn ns5
    · have e0 := T.item Y y1 y2 y3 y4 i [] s4 _ H4 (fun _ _ => False) I4 (stat fr4) st4 go
      rw [y5] at e0
      refine thn e0 fun r s5 ⟨u, hr, h5⟩ => ?_
      subst hr
      refine thn h5 fun _ s6 ⟨x, H6, I6, r6, y6', st6, fr6⟩ => ?_
      have I6' := I6.pinned (stat fr6) (T.obj _ _ st6)
      have e1 := hgY _ s6 _ H6 x u _ I6' r6 (step x H6 y6')
      rw [y7, y6, y5, y2, y1] at e1
      refine thn e1 fun _ s7 ⟨σ7, H7, I7, le7, q7⟩ => ?_
      have e2 := htY _ s7 σ7 H7 _ I7 q7
      rw [y7, y6, y5, y2, y1] at e2
      refine thn e2 fun b s8 ⟨H8, I8, q8⟩ => ?_
      have again : ∀ {m' : Nat} {H9 : Hp} {s9 : Shared}, Inv Y (([] : List (Addr × Obj)) ++ pinsAt fp s6.heap) σ7 H9 s9 → m' < n → W (i + 1) m' H9 → ∃ m, m < n ∧ ∃ i H', Inv Y [] (σC own ix σ) H' s9 ∧ tn i s9.heap ∧ (∀ b ∈ fp, H' b = none) ∧ W i m H' := fun {m' H9 s9} I9 hm w9 => by
        refine ⟨m', hm, i + 1, H9, (I9.less le7).unpinned, T.keep _ _ _ st6 fun b hb o e => (I9.pin (b, o) (List.mem_append_right _ (List.mem_append_right _ (mem_pinsAt hb e)))).1, fun b hb => ?_, w9⟩
        obtain ⟨o, e, d⟩ := T.obj _ _ st6 b hb
        exact (I9.pin (b, o) (List.mem_append_right _ (List.mem_append_right _ (mem_pinsAt hb e)))).2.1
      cases b with
      | false =>
        rw [if_neg (by simp)] at q8 ⊢
        obtain ⟨m', hm, w9⟩ := q8
        exact again I8 hm w9
      | true =>
        rw [if_pos rfl] at q8 ⊢
        have e3 := heY _ s8 σ7 H8 _ I8 q8
        rw [y7, y6, y5, y2, y1] at e3
        refine thn e3 fun v s9 ⟨y, H9, I9, r9, ys, ha, hz, m', hm, w9⟩ => ?_
        have e4 := mt_append (X := Y) _ s9 σ7 H9 (.ref s.heap.objs.size) [y] (.ref s.heap.objs.size) [v] (fun v' H' => v' = .non ∧ H' = upd H9 s.heap.objs.size (.lst (ys ++ [y]))) I9 rfl (.cons r9 .nil) ⟨_, ys, y, rfl, rfl, ha, hz, rfl, rfl⟩
        rw [y7, y5, y2, y1] at e4
        refine thn e4 fun v' s10 ⟨v'', H10, I10, r10, _, eH⟩ => ?_
        subst eH
        exact again I10 hm w9
  rw [es]
  exact codeAny_compStart_list loop (T.self X.A 0 _ _ _ st3 loop)

theorem ps_setc {i : Nat} {x : Str} {px spos : Pos} (hnd : X.N.Nodup) (hi' : X.N[i]? = some x) (hl : X.env.scope.names.lookup x = some .local) (hc : X.calm = true) (ho : X.env.scope = osc) (hN : X.N = N) (hk : compOk osc N own fr ix scope = true) (hi : PI X tg iter wi)
    (hg : InC X own fr scope fun Y => PG Y tg g) (ht : InC X own fr scope fun Y => PCs Y ifs tt) (he : InC X own fr scope fun Y => PE Y elt te) (hs : ∀ x, foldedSetIterable iter X.env x = pure x := by intro _; rfl)
    (hsw : swapsWith (.ListComp elt [⟨tg, iter, ifs, 0⟩] scope pos) (some (.Name x px)) spos.line X.env = pure true := by rfl) :
    PS X (.Assign [.Name x px] (.ListComp elt [⟨tg, iter, ifs, 0⟩] scope pos) spos) (tSetC own ix i wi g tt te) := by
  subst ho hN
  have S := compOk.of hk
  intro pins s σ H D I h
  rw [exec_Assign_Name_used _ _ _ _ hsw]
  refine wpAny_bind (wpAny_standAt (wpAny_bind ?_))
  show wpAny _ X.A (do let _ ← comprehension (.ListComp elt [⟨tg, iter, ifs, 0⟩] scope pos) scope X.env _ (newList []) false (eval iter X.env) (some (assign (.Name x px) X.env))) _ _ s
  have hclos : closureFor scope X.env = pure (clFrom X.env.cells scope.names []) := closure_eq fun x hx e => I.cellAt (S.free x hx e)
  refine wpAny_bind (wpAny_mono (wpAny_comprehension_free (use := some (assign (.Name x px) X.env)) (Q := fun _ s' => SP X pins D .next s') rfl hs hclos S.kind S.loc (thn (hi pins s σ H _ I h) fun v s1 h1 => thn h1 fun itv s2 h2 => ?_)) (fun _ s' hq => wpAny_pure (wpAny_pure hq)) fun _ _ e => e)
  obtain ⟨it, fp, tn, J, H2, e, I2, T, st2, f2, q⟩ := h2
  subst e
  refine comp_block (Qf := fun acc H' => D.nx (σ.set i (some (.ref acc))) H') (RR := fun acc C => compPost (model X.prog X.w) X.A X.xe (some (assign (.Name x px) X.env)) (fun _ s' => SP X pins D .next s') acc C) S hc hg ht he I2 T st2 f2 q ?_
  intro acc C s3 H3 H' fp' s' eC _ I3 hf3 J' q' ⟨m, hm⟩
  subst eC
  have I' := comp_back I3 J' hf3
  have f := I3.fpOk (H' := H') (Nat.le_refl _) J'.free
  obtain ⟨oC, es, ep, hoC, hdC, r⟩ := id hm
  have IP : Inv X (pins ++ [(s3.heap.objs.size, oC)]) σ H' s' := I'.pins_of fun p hp => by
    rcases List.mem_append.mp hp with z | z
    · exact I'.pin p (List.mem_append_right _ z)
    · have e : p = (s3.heap.objs.size, oC) := by simpa using z
      subst e
      exact ⟨hoC, f.1, f.2.1, f.2.2.1, fun v z => by have z : oC.data = .cell v := z; rw [hdC] at z; cases z⟩
  show wpAny _ X.A (assign (.Name x px) X.env (.ref acc)) _ _ _
  refine wpAny_assign_Name (store_ok IP hnd hi' (.inl hl) (v := .ref acc) rfl (fun s'' I'' => ?_) (.inr hl))
  have kC := (I''.pin (s3.heap.objs.size, oC) (List.mem_append_right _ (List.mem_append_right _ (by simp)))).1
  refine ⟨m, ⟨oC, es, ep, kC, hdC, r⟩, fun h' hs' => ?_⟩
  have I5 : Inv X pins (σ.set i (some (.ref acc))) H' s'' := I''.unpinned
  exact ⟨_, H', I5.turned (t' := s''.toks) (it := s3.heap.objs.size) (fun b o hb e => hs'.extBut b o hb e) f.1 f.2.1 f.2.2.2.1 f.2.2.2.2.1 f.2.2.2.2.2, q'⟩
/-- the target of a block: one of its own names -/
theorem pg_cn (i : Nat) {x : Str} {p : Pos} {C : Addr} {s : Shared} {H : Hp} {pins : List (Addr × Obj)} {fp : List Addr} (hnd : (own ++ fr).Nodup) (hi : (own ++ fr)[i]? = some x) (hx : x ∈ own) (hl : scope.names.lookup x = some .local) : PG (cxComp X own fr scope C s H pins fp) (.Name x p) (gName i) :=
  pg_name (X := cxComp X own fr scope C s H pins fp) hnd hi (.inl (lookup_relabel_local hl)) (.inl (decide_eq_true hx))
end
end L2

set_option Elab.async false
set_option linter.all false
set_option maxRecDepth 100000
set_option maxHeartbeats 1000000
namespace L2
open PySem PySem.Spec PyProof.Rows
section
variable {K : PySem.W.Frag} {a acc : Addr} {xs : List V} {σ0 : St} {g : TG} {tt : TT} {te : TE} {Q : Hp → Prop} {H H0 : Hp}
end
theorem atI_get' {α : Type} {l : List α} {i : Int} (h0 : 0 ≤ i) : atI l i = l[i.toNat]? := by
  unfold atI ixN
  rw [if_pos h0]
  by_cases h : i < l.length
  · rw [if_pos h]; rfl
  · rw [if_neg h]
    have : l.length ≤ i.toNat := by omega
    simp [List.getElem?_eq_none this]
theorem atI_0 {α : Type} {a : α} {l : List α} : atI (a :: l) 0 = some a := by rw [atI_get' (by decide)]; rfl
theorem atI_1 {α : Type} {a b : α} {l : List α} : atI (a :: b :: l) 1 = some b := by rw [atI_get' (by decide)]; rfl
theorem atI_2 {α : Type} {a b c : α} {l : List α} : atI (a :: b :: c :: l) 2 = some c := by rw [atI_get' (by decide)]; rfl
theorem atI_3 {α : Type} {a b c d : α} {l : List α} : atI (a :: b :: c :: d :: l) 3 = some d := by rw [atI_get' (by decide)]; rfl
theorem seqAt_lst {H : Hp} {a : Addr} {xs : List V} (h : H a = some (.lst xs)) : seqAt H a = some xs := by unfold seqAt; rw [h]
theorem seqAt_tup {H : Hp} {a : Addr} {xs : List V} (h : H a = some (.tup xs)) : seqAt H a = some xs := by unfold seqAt; rw [h]
end L2

set_option Elab.async false
set_option linter.all false
set_option maxRecDepth 100000
set_option maxHeartbeats 1000000
namespace L2
open PySem PySem.Spec PyProof.Rows
/-! ## F: == and != of nested lists and tuples -/
def allF (f : V → V → Option Bool) : List V → List V → Option Bool
  | x :: xs, y :: ys => match f x y, allF f xs ys with
    | some a, some b => some (a && b)
    | _, _ => none
  | _, _ => some true
def eAt (f : V → V → Option Bool) (xs ys : List V) (j : Nat) : Bool := match xs[j]?, ys[j]? with
  | some x, some y => (f x y).getD false
  | _, _ => true
theorem allF_spec {f : V → V → Option Bool} : ∀ {xs ys : List V} {b : Bool}, allF f xs ys = some b →
    (∀ (j : Nat) x y, xs[j]? = some x → ys[j]? = some y → f x y = some (eAt f xs ys j)) ∧ b = (List.range (min xs.length ys.length)).all (eAt f xs ys)
  | [], ys, b, h => by
    cases h
    exact ⟨fun j x y e _ => by simp at e, by simp⟩
  | x :: xs, [], b, h => by
    cases h
    exact ⟨fun j x y _ e => by simp at e, by simp⟩
  | x :: xs, y :: ys, b, h => by
    unfold allF at h
    cases e1 : f x y with
    | none => rw [e1] at h; cases h
    | some a =>
      cases e2 : allF f xs ys with
      | none => rw [e1, e2] at h; cases h
      | some c =>
        rw [e1, e2] at h
        cases h
        obtain ⟨h1, h2⟩ := allF_spec e2
        refine ⟨fun j x' y' ex ey => ?_, ?_⟩
        · cases j with
          | zero =>
            simp at ex ey
            subst ex ey
            simp [eAt, e1]
          | succ j =>
            have := h1 j x' y' (by simpa using ex) (by simpa using ey)
            rw [this]
            simp [eAt]
        · have em : min (x :: xs).length (y :: ys).length = min xs.length ys.length + 1 := by simp
          rw [em, List.range_succ_eq_map, List.all_cons, List.all_map, h2]
          have e0 : eAt f (x :: xs) (y :: ys) 0 = a := by simp [eAt, e1]
          have e3 : (eAt f (x :: xs) (y :: ys) ∘ Nat.succ) = eAt f xs ys := by
            funext j
            simp [eAt]
          rw [e0, e3]
def eqF (H : Hp) : Nat → V → V → Option Bool
  | 0, x, y => if (flatV x && flatV y) = true then some (eqV x y) else none
  | n + 1, x, y => if (flatV x && flatV y) = true then some (eqV x y) else match x, y with
    | .ref a, .ref b => (match lstAt H a, lstAt H b with
      | some xs, some ys => if xs.length = ys.length then allF (eqF H n) xs ys else some false
      | none, none => (match tupAt H a, tupAt H b with
        | some xs, some ys => (allF (eqF H n) xs ys).map (· && decide (xs.length = ys.length))
        | _, _ => none)
      | some _, none => if (tupAt H b).isSome = true then some false else none
      | none, some _ => if (tupAt H a).isSome = true then some false else none)
    | .ref a, y => if ((seqAt H a).isSome && flatV y) = true then some false else none
    | x, .ref b => if ((seqAt H b).isSome && flatV x) = true then some false else none
    | _, _ => none
theorem eqV_self {x : V} (h : flatV x = true) : eqV x x = true := by
  cases x <;> first | rfl | (simp [eqV]; done) | (simp [flatV] at h)
theorem allF_self {f : V → V → Option Bool} (hf : ∀ x b, f x x = some b → b = true) : ∀ {xs : List V} {b : Bool}, allF f xs xs = some b → b = true
  | [], b, h => by cases h; rfl
  | x :: xs, b, h => by
    unfold allF at h
    cases e1 : f x x with
    | none => rw [e1] at h; cases h
    | some a =>
      cases e2 : allF f xs xs with
      | none => rw [e1, e2] at h; cases h
      | some c =>
        rw [e1, e2] at h
        cases h
        rw [hf x a e1, allF_self hf e2]
        rfl
theorem eqF_self {H : Hp} : ∀ {n : Nat} {x : V} {b : Bool}, eqF H n x x = some b → b = true
  | 0, x, b, h => by
    unfold eqF at h
    split at h
    · rename_i hf
      cases h
      rw [Bool.and_self] at hf
      exact eqV_self hf
    · cases h
  | n + 1, x, b, h => by
    unfold eqF at h
    split at h
    · rename_i hf
      cases h
      rw [Bool.and_self] at hf
      exact eqV_self hf
    · rename_i hf
      cases x with
      | ref a =>
        simp only at h
        cases e1 : lstAt H a with
        | some xs =>
          rw [e1] at h
          simp only [if_true] at h
          exact allF_self (fun x b h => eqF_self h) h
        | none =>
          rw [e1] at h
          simp only at h
          cases e2 : tupAt H a with
          | some xs =>
            rw [e2] at h
            simp only [decide_true, Bool.and_true] at h
            cases e3 : allF (eqF H n) xs xs with
            | none => rw [e3] at h; cases h
            | some c =>
              rw [e3] at h
              cases h
              exact allF_self (fun x b h => eqF_self h) e3
          | none =>
            rw [e2] at h
            cases h
      | _ => first | (simp [flatV] at hf; done) | (simp only at h; cases h)
theorem rcAt_V {A : Around} {s : Shared} {y x : V} {u v : Value} (ry : RelV y u) (rx : RelV x v) (fy : flatV y = true) (fx : flatV x = true) : SeqAt.RcAt A s u v (eqV y x) := by
  cases y with
  | non =>
    cases ry
    cases x with
    | non => cases rx; exact SeqAt.RcAt.none_none
    | bl b => cases rx; exact SeqAt.RcAt.none_bool b
    | int b => obtain ⟨t, rfl⟩ := rx; exact SeqAt.RcAt.none_int b t
    | str b => obtain ⟨t, rfl⟩ := rx; exact SeqAt.RcAt.none_str b t
    | _ => exact absurd (show false = true from fx) Bool.false_ne_true
  | bl a =>
    cases ry
    cases x with
    | non => cases rx; exact SeqAt.RcAt.bool_none a
    | bl b => cases rx; exact SeqAt.RcAt.bool_bool a b
    | int b => obtain ⟨t, rfl⟩ := rx; exact SeqAt.RcAt.bool_int a b t
    | str b => obtain ⟨t, rfl⟩ := rx; exact SeqAt.RcAt.bool_str a b t
    | _ => exact absurd (show false = true from fx) Bool.false_ne_true
  | int a =>
    obtain ⟨t', rfl⟩ := ry
    cases x with
    | non => cases rx; exact SeqAt.RcAt.int_none a t'
    | bl b => cases rx; exact SeqAt.RcAt.int_bool a t' b
    | int b => obtain ⟨t, rfl⟩ := rx; exact SeqAt.RcAt.int_int a t' b t
    | str b => obtain ⟨t, rfl⟩ := rx; exact SeqAt.RcAt.int_str a t' b t
    | _ => exact absurd (show false = true from fx) Bool.false_ne_true
  | str a =>
    obtain ⟨t', rfl⟩ := ry
    cases x with
    | non => cases rx; exact SeqAt.RcAt.str_none a t'
    | bl b => cases rx; exact SeqAt.RcAt.str_bool a t' b
    | int b => obtain ⟨t, rfl⟩ := rx; exact SeqAt.RcAt.str_int a t' b t
    | str b => obtain ⟨t, rfl⟩ := rx; exact SeqAt.RcAt.str_str a t' b t
    | _ => exact absurd (show false = true from fx) Bool.false_ne_true
  | _ => exact absurd (show false = true from fy) Bool.false_ne_true
theorem rnAt_V {A : Around} {s : Shared} {y x : V} {u v : Value} (ry : RelV y u) (rx : RelV x v) (fy : flatV y = true) (fx : flatV x = true) : SeqAt.RcNeAt A s u v (!eqV y x) := by
  cases y with
  | non =>
    cases ry
    cases x with
    | non => cases rx; exact SeqAt.RcNeAt.none_none
    | bl b => cases rx; exact SeqAt.RcNeAt.none_bool b
    | int b => obtain ⟨t, rfl⟩ := rx; exact SeqAt.RcNeAt.none_int b t
    | str b => obtain ⟨t, rfl⟩ := rx; exact SeqAt.RcNeAt.none_str b t
    | _ => exact absurd (show false = true from fx) Bool.false_ne_true
  | bl a =>
    cases ry
    cases x with
    | non => cases rx; exact SeqAt.RcNeAt.bool_none a
    | bl b => cases rx; exact SeqAt.RcNeAt.bool_bool a b
    | int b => obtain ⟨t, rfl⟩ := rx; exact SeqAt.RcNeAt.bool_int a b t
    | str b => obtain ⟨t, rfl⟩ := rx; exact SeqAt.RcNeAt.bool_str a b t
    | _ => exact absurd (show false = true from fx) Bool.false_ne_true
  | int a =>
    obtain ⟨t', rfl⟩ := ry
    cases x with
    | non => cases rx; exact SeqAt.RcNeAt.int_none a t'
    | bl b => cases rx; exact SeqAt.RcNeAt.int_bool a t' b
    | int b => obtain ⟨t, rfl⟩ := rx; exact SeqAt.RcNeAt.int_int a t' b t
    | str b => obtain ⟨t, rfl⟩ := rx; exact SeqAt.RcNeAt.int_str a t' b t
    | _ => exact absurd (show false = true from fx) Bool.false_ne_true
  | str a =>
    obtain ⟨t', rfl⟩ := ry
    cases x with
    | non => cases rx; exact SeqAt.RcNeAt.str_none a t'
    | bl b => cases rx; exact SeqAt.RcNeAt.str_bool a t' b
    | int b => obtain ⟨t, rfl⟩ := rx; exact SeqAt.RcNeAt.str_int a t' b t
    | str b => obtain ⟨t, rfl⟩ := rx; exact SeqAt.RcNeAt.str_str a t' b t
    | _ => exact absurd (show false = true from fx) Bool.false_ne_true
  | _ => exact absurd (show false = true from fy) Bool.false_ne_true

structure EqOk (A : Around) (s : Shared) (u v : Value) (b : Bool) : Prop where
  rc : SeqAt.RcAt A s u v b
  rn : SeqAt.RcNeAt A s u v (!b)
  eq : SeqAt.EqAt A s u v b
theorem EqOk.flat {A : Around} {s : Shared} {y x : V} {u v : Value} (ry : RelV y u) (rx : RelV x v) (fy : flatV y = true) (fx : flatV x = true) : EqOk A s u v (eqV y x) := ⟨rcAt_V ry rx fy fx, rnAt_V ry rx fy fx, eqAt_V ry rx fy fx⟩
theorem EqOk.list_flat {A : Around} {s : Shared} {l : Addr} {items : Array Value} {x : V} {v : Value} (hl : s.heap.IsList l items) (hu : A.units < cLine) (rx : RelV x v) (fx : flatV x = true) : EqOk A s (.ref l) v false := by
  cases x with
  | non => cases rx; exact ⟨SeqAt.RcAt.list_none hl hu, SeqAt.RcNeAt.list_none hl hu, SeqAt.EqAt.list_none hl hu⟩
  | bl b => cases rx; exact ⟨SeqAt.RcAt.list_bool b hl hu, SeqAt.RcNeAt.list_bool b hl hu, SeqAt.EqAt.list_bool b hl hu⟩
  | int b => obtain ⟨t, rfl⟩ := rx; exact ⟨SeqAt.RcAt.list_int b t hl hu, SeqAt.RcNeAt.list_int b t hl hu, SeqAt.EqAt.list_int b t hl hu⟩
  | str b => obtain ⟨t, rfl⟩ := rx; exact ⟨SeqAt.RcAt.list_str b t hl hu, SeqAt.RcNeAt.list_str b t hl hu, SeqAt.EqAt.list_str b t hl hu⟩
  | _ => exact absurd (show false = true from fx) Bool.false_ne_true
theorem EqOk.flat_list {A : Around} {s : Shared} {l : Addr} {items : Array Value} {x : V} {v : Value} (hl : s.heap.IsList l items) (hu : A.units < cLine) (rx : RelV x v) (fx : flatV x = true) : EqOk A s v (.ref l) false := by
  cases x with
  | non => cases rx; exact ⟨SeqAt.RcAt.none_list hl hu, SeqAt.RcNeAt.none_list hl hu, SeqAt.EqAt.none_list hl hu⟩
  | bl b => cases rx; exact ⟨SeqAt.RcAt.bool_list b hl hu, SeqAt.RcNeAt.bool_list b hl hu, SeqAt.EqAt.bool_list b hl hu⟩
  | int b => obtain ⟨t, rfl⟩ := rx; exact ⟨SeqAt.RcAt.int_list b t hl hu, SeqAt.RcNeAt.int_list b t hl hu, SeqAt.EqAt.int_list b t hl hu⟩
  | str b => obtain ⟨t, rfl⟩ := rx; exact ⟨SeqAt.RcAt.str_list b t hl hu, SeqAt.RcNeAt.str_list b t hl hu, SeqAt.EqAt.str_list b t hl hu⟩
  | _ => exact absurd (show false = true from fx) Bool.false_ne_true
theorem EqOk.tuple_flat {A : Around} {s : Shared} {l : Addr} {items : Array Value} {x : V} {v : Value} (hl : s.heap.IsTuple l items) (hu : A.units < cLine) (rx : RelV x v) (fx : flatV x = true) : EqOk A s (.ref l) v false := by
  cases x with
  | non => cases rx; exact ⟨SeqAt.RcAt.tuple_none hl hu, SeqAt.RcNeAt.tuple_none hl hu, SeqAt.EqAt.tuple_none hl hu⟩
  | bl b => cases rx; exact ⟨SeqAt.RcAt.tuple_bool b hl hu, SeqAt.RcNeAt.tuple_bool b hl hu, SeqAt.EqAt.tuple_bool b hl hu⟩
  | int b => obtain ⟨t, rfl⟩ := rx; exact ⟨SeqAt.RcAt.tuple_int b t hl hu, SeqAt.RcNeAt.tuple_int b t hl hu, SeqAt.EqAt.tuple_int b t hl hu⟩
  | str b => obtain ⟨t, rfl⟩ := rx; exact ⟨SeqAt.RcAt.tuple_str b t hl hu, SeqAt.RcNeAt.tuple_str b t hl hu, SeqAt.EqAt.tuple_str b t hl hu⟩
  | _ => exact absurd (show false = true from fx) Bool.false_ne_true
theorem EqOk.flat_tuple {A : Around} {s : Shared} {l : Addr} {items : Array Value} {x : V} {v : Value} (hl : s.heap.IsTuple l items) (hu : A.units < cLine) (rx : RelV x v) (fx : flatV x = true) : EqOk A s v (.ref l) false := by
  cases x with
  | non => cases rx; exact ⟨SeqAt.RcAt.none_tuple hl hu, SeqAt.RcNeAt.none_tuple hl hu, SeqAt.EqAt.none_tuple hl hu⟩
  | bl b => cases rx; exact ⟨SeqAt.RcAt.bool_tuple b hl hu, SeqAt.RcNeAt.bool_tuple b hl hu, SeqAt.EqAt.bool_tuple b hl hu⟩
  | int b => obtain ⟨t, rfl⟩ := rx; exact ⟨SeqAt.RcAt.int_tuple b t hl hu, SeqAt.RcNeAt.int_tuple b t hl hu, SeqAt.EqAt.int_tuple b t hl hu⟩
  | str b => obtain ⟨t, rfl⟩ := rx; exact ⟨SeqAt.RcAt.str_tuple b t hl hu, SeqAt.RcNeAt.str_tuple b t hl hu, SeqAt.EqAt.str_tuple b t hl hu⟩
  | _ => exact absurd (show false = true from fx) Bool.false_ne_true

theorem IsTup.isTuple {h : Heap} {a : Addr} {items : Array Value} (x : IsTup h a items) : h.IsTuple a items := let ⟨o, ho, hc, n, hd⟩ := x; ⟨o, ho, hc, n, hd⟩
section
variable {X : Cx} {pins : List (Addr × Obj)} {σ : St} {H : Hp} {s : Shared}
theorem Vals.at {xs : List V} {us : List Value} (r : Vals xs us) {j : Nat} (h : j < us.toArray.size) : ∃ x, xs[j]? = some x ∧ RelV x us.toArray[j] := by
  have hl := r.length
  have hj : j < us.length := by simpa using h
  have hx : j < xs.length := by omega
  obtain ⟨u, e, q⟩ := r.get (i := j) (x := xs[j]) (by simp [hx])
  refine ⟨xs[j], by simp [hx], ?_⟩
  have : us.toArray[j] = u := by
    rw [List.getElem_toArray]
    rw [List.getElem?_eq_getElem hj] at e
    exact Option.some.inj e
  rw [this]
  exact q
theorem eqF_ok (I : Inv X pins σ H s) : ∀ (n : Nat) (A : Around) {x y : V} {u v : Value} {b : Bool}, A.units + n < cLine → eqF H n x y = some b → RelV x u → RelV y v → EqOk A s u v b
  | 0, A, x, y, u, v, b, hu, h, rx, ry => by
    unfold eqF at h
    split at h
    · rename_i hf
      cases h
      rw [Bool.and_eq_true] at hf
      exact .flat rx ry hf.1 hf.2
    · cases h
  | n + 1, A, x, y, u, v, b, hu, h, rx, ry => by
    have ih := fun {x y u v b} => eqF_ok I n A.in1 (x := x) (y := y) (u := u) (v := v) (b := b) (by show A.units + 1 + n < cLine; omega)
    have hu0 : A.units < cLine := by omega
    have h0 := h
    unfold eqF at h
    split at h
    · rename_i hf
      cases h
      rw [Bool.and_eq_true] at hf
      exact .flat rx ry hf.1 hf.2
    · split at h
      · rename_i p q _
        cases rx
        cases ry
        have fin : SeqAt.RcAt A s (.ref p) (.ref q) b → SeqAt.RcNeAt A s (.ref p) (.ref q) (!b) → EqOk A s (.ref p) (.ref q) b := fun h1 h2 => by
          refine ⟨h1, h2, ?_⟩
          by_cases e : p = q
          · subst e
            rw [eqF_self h0]
            exact SeqAt.EqAt.same _
          · exact SeqAt.EqAt.of_refs e h1
        split at h
        · rename_i xs ys e1 e2
          obtain ⟨its, r1, p1, z1⟩ := I.list (lstAt_sq (K := X.K) e1)
          obtain ⟨its2, r2, p2, z2⟩ := I.list (lstAt_sq (K := X.K) e2)
          have l1 := r1.length
          have l2 := r2.length
          split at h
          · rename_i el
            obtain ⟨s1, s2⟩ := allF_spec h
            have hsz : its.toArray.size = its2.toArray.size := by simp; omega
            have hm : min xs.length ys.length = its.toArray.size := by simp; omega
            have he : ∀ j (h1 : j < its.toArray.size) (h2 : j < its2.toArray.size), SeqAt.EqAt A.in1 s its.toArray[j] its2.toArray[j] (eAt (eqF H n) xs ys j) := fun j h1 h2 => by
              obtain ⟨x', ex, qx⟩ := r1.at h1
              obtain ⟨y', ey, qy⟩ := r2.at h2
              exact (ih (s1 j x' y' ex ey) qx qy).eq
            rw [hm] at s2
            subst s2
            exact fin (SeqAt.RcAt.lists p1.isList p2.isList hsz hu0 he) (SeqAt.RcNeAt.lists p1.isList p2.isList hsz hu0 he)
          · rename_i el
            cases h
            have hsz : (its.toArray.size != its2.toArray.size) = true := by
              simp only [List.size_toArray, bne_iff_ne, ne_eq]; omega
            exact fin (SeqAt.RcAt.lists_lengths p1.isList p2.isList hsz hu0) (SeqAt.RcNeAt.lists_lengths p1.isList p2.isList hsz hu0)
        · rename_i e1 e2
          split at h
          · rename_i xs ys e3 e4
            obtain ⟨its, r1, p1, z1⟩ := I.tuple (tupAt_sq (K := X.K) e3)
            obtain ⟨its2, r2, p2, z2⟩ := I.tuple (tupAt_sq (K := X.K) e4)
            have l1 := r1.length
            have l2 := r2.length
            cases ea : allF (eqF H n) xs ys with
            | none => rw [ea] at h; cases h
            | some c =>
              rw [ea] at h
              cases h
              obtain ⟨s1, s2⟩ := allF_spec ea
              have hm : min xs.length ys.length = min its.toArray.size its2.toArray.size := by simp; omega
              have hd : decide (xs.length = ys.length) = (its.toArray.size == its2.toArray.size) := by
                rw [Bool.eq_iff_iff]; simp; omega
              have he : ∀ j (h1 : j < its.toArray.size) (h2 : j < its2.toArray.size), SeqAt.EqAt A.in1 s its.toArray[j] its2.toArray[j] (eAt (eqF H n) xs ys j) := fun j h1 h2 => by
                obtain ⟨x', ex, qx⟩ := r1.at h1
                obtain ⟨y', ey, qy⟩ := r2.at h2
                exact (ih (s1 j x' y' ex ey) qx qy).eq
              rw [hm] at s2
              rw [s2, hd] at fin ⊢
              exact fin (SeqAt.RcAt.tuples (IsTup.isTuple p1) (IsTup.isTuple p2) hu0 he) (SeqAt.RcNeAt.tuples (IsTup.isTuple p1) (IsTup.isTuple p2) hu0 he)
          · cases h
        · rename_i xs e1 e2
          split at h
          · rename_i e3
            cases h
            obtain ⟨ys, e4⟩ := Option.isSome_iff_exists.mp e3
            obtain ⟨its, r1, p1, z1⟩ := I.list (lstAt_sq (K := X.K) e1)
            obtain ⟨its2, r2, p2, z2⟩ := I.tuple (tupAt_sq (K := X.K) e4)
            exact fin (SeqAt.RcAt.list_tuple p1.isList (IsTup.isTuple p2) hu0) (SeqAt.RcNeAt.list_tuple p1.isList (IsTup.isTuple p2) hu0)
          · cases h
        · rename_i ys e1 e2
          split at h
          · rename_i e3
            cases h
            obtain ⟨xs, e4⟩ := Option.isSome_iff_exists.mp e3
            obtain ⟨its, r1, p1, z1⟩ := I.tuple (tupAt_sq (K := X.K) e4)
            obtain ⟨its2, r2, p2, z2⟩ := I.list (lstAt_sq (K := X.K) e2)
            exact fin (SeqAt.RcAt.tuple_list (IsTup.isTuple p1) p2.isList hu0) (SeqAt.RcNeAt.tuple_list (IsTup.isTuple p1) p2.isList hu0)
          · cases h
      · rename_i p _ _
        cases rx
        split at h
        · rename_i e1
          cases h
          rw [Bool.and_eq_true] at e1
          obtain ⟨xs, e2⟩ := Option.isSome_iff_exists.mp e1.1
          rcases seqAt_or e2 with e3 | e3
          · obtain ⟨its, r1, p1, z1⟩ := I.list (lstAt_sq (K := X.K) e3)
            exact .list_flat p1.isList hu0 ry e1.2
          · obtain ⟨its, r1, p1, z1⟩ := I.tuple (tupAt_sq (K := X.K) e3)
            exact .tuple_flat (IsTup.isTuple p1) hu0 ry e1.2
        · cases h
      · rename_i p _ _
        cases ry
        split at h
        · rename_i e1
          cases h
          rw [Bool.and_eq_true] at e1
          obtain ⟨xs, e2⟩ := Option.isSome_iff_exists.mp e1.1
          rcases seqAt_or e2 with e3 | e3
          · obtain ⟨its, r1, p1, z1⟩ := I.list (lstAt_sq (K := X.K) e3)
            exact .flat_list p1.isList hu0 rx e1.2
          · obtain ⟨its, r1, p1, z1⟩ := I.tuple (tupAt_sq (K := X.K) e3)
            exact .flat_tuple (IsTup.isTuple p1) hu0 rx e1.2
        · cases h
      · cases h
/-- == and != : the answer is reckoned over the heap (four levels deep) -/
def rEqF : R2 := fun x y H Q => need (eqF H 4 x y) fun b => Q (.bl b) H
def rNeF : R2 := fun x y H Q => need (eqF H 4 x y) fun b => Q (.bl (!b)) H
theorem op_eqF {k : Nat} (hr : Room k X.A) : OpR X (compareOp .Eq) rEqF := by
  intro pins s σ H x y v u Q I rx ry h
  obtain ⟨b, e, q⟩ := need_ex h
  refine PySem.W.cmp_ofEq ((eqF_ok I 4 X.A ?_ e rx ry).rc _ _ _ _ ⟨.bl b, H, I, rfl, q⟩)
  have := hr.un
  omega
theorem op_neF {k : Nat} (hr : Room k X.A) : OpR X (compareOp .NotEq) rNeF := by
  intro pins s σ H x y v u Q I rx ry h
  obtain ⟨b, e, q⟩ := need_ex h
  refine PySem.W.cmp_ofNotEq ((eqF_ok I 4 X.A ?_ e rx ry).rn _ _ _ _ ⟨.bl (!b), H, I, rfl, q⟩)
  have := hr.un
  omega
end
end L2

set_option Elab.async false
set_option linter.all false
set_option maxRecDepth 100000
set_option maxHeartbeats 1000000
namespace L2
open PySem PySem.Spec PyProof.Rows
/-! ## G: texts, sums -/
section
variable {X : Cx} {o e : Expr} {to te : TE} {t : TA} {apos cpos : Pos}
/-- a text's slice -/
def slS : V → Option Int → Option Int → Hp → VK → Prop := fun x lo hi H Q => match x with
  | .str z => z.length ≤ sizeLine ∧ Q (.str (Txt.slice z lo hi)) H
  | _ => False
theorem sl_str : SlR X slS := by
  intro pins s σ H x v vl vu lo hi sl Q I rx hs pl pu h
  unfold slS at h
  split at h
  · rename_i z
    obtain ⟨hz, q⟩ := h
    obtain ⟨tk, rfl⟩ := rx
    refine ⟨"str", _, F.slot_str_getitem.lookup, typeIs_str _ _ _, ?_⟩
    have fin : ∀ (l u : Option (Int × Tok)), vl = partValue l → vu = partValue u → lo = l.map (·.1) → hi = u.map (·.1) → wpAny (model X.prog X.w) X.A (getItem (.str z tk) (.ref sl)) (EP X pins σ Q) X.xe s := fun l u e1 e2 e3 e4 => by
      subst e1 e2 e3 e4
      obtain ⟨o, ho, hc, hd⟩ := hs
      exact wpAny_getItem_str_slice (l := l) (u := u) (st := none) ⟨o, ho, hc, hd⟩ rfl
        (post_val_or_str ⟨Nat.le_trans (Txt.slice_le z _ _) hz, fun t' k => ⟨.str _, H, I.tok k, ⟨t', rfl⟩, q⟩⟩)
    cases pl with
    | none => cases pu with
      | none => exact fin none none rfl rfl rfl rfl
      | int j t => exact fin none (some (j, t)) rfl rfl rfl rfl
    | int i t' => cases pu with
      | none => exact fin (some (i, t')) none rfl rfl rfl rfl
      | int j t => exact fin (some (i, t')) (some (j, t)) rfl rfl rfl rfl
  · exact h.elim
end
end L2
namespace L2
theorem eqF_flat4 {H : Hp} {n : Nat} {x y : V} (h : (flatV x && flatV y) = true) : eqF H n x y = some (eqV x y) := by
  cases n <;> (unfold eqF; rw [if_pos h])
end L2
namespace L2
open PySem PySem.Spec PyProof.Rows
section
variable {X : Cx} {a : Expr} {ta : TE} {pos : Pos}
/-- truth -/
def truF (H : Hp) : V → (Bool → Prop) → Prop
  | .non, k => k false
  | .bl b, k => k b
  | .int i, k => k (decide (i ≠ 0))
  | .str y, k => y.length ≤ sizeLine ∧ k (decide (y.length ≠ 0))
  | .ref p, k => (match H p with
    | some (.dK kvs) => k (!kvs.isEmpty)
    | _ => need (seqAt H p) fun xs => k (!xs.isEmpty))
  | _, _ => False
def tTru (ta : TE) : TT := fun σ H Q => ta σ H fun x H' => truF H' x fun k => Q k H'
theorem truF_ok {K : PySem.W.Frag} {H : Hp} {x : V} {k : Bool → Prop} (h : truF H x k) : ∃ b, TruV K x H b ∧ k b := by
  cases x with
  | non => exact ⟨false, rfl, h⟩
  | bl b => exact ⟨b, rfl, h⟩
  | int i => exact ⟨_, by show decide (i ≠ 0) = (i != 0); rw [Bool.eq_iff_iff]; simp, h⟩
  | str y => exact ⟨_, ⟨h.1, by rw [Bool.eq_iff_iff]; simp⟩, h.2⟩
  | ref p =>
    simp only [truF] at h
    split at h
    · rename_i kvs e
      exact ⟨_, .inr (.inr ⟨kvs, e, rfl⟩), h⟩
    · obtain ⟨xs, e, h⟩ := need_ex h
      rcases seqAt_or e with e | e
      · exact ⟨_, .inl ⟨xs, lstAt_sq e, rfl⟩, h⟩
      · exact ⟨_, .inr (.inl ⟨xs, tupAt_sq e, rfl⟩), h⟩
  | _ => exact h.elim
theorem pt_tru (ha : PE X a ta) (he : ∀ whole, isTrue a X.env whole = (do let v ← whole; standAt a.pos; holding [v] (truthy v))) : PT X a (tTru ta) := by
  intro pins s σ H Q I h
  exact isTrue_plain (thn (ha pins s σ H _ I h) fun v s1 ⟨x, H1, I1, r1, q1⟩ => tru_ok pins s1 σ H1 x v Q I1 r1 (truF_ok q1)) (he _)
/-- a tuple target -/
def gTupV (n : Nat) (t : TGs) : TG := fun v σ H Q => match v with
  | .ref a => need (tupAt H a) fun xs => xs.length = n ∧ t xs σ H Q
  | _ => False
theorem pg_tupV {es : List Expr} {k : Nat} {t : TGs} {n : Nat} (hc : X.calm = true) (h : PGs X es t)
    (hn : (assignEach es X.env).length = n := by rfl) (hst : (assignEach es X.env).findIdx? (·.1) = none := by rfl) : PG X (.Tuple es k pos) (gTupV n t) := by
  intro pins s σ H v u Q I r hw
  refine pg_tup hc h hn hst pins s σ H v u Q I r ?_
  unfold gTupV at hw
  split at hw
  · obtain ⟨xs, e, hl, q⟩ := need_ex hw
    exact ⟨_, xs, rfl, tupAt_sq e, hl, q⟩
  · exact hw.elim
end
end L2
namespace L2
open PySem PySem.Spec PyProof.Rows
theorem lstAt_upd_l {H : Hp} {p : Addr} {xs : List V} : lstAt (upd H p (.lst xs)) p = some xs := lstAt_of upd_same
theorem Same.seqAt {H H' : Hp} {a : Addr} {xs : List V} (e : Same H H') (h : L2.seqAt H a = some xs) : L2.seqAt H' a = some xs := by
  rcases seqAt_or h with q | q
  · have := e.lstAt q
    rcases lstAt_rd this with z | ⟨o, z⟩ <;> (unfold L2.seqAt; rw [z])
  · exact seqAt_tup (e _ _ (tupAt_eq q))
theorem atI_4 {α : Type} {a b c d e : α} {l : List α} : atI (a :: b :: c :: d :: e :: l) 4 = some e := by rw [atI_get' (by decide)]; rfl
theorem atI_5 {α : Type} {a b c d e f : α} {l : List α} : atI (a :: b :: c :: d :: e :: f :: l) 5 = some f := by rw [atI_get' (by decide)]; rfl
theorem atI_6 {α : Type} {a b c d e f g : α} {l : List α} : atI (a :: b :: c :: d :: e :: f :: g :: l) 6 = some g := by rw [atI_get' (by decide)]; rfl
theorem atI_7 {α : Type} {a b c d e f g h : α} {l : List α} : atI (a :: b :: c :: d :: e :: f :: g :: h :: l) 7 = some h := by rw [atI_get' (by decide)]; rfl
end L2
namespace L2
open PySem PySem.Spec PyProof.Rows
theorem eqF_lists {H : Hp} {n : Nat} {a b : Addr} {xs ys : List V} (h1 : lstAt H a = some xs) (h2 : lstAt H b = some ys) : eqF H (n + 1) (.ref a) (.ref b) = if xs.length = ys.length then allF (eqF H n) xs ys else some false := by
  unfold eqF
  rw [if_neg (by simp [flatV])]
  simp only [h1, h2]
theorem eqF_tuples {H : Hp} {n : Nat} {a b : Addr} {xs ys : List V} (h1 : tupAt H a = some xs) (h2 : tupAt H b = some ys) : eqF H (n + 1) (.ref a) (.ref b) = (allF (eqF H n) xs ys).map (· && decide (xs.length = ys.length)) := by
  have l1 : lstAt H a = none := by unfold lstAt; rw [tupAt_eq h1]
  have l2 : lstAt H b = none := by unfold lstAt; rw [tupAt_eq h2]
  unfold eqF
  rw [if_neg (by simp [flatV])]
  simp only [h1, h2, l1, l2]
theorem allF_flat {H : Hp} {n : Nat} : ∀ {xs ys : List V}, (xs.all flatV = true) → (ys.all flatV = true) → allF (eqF H n) xs ys = some ((xs.zip ys).all fun p => eqV p.1 p.2)
  | [], _, _, _ => rfl
  | x :: xs, [], _, _ => rfl
  | x :: xs, y :: ys, h1, h2 => by
    simp only [List.all_cons, Bool.and_eq_true] at h1 h2
    unfold allF
    rw [eqF_flat4 (by rw [h1.1, h2.1]; rfl), allF_flat h1.2 h2.2]
    simp
theorem zip_self_all : ∀ (xs : List V), xs.all flatV = true → ((xs.zip xs).all fun p => eqV p.1 p.2) = true
  | [], _ => rfl
  | x :: xs, h => by
    simp only [List.all_cons, Bool.and_eq_true] at h
    simp only [List.zip_cons_cons, List.all_cons, Bool.and_eq_true]
    exact ⟨eqV_self h.1, zip_self_all xs h.2⟩
/-- two flat lists that are the same -/
theorem eqF_same_lists {H : Hp} {n : Nat} {a b : Addr} {xs : List V} (h1 : lstAt H a = some xs) (h2 : lstAt H b = some xs) (hf : xs.all flatV = true) : eqF H (n + 1) (.ref a) (.ref b) = some true := by
  rw [eqF_lists h1 h2, if_pos rfl, allF_flat hf hf, zip_self_all xs hf]
end L2
namespace L2
open PySem PySem.Spec PyProof.Rows
section
variable {X : Cx}
end
end L2

set_option Elab.async false
set_option linter.all false
set_option maxRecDepth 100000
set_option maxHeartbeats 1000000
namespace L2
open PySem PySem.Spec PyProof.Rows
/-! ## H: what stays; lists that are held to the end -/
/-- all that was tracked, but at S, is as it was -/
def Keep (S : List Addr) (H H' : Hp) : Prop := ∀ b o, H b = some o → b ∉ S → H' b = some o
theorem Same.keep {S : List Addr} {H H' : Hp} (h : Same H H') : Keep S H H' := fun b o e _ => h b o e
theorem Keep.trans {S : List Addr} {H H1 H2 : Hp} (a : Keep S H H1) (b : Keep S H1 H2) : Keep S H H2 := fun c o e n => b c o (a c o e n) n
theorem Keep.set {S : List Addr} {H : Hp} {p : Addr} {o : HO} (hp : p ∈ S) : Keep S H (upd H p o) := fun b u e n => by
  have : b ≠ p := fun z => n (by rw [z]; exact hp)
  rw [upd_ne this]; exact e
theorem Keep.new {S : List Addr} {H : Hp} {p : Addr} {o : HO} (hp : H p = none) : Keep S H (upd H p o) := (Same.new hp).keep
theorem Keep.same {H H' : Hp} (h : Keep [] H H') : Same H H' := fun b o e => h b o e (by simp)
theorem Keep.mono {S S' : List Addr} {H H' : Hp} (h : Keep S H H') (hs : ∀ b, b ∈ S → b ∈ S') : Keep S' H H' := fun b o e n => h b o e fun z => n (hs b z)
/-- what is new on the way may change -/
theorem Keep.fresh {S : List Addr} {p : Addr} {H H' : Hp} (h : Keep (p :: S) H H') (hp : H p = none) : Keep S H H' := fun b o e n => h b o e fun z => by
  rcases List.mem_cons.mp z with z | z
  · subst z; rw [hp] at e; cases e
  · exact n z
section
variable {X : Cx} {o e : Expr} {to : TE} {t : TA} {apos cpos : Pos}
def rAppendV : V → List V → Hp → VK → Prop := fun x vs H Q => match x, vs with
  | .ref l, [y] => (match H l with
    | some (.lst xs) => xs.length < sizeLine ∧ Q .non (upd H l (.lst (xs ++ [y])))
    | _ => False)
  | _, _ => False
theorem mt_appendV : MtM X "list.append" rAppendV := by
  intro pins s σ H x vs v us Q I rx rv h
  unfold rAppendV at h
  split at h
  · split at h
    · rename_i xs e
      exact mt_append pins s σ H _ _ v us Q I rx rv ⟨_, xs, _, rfl, rfl, e, h.1, h.2⟩
    · exact h.elim
  · exact h.elim
end
/-- two values that are equal and stay so while only h changes -/
def EqP (H : Hp) (h : Addr) (x y : V) : Prop := (flatV x = true ∧ flatV y = true ∧ eqV x y = true) ∨
  ∃ a b xs, x = .ref a ∧ y = .ref b ∧ a ≠ h ∧ b ≠ h ∧ xs.all flatV = true ∧ ((H a = some (.lst xs) ∧ H b = some (.lst xs)) ∨ (H a = some (.tup xs) ∧ H b = some (.tup xs)))
theorem EqP.keep {H H' : Hp} {h : Addr} {x y : V} (k : Keep [h] H H') (e : EqP H h x y) : EqP H' h x y := by
  rcases e with e | ⟨a, b, xs, e1, e2, na, nb, f, q⟩
  · exact .inl e
  · refine .inr ⟨a, b, xs, e1, e2, na, nb, f, ?_⟩
    rcases q with ⟨q1, q2⟩ | ⟨q1, q2⟩
    · exact .inl ⟨k _ _ q1 (by simpa using na), k _ _ q2 (by simpa using nb)⟩
    · exact .inr ⟨k _ _ q1 (by simpa using na), k _ _ q2 (by simpa using nb)⟩
theorem EqP.eq {H : Hp} {h : Addr} {x y : V} {n : Nat} (e : EqP H h x y) : eqF H (n + 1) x y = some true := by
  rcases e with ⟨f1, f2, e⟩ | ⟨a, b, xs, rfl, rfl, _, _, f, q⟩
  · rw [eqF_flat4 (by rw [f1, f2]; rfl), e]
  · rcases q with ⟨q1, q2⟩ | ⟨q1, q2⟩
    · exact eqF_same_lists (lstAt_of q1) (lstAt_of q2) f
    · rw [eqF_tuples (tupAt_of q1) (tupAt_of q2), allF_flat f f, zip_self_all xs f]; simp
/-- the list at h holds the pairs at ts, each of two equal values -/
structure Held (H : Hp) (h : Addr) (ts : List Addr) : Prop where
  lst : H h = some (.lst (ts.map V.ref))
  prs : ∀ t ∈ ts, t ≠ h ∧ ∃ x y, H t = some (.tup [x, y]) ∧ EqP H h x y
theorem Held.keep {H H' : Hp} {h : Addr} {ts : List Addr} (k : Keep [h] H H') (hl : H' h = some (.lst (ts.map V.ref))) (e : Held H h ts) : Held H' h ts :=
  ⟨hl, fun t ht => by
    obtain ⟨n, x, y, q, r⟩ := e.prs t ht
    exact ⟨n, x, y, k _ _ q (by simpa using n), r.keep k⟩⟩
theorem Held.same {H H' : Hp} {h : Addr} {ts : List Addr} (k : Same H H') (e : Held H h ts) : Held H' h ts := e.keep k.keep (k _ _ e.lst)
theorem Held.push {H : Hp} {h t : Addr} {ts : List Addr} {x y : V} (e : Held H h ts) (n : t ≠ h) (q : H t = some (.tup [x, y])) (r : EqP H h x y) : Held (upd H h (.lst (ts.map V.ref ++ [.ref t]))) h (ts ++ [t]) := by
  refine ⟨by rw [upd_same]; simp, fun u hu => ?_⟩
  have k : Keep [h] H (upd H h (.lst (ts.map V.ref ++ [.ref t]))) := Keep.set (by simp)
  rcases List.mem_append.mp hu with hu | hu
  · obtain ⟨n', x', y', q', r'⟩ := e.prs u hu
    exact ⟨n', x', y', k _ _ q' (by simpa using n'), r'.keep k⟩
  · have : u = t := by simpa using hu
    subst this
    exact ⟨n, x, y, k _ _ q (by simpa using n), r.keep k⟩
end L2

set_option Elab.async false
set_option linter.all false
set_option maxRecDepth 100000
set_option maxHeartbeats 1000000
namespace M
open PySem PySem.Spec PyProof.Rows L2
/-! ## MA: a small machine over trees; what it says of the abstract heap -/
/-- a value: what is never changed is a tree (tuples, lists, dicts and instances that are only read), what may change stands in the store -/
inductive W where
  | non | bl (b : Bool) | int (i : Int) | str (x : Str) | ty (n : String) | cls (c : Str) | ref (n : Nat)
  | tup (ws : List W) | tl (ws : List W) | td (ks : List Key) (ws : List W) | ti (c : Str) (fs : List Str) (ws : List W) | exc (c : Str) (fs : List Str) (ws : List W)
inductive O where
  | lst (ws : List W) | dic (kvs : List (Key × W)) | ins (c : Str) (fs : List (Str × W))
abbrev Mem := List O
abbrev Sg := List (Option W)
/-- the classes that the text names: of instances, of exceptions, any -/
structure CTb where
  t : Str → Option Addr
  x : Str → Option Addr
  o : Str → Option Addr
def CTb.any (T : CTb) (c : Str) : Option Addr := match T.t c with
  | some C => some C
  | none => (match T.x c with
    | some C => some C
    | none => T.o c)
instance : CoeFun CTb fun _ => Str → Option Addr := ⟨CTb.t⟩
theorem CTb.any_t {T : CTb} {c : Str} {C : Addr} (h : T c = some C) : T.any c = some C := by unfold CTb.any; rw [show T.t c = some C from h]
abbrev St := L2.St
/-- an exception's record: its class, its own dict -/
def XShape (e C : Addr) (d : Option Addr) (h : Heap) : Prop := ∃ o vs, h.get? e = some o ∧ o.cls = .ref C ∧ o.data = .fields vs ∧ o.dict = d
section
variable (T : CTb) (φ : List Addr) (H : Hp)
mutual
def RW : W → V → Prop
  | .non, v => v = .non
  | .bl b, v => v = .bl b
  | .int i, v => v = .int i
  | .str x, v => v = .str x
  | .ty n, v => v = .ty n
  | .cls c, v => ∃ C, T.any c = some C ∧ v = .ref C
  | .ref n, v => ∃ a, φ[n]? = some a ∧ v = .ref a
  | .tup ws, v => ∃ p vs, v = .ref p ∧ p ∉ φ ∧ H p = some (.tup vs) ∧ RWs ws vs
  | .tl ws, v => ∃ p vs, v = .ref p ∧ p ∉ φ ∧ lstAt H p = some vs ∧ RWs ws vs
  | .td ks ws, v => ∃ p vs, v = .ref p ∧ p ∉ φ ∧ H p = some (.dK (ks.zip vs)) ∧ ks.length = ws.length ∧ RWs ws vs
  | .ti c fs ws, v => ∃ p C dx vs, v = .ref p ∧ p ∉ φ ∧ T c = some C ∧ H p = some (.ins C dx (fs.zip vs)) ∧ fs.length = ws.length ∧ RWs ws vs
  | .exc c fs ws, v => ∃ e C d vs, v = .ref e ∧ e ∉ φ ∧ T.x c = some C ∧ H e = some (.ext (XShape e C d)) ∧ fs.length = ws.length ∧ (match d with
    | some da => da ∉ φ ∧ H da = some (.xd (fs.zip vs))
    | none => fs = []) ∧ RWs ws vs
def RWs : List W → List V → Prop
  | [], vs => vs = []
  | w :: ws, vs => ∃ v r, vs = v :: r ∧ RW w v ∧ RWs ws r
end
def RP {κ : Type} : List (κ × W) → List (κ × V) → Prop := Paired fun p q => p.1 = q.1 ∧ RW T φ H p.2 q.2
def RO : O → HO → Prop
  | .lst ws, o => ∃ vs, o = .lst vs ∧ RWs T φ H ws vs
  | .dic kvs, o => ∃ kv, o = .dK kv ∧ RP T φ H kvs kv
  | .ins c fs, o => ∃ C dx fv, o = .ins C dx fv ∧ T c = some C ∧ RP T φ H fs fv
end
structure Step (φ : List Addr) (H : Hp) (φ' : List Addr) (H' : Hp) : Prop where
  pre : φ <+: φ'
  keep : ∀ a o, H a = some o → a ∉ φ → H' a = some o
  new : ∀ a, a ∈ φ' → a ∉ φ → H a = none
theorem Step.refl (φ : List Addr) (H : Hp) : Step φ H φ H := ⟨List.prefix_refl _, fun _ _ e _ => e, fun _ h n => absurd h n⟩
theorem Step.out {φ φ' : List Addr} {H H' : Hp} (s : Step φ H φ' H') {a : Addr} {o : HO} (e : H a = some o) (n : a ∉ φ) : a ∉ φ' := fun z => by rw [s.new a z n] at e; cases e
theorem Step.trans {φ φ' φ'' : List Addr} {H H' H'' : Hp} (s : Step φ H φ' H') (t : Step φ' H' φ'' H'') : Step φ H φ'' H'' :=
  ⟨s.pre.trans t.pre, fun a o e n => t.keep a o (s.keep a o e n) (s.out e n), fun a h n => by
    by_cases z : a ∈ φ'
    · exact s.new a z n
    · cases e : H a with
      | none => rfl
      | some o => have := t.new a h z; rw [s.keep a o e n] at this; cases this⟩
theorem Step.get {φ φ' : List Addr} {H H' : Hp} (s : Step φ H φ' H') {n : Nat} {a : Addr} (e : φ[n]? = some a) : φ'[n]? = some a := by
  obtain ⟨t, rfl⟩ := s.pre
  rw [List.getElem?_append_left (List.getElem?_eq_some_iff.mp e).1]
  exact e
theorem lstAt_cases {H : Hp} {p : Addr} {vs : List V} (h : lstAt H p = some vs) : ∃ o, H p = some o ∧ ∀ H' : Hp, H' p = some o → lstAt H' p = some vs := by
  rcases lstAt_rd h with q | ⟨o, q⟩
  · exact ⟨_, q, fun H' e => lstAt_of e⟩
  · exact ⟨_, q, fun H' e => by unfold lstAt; rw [e]⟩
section
variable {T : CTb} {φ φ' : List Addr} {H H' : Hp}
mutual
theorem RW.step (s : Step φ H φ' H') : ∀ {w : W} {v : V}, RW T φ H w v → RW T φ' H' w v
  | .non, v, h => by unfold RW at h ⊢; exact h
  | .bl b, v, h => by unfold RW at h ⊢; exact h
  | .int i, v, h => by unfold RW at h ⊢; exact h
  | .str x, v, h => by unfold RW at h ⊢; exact h
  | .ty n, v, h => by unfold RW at h ⊢; exact h
  | .cls c, v, h => by unfold RW at h ⊢; exact h
  | .ref n, v, h => by
    unfold RW at h ⊢
    obtain ⟨a, e, q⟩ := h
    exact ⟨a, s.get e, q⟩
  | .tup ws, v, h => by
    unfold RW at h ⊢
    obtain ⟨p, vs, e, n, q, r⟩ := h
    exact ⟨p, vs, e, s.out q n, s.keep _ _ q n, RWs.step s r⟩
  | .tl ws, v, h => by
    unfold RW at h ⊢
    obtain ⟨p, vs, e, n, q, r⟩ := h
    obtain ⟨o, ho, k⟩ := lstAt_cases q
    exact ⟨p, vs, e, s.out ho n, k _ (s.keep _ _ ho n), RWs.step s r⟩
  | .td ks ws, v, h => by
    unfold RW at h ⊢
    obtain ⟨p, vs, e, n, q, l, r⟩ := h
    exact ⟨p, vs, e, s.out q n, s.keep _ _ q n, l, RWs.step s r⟩
  | .ti c fs ws, v, h => by
    unfold RW at h ⊢
    obtain ⟨p, C, dx, vs, e, n, c, q, l, r⟩ := h
    exact ⟨p, C, dx, vs, e, s.out q n, c, s.keep _ _ q n, l, RWs.step s r⟩
  | .exc c fs ws, v, h => by
    unfold RW at h ⊢
    obtain ⟨e, C, d, vs, q, n, c, x, l, m, r⟩ := h
    refine ⟨e, C, d, vs, q, s.out x n, c, s.keep _ _ x n, l, ?_, RWs.step s r⟩
    cases d with
    | none => exact m
    | some da => exact ⟨s.out m.2 m.1, s.keep _ _ m.2 m.1⟩
theorem RWs.step (s : Step φ H φ' H') : ∀ {ws : List W} {vs : List V}, RWs T φ H ws vs → RWs T φ' H' ws vs
  | [], vs, h => by unfold RWs at h ⊢; exact h
  | w :: ws, vs, h => by
    unfold RWs at h ⊢
    obtain ⟨v, r, e, a, b⟩ := h
    exact ⟨v, r, e, RW.step s a, RWs.step s b⟩
end
theorem paired_step {κ : Type} (s : Step φ H φ' H') {ps : List (κ × W)} {qs : List (κ × V)} (h : RP T φ H ps qs) : RP T φ' H' ps qs := Paired.mapP h fun _ _ q => ⟨q.1, q.2.step s⟩
theorem RO.step (s : Step φ H φ' H') {o : O} {ho : HO} (h : RO T φ H o ho) : RO T φ' H' o ho := by
  cases o with
  | lst ws => obtain ⟨vs, e, r⟩ := h; exact ⟨vs, e, r.step s⟩
  | dic kvs => obtain ⟨kv, e, r⟩ := h; exact ⟨kv, e, paired_step s r⟩
  | ins c fs => obtain ⟨C, dx, fv, e, c, r⟩ := h; exact ⟨C, dx, fv, e, c, paired_step s r⟩
end
/-- the store is what the abstract heap holds at φ -/
structure RH (T : CTb) (φ : List Addr) (h : Mem) (H : Hp) : Prop where
  len : φ.length = h.length
  nd : φ.Nodup
  obj : ∀ (n : Nat) o a, h[n]? = some o → φ[n]? = some a → ∃ ho, H a = some ho ∧ RO T φ H o ho
/-- the names: what the machine knows of them -/
structure RS (T : CTb) (φ : List Addr) (H : Hp) (ρ : Sg) (σ : St) : Prop where
  len : ρ.length = σ.length
  var : ∀ (i : Nat) w, ρ[i]? = some (some w) → ∃ v, σ[i]? = some (some v) ∧ RW T φ H w v
section
variable {T : CTb} {φ φ' : List Addr} {H H' : Hp} {h : Mem} {ρ : Sg} {σ : St}
theorem RS.step (s : Step φ H φ' H') (r : RS T φ H ρ σ) : RS T φ' H' ρ σ := ⟨r.len, fun i w e => by
  obtain ⟨v, a, b⟩ := r.var i w e
  exact ⟨v, a, b.step s⟩⟩
theorem RS.set {i : Nat} {w : W} {v : V} (r : RS T φ H ρ σ) (q : RW T φ H w v) : RS T φ H (ρ.set i (some w)) (σ.set i (some v)) := ⟨by simp [r.len], fun j u e => by
  rw [List.getElem?_set] at e ⊢
  split at e
  · rename_i hij
    subst hij
    split at e
    · rename_i hl
      rw [if_pos rfl, if_pos (by rw [← r.len]; exact hl)]
      cases e
      exact ⟨v, rfl, q⟩
    · cases e
  · rename_i hij
    rw [if_neg hij]
    exact r.var j u e⟩
theorem RH.at (r : RH T φ h H) {n : Nat} {o : O} (e : h[n]? = some o) : ∃ a ho, φ[n]? = some a ∧ H a = some ho ∧ RO T φ H o ho := by
  have hn : n < φ.length := by rw [r.len]; exact (List.getElem?_eq_some_iff.mp e).1
  obtain ⟨ho, q, x⟩ := r.obj n o φ[n] e (by simp [hn])
  exact ⟨φ[n], ho, by simp [hn], q, x⟩
theorem RH.there (r : RH T φ h H) {a : Addr} (m : a ∈ φ) : ∃ ho, H a = some ho := by
  obtain ⟨n, hn, e⟩ := List.getElem_of_mem m
  have hl : n < h.length := by rw [← r.len]; exact hn
  obtain ⟨ho, q, _⟩ := r.obj n h[n] a (by simp [hl]) (by simp [hn, e])
  exact ⟨ho, q⟩
theorem RH.fresh (r : RH T φ h H) {p : Addr} (hp : H p = none) : p ∉ φ := fun m => by
  obtain ⟨ho, q⟩ := r.there m
  rw [hp] at q; cases q
/-- something new that is not tracked -/
theorem step_tmp {p : Addr} {ho : HO} (hp : H p = none) : Step φ H φ (upd H p ho) := ⟨List.prefix_refl _, fun a o e _ => by rw [upd_ne (ne_of_none e hp)]; exact e, fun _ m n => absurd m n⟩
theorem RH.stay (r : RH T φ h H) (s : Step φ H φ H') (k : ∀ a ∈ φ, H' a = H a) : RH T φ h H' := ⟨r.len, r.nd, fun n o a e q => by
  obtain ⟨ho, x, y⟩ := r.obj n o a e q
  exact ⟨ho, by rw [k a (List.mem_of_getElem? q)]; exact x, y.step s⟩⟩
theorem RH.tmp (r : RH T φ h H) {p : Addr} {ho : HO} (hp : H p = none) : RH T φ h (upd H p ho) := r.stay (step_tmp hp) fun a m => upd_ne fun z => by subst z; exact r.fresh hp m
/-- something new that is tracked -/
theorem step_new {p : Addr} {ho : HO} (hp : H p = none) : Step φ H (φ ++ [p]) (upd H p ho) := ⟨List.prefix_append _ _, fun a o e _ => by rw [upd_ne (ne_of_none e hp)]; exact e, fun a m n => by
  rcases List.mem_append.mp m with m | m
  · exact absurd m n
  · have : a = p := by simpa using m
    subst this; exact hp⟩
theorem RH.new (r : RH T φ h H) {p : Addr} {o : O} {ho : HO} (hp : H p = none) (x : RO T φ H o ho) : RH T (φ ++ [p]) (h ++ [o]) (upd H p ho) := by
  have s := step_new (φ := φ) (ho := ho) hp
  refine ⟨by simp [r.len], ?_, fun n u a e q => ?_⟩
  · rw [List.nodup_append]
    refine ⟨r.nd, by simp, fun a m b k z => ?_⟩
    have : b = p := by simpa using k
    subst z this
    exact r.fresh hp m
  · by_cases hn : n < h.length
    · rw [List.getElem?_append_left hn] at e
      rw [List.getElem?_append_left (by rw [r.len]; exact hn)] at q
      obtain ⟨hu, y, z⟩ := r.obj n u a e q
      exact ⟨hu, by rw [upd_ne (fun z => by subst z; exact r.fresh hp (List.mem_of_getElem? q))]; exact y, z.step s⟩
    · have hn' : h.length ≤ n := Nat.le_of_not_lt hn
      rw [List.getElem?_append_right hn'] at e
      rw [List.getElem?_append_right (by rw [r.len]; exact hn'), r.len] at q
      have : n - h.length = 0 := by
        have := (List.getElem?_eq_some_iff.mp e).1
        simp at this; omega
      rw [this] at e q
      simp at e q
      subst e q
      exact ⟨ho, upd_same, x.step s⟩
/-- a tracked thing that changes -/
theorem step_set {a : Addr} {ho : HO} (m : a ∈ φ) : Step φ H φ (upd H a ho) := ⟨List.prefix_refl _, fun b o e n => by rw [upd_ne (fun z => by subst z; exact n m)]; exact e, fun _ m n => absurd m n⟩
theorem RH.set (r : RH T φ h H) {n : Nat} {a : Addr} {o : O} {ho : HO} (q : φ[n]? = some a) (x : RO T φ H o ho) : RH T φ (h.set n o) (upd H a ho) := by
  have s := step_set (H := H) (ho := ho) (List.mem_of_getElem? q)
  refine ⟨by simp [r.len], r.nd, fun k u b e q' => ?_⟩
  rw [List.getElem?_set] at e
  split at e
  · rename_i hk
    subst hk
    rw [q] at q'
    cases q'
    split at e
    · cases e
      exact ⟨ho, upd_same, x.step s⟩
    · cases e
  · rename_i hk
    obtain ⟨hu, y, z⟩ := r.obj k u b e q'
    refine ⟨hu, ?_, z.step s⟩
    rw [upd_ne]
    · exact y
    · intro z
      subst z
      exact hk ((List.getElem?_inj (List.getElem?_eq_some_iff.mp q).1 r.nd).mp (q.trans q'.symm))
end
end M

set_option Elab.async false
set_option linter.all false
set_option maxRecDepth 100000
set_option maxHeartbeats 1000000
namespace M
open PySem PySem.Spec PyProof.Rows L2
/-! ## MB: results, expressions -/
inductive Res where
  | ok (w : W) (h : Mem) | ex (w : W) (h : Mem) | no
inductive RsL where
  | ok (ws : List W) (h : Mem) | ex (w : W) (h : Mem) | no
abbrev Ex := Sg → Mem → Res
abbrev Exs := Sg → Mem → RsL
def Res.bind (r : Res) (k : W → Mem → Res) : Res := match r with
  | .ok w h => k w h
  | .ex w h => .ex w h
  | .no => .no
def Res.of (o : Option W) (h : Mem) : Res := match o with
  | some w => .ok w h
  | none => .no
def Res.post (r : Res) (k : W → Mem → Prop) (e : W → Mem → Prop) : Prop := match r with
  | .ok w h => k w h
  | .ex w h => e w h
  | .no => False
def RsL.post (r : RsL) (k : List W → Mem → Prop) (e : W → Mem → Prop) : Prop := match r with
  | .ok w h => k w h
  | .ex w h => e w h
  | .no => False
theorem Res.post.mono {r : Res} {k k' : W → Mem → Prop} {e : W → Mem → Prop} (h : r.post k e) (i : ∀ w m, k w m → k' w m) : r.post k' e := by
  cases r <;> first | exact i _ _ h | exact h
theorem RsL.post.mono {r : RsL} {k k' : List W → Mem → Prop} {e : W → Mem → Prop} (h : r.post k e) (i : ∀ w m, k w m → k' w m) : r.post k' e := by
  cases r <;> first | exact i _ _ h | exact h
/-- where the machine stands: the classes, the entry, what stays true of the names, what is wanted of an exception -/
structure Zc where
  T : CTb
  φ : List Addr
  H : Hp
  sg : St → Prop
  xw : W → Mem → Prop
structure Here (Z : Zc) (σ : St) (H : Hp) (φ : List Addr) (h : Mem) (ρ : Sg) : Prop where
  sg : Z.sg σ
  st : Step Z.φ Z.H φ H
  rh : RH Z.T φ h H
  rs : RS Z.T φ H ρ σ
theorem Here.step {Z : Zc} {σ : St} {H H' : Hp} {φ φ' : List Addr} {h h' : Mem} {ρ : Sg} (x : Here Z σ H φ h ρ) (s : Step φ H φ' H') (r : RH Z.T φ' h' H') : Here Z σ H' φ' h' ρ := ⟨x.sg, x.st.trans s, r, x.rs.step s⟩
/-- what is wanted of a value -/
def Kv (T : CTb) (φ : List Addr) (H : Hp) (Q : VK) : W → Mem → Prop := fun w h' => ∀ φ' H' v, Step φ H φ' H' → RH T φ' h' H' → RW T φ' H' w v → Q v H'
def Kvs (T : CTb) (φ : List Addr) (H : Hp) (Q : List V → Hp → Prop) : List W → Mem → Prop := fun ws h' => ∀ φ' H' vs, Step φ H φ' H' → RH T φ' h' H' → RWs T φ' H' ws vs → Q vs H'
theorem Kv.step {T : CTb} {φ φ' : List Addr} {H H' : Hp} {Q : VK} {w : W} {h : Mem} (k : Kv T φ H Q w h) (s : Step φ H φ' H') : Kv T φ' H' Q w h := fun φ2 H2 v t r x => k φ2 H2 v (s.trans t) r x
theorem Kvs.step {T : CTb} {φ φ' : List Addr} {H H' : Hp} {Q : List V → Hp → Prop} {w : List W} {h : Mem} (k : Kvs T φ H Q w h) (s : Step φ H φ' H') : Kvs T φ' H' Q w h := fun φ2 H2 v t r x => k φ2 H2 v (s.trans t) r x
def tH (Z : Zc) (f : Ex) : TE := fun σ H Q => ∃ φ h ρ, Here Z σ H φ h ρ ∧ (f ρ h).post (Kv Z.T φ H Q) Z.xw
def tHA (Z : Zc) (f : Exs) : TA := fun σ H Q => ∃ φ h ρ, Here Z σ H φ h ρ ∧ (f ρ h).post (Kvs Z.T φ H Q) Z.xw
/-- a test: a bool must come -/
def tHT (Z : Zc) (f : Ex) : TT := fun σ H Q => ∃ φ h ρ, Here Z σ H φ h ρ ∧ (f ρ h).post (fun w h' => ∃ b, w = .bl b ∧ ∀ φ' H', Step φ H φ' H' → RH Z.T φ' h' H' → Q b H') Z.xw
section
variable {X : Cx} {e a b c : Expr} {es : List Expr}
theorem _root_.L2.PE.imp {t t' : TE} (h : PE X e t) (i : ∀ σ H Q, t' σ H Q → t σ H Q) : PE X e t' := fun pins s σ H Q I q => h pins s σ H Q I (i σ H Q q)
theorem _root_.L2.PT.imp {t t' : TT} (h : PT X e t) (i : ∀ σ H Q, t' σ H Q → t σ H Q) : PT X e t' := fun pins s σ H Q I q => h pins s σ H Q I (i σ H Q q)
theorem _root_.L2.PW.imp {t t' : TT} (h : PW X e t) (i : ∀ σ H Q, t' σ H Q → t σ H Q) : PW X e t' := fun w pins s σ H Q I q => h w pins s σ H Q I (i σ H Q q)
theorem _root_.L2.PA.imp {t t' : TA} (h : PA X es t) (i : ∀ σ H Q, t' σ H Q → t σ H Q) : PA X es t' := fun pos pins s σ H Q I q => h pos pins s σ H Q I (i σ H Q q)
theorem _root_.L2.PE.any {t : TE} {ι : Type} {ts : ι → TE} (h : ∀ i, PE X e (ts i)) (k : ∀ σ H Q, t σ H Q → ∃ i, ts i σ H Q) : PE X e t := fun pins s σ H Q I q => by
  obtain ⟨i, z⟩ := k σ H Q q
  exact h i pins s σ H Q I z
end
/-! names and constants -/
def xVar (i : Nat) : Ex := fun ρ h => match ρ[i]? with
  | some (some w) => .ok w h
  | _ => .no
def xC (w : W) : Ex := fun _ h => .ok w h
def xNil : Exs := fun _ h => .ok [] h
def xCons (f : Ex) (g : Exs) : Exs := fun ρ h => match f ρ h with
  | .ok w h1 => (match g ρ h1 with
    | .ok ws h2 => .ok (w :: ws) h2
    | r => r)
  | .ex w h1 => .ex w h1
  | .no => .no
def xBin (op : Mem → W → W → Option W) (f g : Ex) : Ex := fun ρ h => (f ρ h).bind fun a h1 => (g ρ h1).bind fun b h2 => .of (op h2 a b) h2
def xUn (op : Mem → W → Option W) (f : Ex) : Ex := fun ρ h => (f ρ h).bind fun a h1 => .of (op h1 a) h1
def xCb (op : Mem → List W → Option W) (f : Exs) : Ex := fun ρ h => match f ρ h with
  | .ok ws h1 => .of (op h1 ws) h1
  | .ex w h1 => .ex w h1
  | .no => .no
def xBm (op : Mem → W → List W → Option W) (f : Ex) (g : Exs) : Ex := fun ρ h => (f ρ h).bind fun a h1 => match g ρ h1 with
  | .ok ws h2 => .of (op h2 a ws) h2
  | .ex w h2 => .ex w h2
  | .no => .no
def xAnd (f g : Ex) : Ex := fun ρ h => (f ρ h).bind fun w h1 => match w with
  | .bl true => g ρ h1
  | .bl false => .ok (.bl false) h1
  | _ => .no
def xOr (f g : Ex) : Ex := fun ρ h => (f ρ h).bind fun w h1 => match w with
  | .bl true => .ok (.bl true) h1
  | .bl false => g ρ h1
  | _ => .no
def xNot (f : Ex) : Ex := fun ρ h => (f ρ h).bind fun w h1 => match w with
  | .bl b => .ok (.bl (!b)) h1
  | _ => .no
def xIf (c f g : Ex) : Ex := fun ρ h => (c ρ h).bind fun w h1 => match w with
  | .bl true => f ρ h1
  | .bl false => g ρ h1
  | _ => .no
def xChain (op op' : Mem → W → W → Option W) (f g k : Ex) : Ex := fun ρ h => (f ρ h).bind fun a h1 => (g ρ h1).bind fun b h2 => match op h2 a b with
  | some (.bl true) => (k ρ h2).bind fun c h3 => (match op' h3 b c with
    | some (.bl z) => .ok (.bl z) h3
    | _ => .no)
  | some (.bl false) => .ok (.bl false) h2
  | _ => .no
def xTup (f : Exs) : Ex := fun ρ h => match f ρ h with
  | .ok ws h1 => if ws.length ≤ sizeLine then .ok (.tup ws) h1 else .no
  | .ex w h1 => .ex w h1
  | .no => .no
def xLst (f : Exs) : Ex := fun ρ h => match f ρ h with
  | .ok ws h1 => if ws.length ≤ sizeLine then .ok (.tl ws) h1 else .no
  | .ex w h1 => .ex w h1
  | .no => .no
/-- a list that will be changed: it stands in the store -/
def xLstN (f : Exs) : Ex := fun ρ h => match f ρ h with
  | .ok ws h1 => if ws.length ≤ sizeLine then .ok (.ref h1.length) (h1 ++ [.lst ws]) else .no
  | .ex w h1 => .ex w h1
  | .no => .no
/-- what an operation of two values must show -/
def OpW (T : CTb) (op : Mem → W → W → Option W) (r : R2) : Prop := ∀ φ h H a b u v w Q, RH T φ h H → RW T φ H a u → RW T φ H b v → op h a b = some w → (∀ H' x, Step φ H φ H' → RH T φ h H' → RW T φ H' w x → Q x H') → r u v H Q
def UnW (T : CTb) (op : Mem → W → Option W) (r : V → Hp → VK → Prop) : Prop := ∀ φ h H a u w Q, RH T φ h H → RW T φ H a u → op h a = some w → (∀ H' x, Step φ H φ H' → RH T φ h H' → RW T φ H' w x → Q x H') → r u H Q
def CbW (T : CTb) (op : Mem → List W → Option W) (r : List V → Hp → VK → Prop) : Prop := ∀ φ h H ws vs w Q, RH T φ h H → RWs T φ H ws vs → op h ws = some w → (∀ H' x, Step φ H φ H' → RH T φ h H' → RW T φ H' w x → Q x H') → r vs H Q
section
variable {X : Cx} {Z : Zc} {f g k : Ex} {fa : Exs} {e a b c : Expr} {es rest : List Expr} {pos : Pos}
theorem bindP {r : Res} {k : W → Mem → Res} {K : W → Mem → Prop} {E : W → Mem → Prop} : (r.bind k).post K E ↔ r.post (fun w h => (k w h).post K E) E := by cases r <;> rfl
theorem ofP {o : Option W} {h : Mem} {K : W → Mem → Prop} {E : W → Mem → Prop} (q : (Res.of o h).post K E) : ∃ w, o = some w ∧ K w h := by
  cases o with
  | none => exact q.elim
  | some w => exact ⟨w, rfl, q⟩
theorem Kv.end {T : CTb} {φ : List Addr} {H : Hp} {Q : VK} {w : W} {h : Mem} (k : Kv T φ H Q w h) : ∀ H' x, Step φ H φ H' → RH T φ h H' → RW T φ H' w x → Q x H' := fun H' x s r y => k φ H' x s r y
theorem ph_var (i : Nat) (h : PE X e (tVar i)) : PE X e (tH Z (xVar i)) := h.imp fun σ H Q ⟨φ, m, ρ, x, q⟩ => by
  unfold xVar at q
  split at q
  · rename_i w e
    obtain ⟨v, hv, r⟩ := x.rs.var i w e
    exact ⟨v, hv, q φ H v (Step.refl _ _) x.rh r⟩
  · exact q.elim
theorem ph_c {w : W} {v : V} (h : PE X e (tC v)) (r : ∀ φ H, RW Z.T φ H w v) : PE X e (tH Z (xC w)) := h.imp fun σ H Q ⟨φ, m, ρ, x, q⟩ => q φ H v (Step.refl _ _) x.rh (r φ H)
theorem ph_int {i j pos} : PE X (.Constant (.int i) j pos) (tH Z (xC (.int i))) := ph_c pe_int fun _ _ => by unfold RW; rfl
theorem ph_bl {b j pos} : PE X (.Constant (.bool b) j pos) (tH Z (xC (.bl b))) := ph_c pe_bl fun _ _ => by unfold RW; rfl
theorem ph_str {x j pos} : PE X (.Constant (.str x) j pos) (tH Z (xC (.str x))) := ph_c pe_str fun _ _ => by unfold RW; rfl
/-- two parts, one behind the other -/
theorem two {σ : St} {H : Hp} {φ : List Addr} {h : Mem} {ρ : Sg} {k : W → W → Mem → Res} {Q : VK} (x : Here Z σ H φ h ρ) (q : ((f ρ h).bind fun a h1 => (g ρ h1).bind fun b h2 => k a b h2).post (Kv Z.T φ H Q) Z.xw)
    {R : V → V → Hp → Prop} (i : ∀ φ2 H2 h2 u v a b, Step φ H φ2 H2 → Here Z σ H2 φ2 h2 ρ → RW Z.T φ2 H2 a u → RW Z.T φ2 H2 b v → (k a b h2).post (Kv Z.T φ2 H2 Q) Z.xw → R u v H2) :
    tH Z f σ H fun u H1 => tH Z g σ H1 fun v H2 => R u v H2 := by
  refine ⟨φ, h, ρ, x, ?_⟩
  rw [bindP] at q
  refine q.mono fun a h1 q1 => fun φ1 H1 u s1 r1 ra => ?_
  refine ⟨φ1, h1, ρ, x.step s1 r1, ?_⟩
  rw [bindP] at q1
  refine q1.mono fun b h2 q2 => fun φ2 H2 v s2 r2 rb => ?_
  exact i φ2 H2 h2 u v a b (s1.trans s2) ((x.step s1 r1).step s2 r2) (ra.step s2) rb (q2.mono fun w m k => k.step (s1.trans s2))
theorem ph_bin {op : Operator} {o : Mem → W → W → Option W} {r : R2} (ho : OpR X (binaryOp op) r) (hw : OpW Z.T o r) (ha : PE X a (tH Z f)) (hb : PE X b (tH Z g)) : PE X (.BinOp a op b pos) (tH Z (xBin o f g)) :=
  (pe_op ho ha hb).imp fun σ H Q ⟨φ, m, ρ, x, q⟩ => two x q fun φ2 H2 h2 u v a b s y ra rb q2 => by
    obtain ⟨w, e, k⟩ := ofP q2
    exact hw φ2 h2 H2 a b u v w Q y.rh ra rb e k.end
theorem ph_cmp {op : CmpOp} {o : Mem → W → W → Option W} {r : R2} (ho : OpR X (compareOp op) r) (hw : OpW Z.T o r) (ha : PE X a (tH Z f)) (hb : PE X b (tH Z g)) (hm : behindInMarks op b = false) : PE X (.Compare a [op] [b] pos) (tH Z (xBin o f g)) :=
  (pe_cmpR ho ha hb hm).imp fun σ H Q ⟨φ, m, ρ, x, q⟩ => two x q fun φ2 H2 h2 u v a b s y ra rb q2 => by
    obtain ⟨w, e, k⟩ := ofP q2
    exact hw φ2 h2 H2 a b u v w Q y.rh ra rb e k.end
theorem ph_ix {o : Mem → W → W → Option W} {r : R2} (ho : IxR X r) (hw : OpW Z.T o r) (ha : PE X a (tH Z f)) (hb : PE X b (tH Z g)) (hs : PlainIx b) : PE X (.Subscript a b pos) (tH Z (xBin o f g)) :=
  (pe_ix ho ha hb hs).imp fun σ H Q ⟨φ, m, ρ, x, q⟩ => two x q fun φ2 H2 h2 u v a b s y ra rb q2 => by
    obtain ⟨w, e, k⟩ := ofP q2
    exact hw φ2 h2 H2 a b u v w Q y.rh ra rb e k.end
theorem ph_un {op : UnaryOp} {o : Mem → W → Option W} {r : V → Hp → VK → Prop} (ho : UnR X (unaryOp op) r) (hw : UnW Z.T o r) (ha : PE X a (tH Z f)) : PE X (.UnaryOp op a pos) (tH Z (xUn o f)) :=
  (pe_un ho ha).imp fun σ H Q ⟨φ, m, ρ, x, q⟩ => ⟨φ, m, ρ, x, by
    unfold xUn at q
    rw [bindP] at q
    refine q.mono fun a h1 q1 => fun φ1 H1 u s1 r1 ra => ?_
    obtain ⟨w, e, k⟩ := ofP q1
    exact hw φ1 h1 H1 a u w Q r1 ra e (k.step s1).end⟩
/-! tests -/
theorem bl_rw {T : CTb} {φ : List Addr} {H : Hp} {v : V} {c : Bool} (h : RW T φ H (.bl c) v) : v = .bl c := by unfold RW at h; exact h
theorem tHT_B {σ : St} {H : Hp} {Q : Bool → Hp → Prop} (h : tHT Z f σ H Q) : tB (tH Z f) σ H Q := by
  obtain ⟨φ, m, ρ, x, q⟩ := h
  refine ⟨φ, m, ρ, x, q.mono ?_⟩
  rintro w h1 ⟨b, rfl, k⟩ φ1 H1 v s1 r1 rw1
  exact ⟨b, bl_rw rw1, k φ1 H1 s1 r1⟩
theorem pth_val (h : PE X e (tH Z f)) (he : ∀ whole, isTrue e X.env whole = (do let v ← whole; standAt e.pos; holding [v] (truthy v)) := by intro _; rfl) : PT X e (tHT Z f) := (pt_val h he).imp fun σ H Q q => tHT_B q
theorem pth_cmp {op : CmpOp} {o : Mem → W → W → Option W} {r : R2} (ho : OpR X (compareOp op) r) (hw : OpW Z.T o r) (ha : PE X a (tH Z f)) (hb : PE X b (tH Z g)) (hm : behindInMarks op b = false) : PT X (.Compare a [op] [b] pos) (tHT Z (xBin o f g)) :=
  (pt_cmpR ho ha hb hm).imp fun σ H Q ⟨φ, m, ρ, x, q⟩ => by
    have q' : (xBin o f g ρ m).post (Kv Z.T φ H fun v H' => ∃ k, v = .bl k ∧ Q k H') Z.xw := q.mono (by
      rintro w h1 ⟨b, rfl, k⟩ φ1 H1 v s1 r1 rw1
      exact ⟨b, bl_rw rw1, k φ1 H1 s1 r1⟩)
    exact two x q' fun φ2 H2 h2 u v a b s y ra rb q2 => by
      obtain ⟨w, e, k⟩ := ofP q2
      exact hw φ2 h2 H2 a b u v w _ y.rh ra rb e k.end
theorem tHT_or {σ : St} {H : Hp} {Q : Bool → Hp → Prop} (h : tHT Z (xOr f g) σ H Q) : tOr (tHT Z f) (tHT Z g) σ H Q := by
  obtain ⟨φ, m, ρ, x, q⟩ := h
  refine ⟨φ, m, ρ, x, ?_⟩
  unfold xOr at q
  rw [bindP] at q
  refine q.mono fun w h1 q1 => ?_
  split at q1
  · obtain ⟨b, e, k⟩ := q1
    cases e
    exact ⟨true, rfl, fun φ1 H1 s1 r1 => iteT (k φ1 H1 s1 r1)⟩
  · exact ⟨false, rfl, fun φ1 H1 s1 r1 => iteF ⟨φ1, h1, ρ, x.step s1 r1, q1.mono fun w h2 ⟨b, e, k⟩ => ⟨b, e, fun φ2 H2 s2 r2 => k φ2 H2 (s1.trans s2) r2⟩⟩⟩
  · exact q1.elim
theorem tHT_not {σ : St} {H : Hp} {Q : Bool → Hp → Prop} (h : tHT Z (xNot f) σ H Q) : tNot (tHT Z f) σ H Q := by
  obtain ⟨φ, m, ρ, x, q⟩ := h
  refine ⟨φ, m, ρ, x, ?_⟩
  unfold xNot at q
  rw [bindP] at q
  refine q.mono fun w h1 q1 => ?_
  split at q1
  · obtain ⟨b, e, k⟩ := q1
    cases e
    exact ⟨_, rfl, k⟩
  · exact q1.elim
theorem pth_not (h : PT X a (tHT Z f)) : PT X (.UnaryOp .Not a pos) (tHT Z (xNot f)) := (pt_not h).imp fun _ _ _ q => tHT_not q
theorem pwh_or1 (h : PT X a (tHT Z f)) : PW X (.BoolOp .Or [a] pos) (tHT Z f) := pw_or1 h
theorem pwh_or (ha : PT X a (tHT Z f)) (hb : PW X (.BoolOp .Or (b :: rest) pos) (tHT Z g)) : PW X (.BoolOp .Or (a :: b :: rest) pos) (tHT Z (xOr f g)) := (pw_or ha hb).imp fun _ _ _ q => tHT_or q
/-! and, or, not, if as values -/
theorem ph_and (ha : PE X a (tH Z f)) (hb : PE X (.BoolOp .And (b :: rest) pos) (tH Z g)) : PE X (.BoolOp .And (a :: b :: rest) pos) (tH Z (xAnd f g)) :=
  (pe_and ha hb).imp fun σ H Q ⟨φ, m, ρ, x, q⟩ => ⟨φ, m, ρ, x, by
    unfold xAnd at q
    rw [bindP] at q
    refine q.mono fun w h1 q1 => fun φ1 H1 v s1 r1 rw1 => ?_
    split at q1
    · exact ⟨true, bl_rw rw1, iteT (⟨φ1, h1, ρ, x.step s1 r1, q1.mono fun w h2 k => k.step s1⟩)⟩
    · exact ⟨false, bl_rw rw1, iteF (q1 φ1 H1 _ s1 r1 (by unfold RW; rfl))⟩
    · exact q1.elim⟩
theorem ph_one {op} (h : PE X a (tH Z f)) : PE X (.BoolOp op [a] pos) (tH Z f) := pe_one h
theorem ph_not (ha : PE X a (tH Z f)) : PE X (.UnaryOp .Not a pos) (tH Z (xNot f)) :=
  (pe_not ha).imp fun σ H Q ⟨φ, m, ρ, x, q⟩ => ⟨φ, m, ρ, x, by
    unfold xNot at q
    rw [bindP] at q
    refine q.mono fun w h1 q1 => fun φ1 H1 v s1 r1 rw1 => ?_
    split at q1
    · exact ⟨_, bl_rw rw1, q1 φ1 H1 _ s1 r1 (by unfold RW; rfl)⟩
    · exact q1.elim⟩
theorem ph_if (hc : PT X c (tHT Z k)) (ha : PE X a (tH Z f)) (hb : PE X b (tH Z g)) : PE X (.IfExp c a b pos) (tH Z (xIf k f g)) :=
  (pe_ifExp hc ha hb).imp fun σ H Q ⟨φ, m, ρ, x, q⟩ => ⟨φ, m, ρ, x, by
    unfold xIf at q
    rw [bindP] at q
    refine q.mono fun w h1 q1 => ?_
    split at q1
    · exact ⟨true, rfl, fun φ1 H1 s1 r1 => iteT (⟨φ1, h1, ρ, x.step s1 r1, q1.mono fun w h2 k => k.step s1⟩)⟩
    · exact ⟨false, rfl, fun φ1 H1 s1 r1 => iteF (⟨φ1, h1, ρ, x.step s1 r1, q1.mono fun w h2 k => k.step s1⟩)⟩
    · exact q1.elim⟩
/-! argument lists, displays -/
theorem pah_nil : PA X [] (tHA Z xNil) := pa_nil.imp fun σ H Q ⟨φ, m, ρ, x, q⟩ => q φ H [] (Step.refl _ _) x.rh (by unfold RWs; rfl)
theorem pah_cons (ha : PE X e (tH Z f)) (hr : PA X es (tHA Z fa)) (hs : starEach (e :: es) X.env = (false, eval e X.env) :: starEach es X.env := by rfl) : PA X (e :: es) (tHA Z (xCons f fa)) :=
  (pa_cons ha hr hs).imp fun σ H Q ⟨φ, m, ρ, x, q⟩ => ⟨φ, m, ρ, x, by
    unfold xCons at q
    cases e1 : f ρ m with
    | no => rw [e1] at q; exact q.elim
    | ex w h1 => rw [e1] at q; exact q
    | ok w h1 =>
      rw [e1] at q
      intro φ1 H1 v s1 r1 rw1
      refine ⟨φ1, h1, ρ, x.step s1 r1, ?_⟩
      simp only at q
      cases e2 : fa ρ h1 with
      | no => rw [e2] at q; exact q.elim
      | ex w2 h2 => rw [e2] at q; exact q
      | ok ws h2 =>
        rw [e2] at q
        intro φ2 H2 vs s2 r2 rw2
        refine q φ2 H2 (v :: vs) (s1.trans s2) r2 ?_
        unfold RWs
        exact ⟨v, vs, rfl, rw1.step s2, rw2⟩⟩
theorem RWs.length {T : CTb} {φ : List Addr} {H : Hp} : ∀ {ws : List W} {vs : List V}, RWs T φ H ws vs → ws.length = vs.length
  | [], vs, h => by unfold RWs at h; subst h; rfl
  | w :: ws, vs, h => by
    unfold RWs at h
    obtain ⟨v, r, rfl, _, h⟩ := h
    simp [RWs.length h]
theorem ph_tup {x1} (h : PA X es (tHA Z fa)) : PE X (.Tuple es x1 pos) (tH Z (xTup fa)) :=
  (pe_tup h).imp fun σ H Q ⟨φ, m, ρ, x, q⟩ => ⟨φ, m, ρ, x, by
    unfold xTup at q
    cases e1 : fa ρ m with
    | no => rw [e1] at q; exact q.elim
    | ex w h1 => rw [e1] at q; exact q
    | ok ws h1 =>
      rw [e1] at q
      simp only at q
      split at q
      · rename_i hz
        intro φ1 H1 vs s1 r1 rw1
        refine ⟨by rw [← rw1.length]; exact hz, fun p hp => ?_⟩
        have s2 := step_tmp (φ := φ1) (ho := .tup vs) hp
        refine q φ1 _ _ (s1.trans s2) (r1.tmp hp) ?_
        unfold RW
        exact ⟨p, vs, rfl, r1.fresh hp, upd_same, rw1.step s2⟩
      · exact q.elim⟩
theorem ph_lst (h : PA X es (tHA Z fa)) : PE X (.List es pos) (tH Z (xLst fa)) :=
  (pe_lst h).imp fun σ H Q ⟨φ, m, ρ, x, q⟩ => ⟨φ, m, ρ, x, by
    unfold xLst at q
    cases e1 : fa ρ m with
    | no => rw [e1] at q; exact q.elim
    | ex w h1 => rw [e1] at q; exact q
    | ok ws h1 =>
      rw [e1] at q
      simp only at q
      split at q
      · rename_i hz
        intro φ1 H1 vs s1 r1 rw1
        refine ⟨by rw [← rw1.length]; exact hz, fun p hp => ?_⟩
        have s2 := step_tmp (φ := φ1) (ho := .lst vs) hp
        refine q φ1 _ _ (s1.trans s2) (r1.tmp hp) ?_
        unfold RW
        exact ⟨p, vs, rfl, r1.fresh hp, lstAt_upd_l, rw1.step s2⟩
      · exact q.elim⟩
theorem ph_lstN (h : PA X es (tHA Z fa)) : PE X (.List es pos) (tH Z (xLstN fa)) :=
  (pe_lst h).imp fun σ H Q ⟨φ, m, ρ, x, q⟩ => ⟨φ, m, ρ, x, by
    unfold xLstN at q
    cases e1 : fa ρ m with
    | no => rw [e1] at q; exact q.elim
    | ex w h1 => rw [e1] at q; exact q
    | ok ws h1 =>
      rw [e1] at q
      simp only at q
      split at q
      · rename_i hz
        intro φ1 H1 vs s1 r1 rw1
        refine ⟨by rw [← rw1.length]; exact hz, fun p hp => ?_⟩
        refine q (φ1 ++ [p]) _ _ (s1.trans (step_new hp)) (r1.new hp (by unfold RO; exact ⟨vs, rfl, rw1⟩)) ?_
        unfold RW
        exact ⟨p, by rw [← r1.len]; simp, rfl⟩
      · exact q.elim⟩
theorem ph_cb {r : List V → Hp → VK → Prop} {o : Mem → List W → Option W} (hw : CbW Z.T o r) (h : ∀ {t : TA}, PA X es t → PE X e (tCB r t)) (ha : PA X es (tHA Z fa)) : PE X e (tH Z (xCb o fa)) :=
  (h ha).imp fun σ H Q ⟨φ, m, ρ, x, q⟩ => ⟨φ, m, ρ, x, by
    unfold xCb at q
    cases e1 : fa ρ m with
    | no => rw [e1] at q; exact q.elim
    | ex w h1 => rw [e1] at q; exact q
    | ok ws h1 =>
      rw [e1] at q
      intro φ1 H1 vs s1 r1 rw1
      obtain ⟨w, e, k⟩ := ofP q
      exact hw φ1 h1 H1 ws vs w Q r1 rw1 e (k.step s1).end⟩
end
end M

set_option Elab.async false
set_option linter.all false
set_option maxRecDepth 100000
set_option maxHeartbeats 1000000
namespace M
open PySem PySem.Spec PyProof.Rows L2
/-! ## MC: statements, loops, blocks, defs -/
inductive Out where
  | nx (ρ : Sg) (h : Mem) | rt (w : W) (h : Mem) | bk (ρ : Sg) (h : Mem) | ct (ρ : Sg) (h : Mem) | ex (w : W) (h : Mem) | no
abbrev Sm := Sg → Mem → Out
def Ks (Z : Zc) (φ : List Addr) (H : Hp) (n : St → Hp → Prop) : Sg → Mem → Prop := fun ρ' h' => ∀ φ' H' σ', Step φ H φ' H' → RH Z.T φ' h' H' → RS Z.T φ' H' ρ' σ' → Z.sg σ' → n σ' H'
def Out.post (Z : Zc) (φ : List Addr) (H : Hp) (D : Ends) : Out → Prop
  | .nx ρ h => Ks Z φ H D.nx ρ h
  | .rt w h => Kv Z.T φ H D.rt w h
  | .bk ρ h => Ks Z φ H D.bk ρ h
  | .ct ρ h => Ks Z φ H D.ct ρ h
  | .ex w h => Z.xw w h
  | .no => False
theorem Ks.step {Z : Zc} {φ φ' : List Addr} {H H' : Hp} {n : St → Hp → Prop} {ρ : Sg} {h : Mem} (k : Ks Z φ H n ρ h) (s : Step φ H φ' H') : Ks Z φ' H' n ρ h := fun φ2 H2 σ t r x g => k φ2 H2 σ (s.trans t) r x g
theorem post_step {Z : Zc} {φ φ' : List Addr} {H H' : Hp} {D : Ends} {o : Out} (k : o.post Z φ H D) (s : Step φ H φ' H') : o.post Z φ' H' D := by
  cases o with
  | nx ρ h => exact Ks.step k s
  | rt w h => exact Kv.step k s
  | bk ρ h => exact Ks.step k s
  | ct ρ h => exact Ks.step k s
  | ex w h => exact k
  | no => exact k
def tHS (Z : Zc) (F : Sm) : TS := fun D σ H => ∃ φ h ρ, Here Z σ H φ h ρ ∧ (F ρ h).post Z φ H D
def xNext : Sm := fun ρ h => .nx ρ h
def xSeq (F G : Sm) : Sm := fun ρ h => match F ρ h with
  | .nx ρ' h' => G ρ' h'
  | o => o
def xIfS (c : Ex) (F G : Sm) : Sm := fun ρ h => match c ρ h with
  | .ok (.bl true) h' => F ρ h'
  | .ok (.bl false) h' => G ρ h'
  | .ex w h' => .ex w h'
  | _ => .no
def xRet (f : Ex) : Sm := fun ρ h => match f ρ h with
  | .ok w h' => .rt w h'
  | .ex w h' => .ex w h'
  | .no => .no
def xDrop (f : Ex) : Sm := fun ρ h => match f ρ h with
  | .ok _ h' => .nx ρ h'
  | .ex w h' => .ex w h'
  | .no => .no
/-- a target: what it makes of the names -/
abbrev Tg := W → Sg → Option Sg
def gN (i : Nat) : Tg := fun w ρ => some (ρ.set i (some w))
def TgW (Z : Zc) (g : TG) (G : Tg) : Prop := ∀ σ H φ h ρ w v ρ' Q, Here Z σ H φ h ρ → RW Z.T φ H w v → G w ρ = some ρ' → (∀ σ', RS Z.T φ H ρ' σ' → Z.sg σ' → Q σ' H) → g v σ H Q
theorem tg_name {Z : Zc} {i : Nat} (hsg : ∀ σ v, Z.sg σ → Z.sg (σ.set i (some v))) : TgW Z (gName i) (gN i) := fun σ H φ h ρ w v ρ' Q x r e k => by
  cases e
  exact k _ (x.rs.set r) (hsg _ _ x.sg)
def xAsg (G : Tg) (f : Ex) : Sm := fun ρ h => match f ρ h with
  | .ok w h' => (match G w ρ with
    | some ρ' => .nx ρ' h'
    | none => .no)
  | .ex w h' => .ex w h'
  | .no => .no
def xLoop (G : Tg) (B : Sm) : List W → Sm
  | [], ρ, h => .nx ρ h
  | w :: r, ρ, h => match G w ρ with
    | none => .no
    | some ρ1 => (match B ρ1 h with
      | .nx ρ' h' => xLoop G B r ρ' h'
      | .ct ρ' h' => xLoop G B r ρ' h'
      | .bk ρ' h' => .nx ρ' h'
      | o => o)
/-- what is walked: where it stands in the store, if it does; the items -/
inductive RsI where
  | ok (src : Option Nat) (ws : List W) (h : Mem) | ex (w : W) (h : Mem) | no
abbrev Ei := Sg → Mem → RsI
def srcP (src : Option Nat) (ws : List W) (h : Mem) : Prop := match src with
  | none => True
  | some n => h[n]? = some (.lst ws)
structure ItOk (T : CTb) (φ : List Addr) (H : Hp) (J : It) (ws : List W) (P : Mem → Prop) : Prop where
  go : ∀ φ2 H2 h2 (i : Nat) w, Step φ H φ2 H2 → RH T φ2 h2 H2 → P h2 → ws[i]? = some w → J.go i H2
  yld : ∀ φ2 H2 h2 (i : Nat) w x H', Step φ H φ2 H2 → RH T φ2 h2 H2 → P h2 → ws[i]? = some w → J.yld i H2 x H' → H' = H2 ∧ RW T φ2 H2 w x
  stop : ∀ φ2 H2 h2, Step φ H φ2 H2 → RH T φ2 h2 H2 → P h2 → J.stop ws.length H2
theorem ItOk.step {T : CTb} {φ φ' : List Addr} {H H' : Hp} {J : It} {ws : List W} {P : Mem → Prop} (k : ItOk T φ H J ws P) (s : Step φ H φ' H') : ItOk T φ' H' J ws P :=
  ⟨fun a b c i w t => k.go a b c i w (s.trans t), fun a b c i w x y t => k.yld a b c i w x y (s.trans t), fun a b c t => k.stop a b c (s.trans t)⟩
def tHI (Z : Zc) (f : Ei) : TI := fun σ H R => ∃ φ h ρ, Here Z σ H φ h ρ ∧ match f ρ h with
  | .ok src ws h' => ∀ φ' H' J, Step φ H φ' H' → RH Z.T φ' h' H' → srcP src ws h' → ItOk Z.T φ' H' J ws (srcP src ws) → R J H'
  | .ex w h' => Z.xw w h'
  | .no => False
def xFor (f : Ei) (G : Tg) (B : Sm) : Sm := fun ρ h => match f ρ h with
  | .ok none ws h' => xLoop G B ws ρ h'
  | .ex w h' => .ex w h'
  | _ => .no
section
variable {X : Cx} {Z : Zc} {f g k : Ex} {fa : Exs} {e a b c : Expr} {es : List Expr} {pos : Pos} {F G B : Sm} {st : Stmt} {rest sts body : List Stmt} {fi : Ei} {tg iter : Expr}
theorem _root_.L2.PS.imp {t t' : TS} (h : PS X st t) (i : ∀ D σ H, t' D σ H → t D σ H) : PS X st t' := fun pins s σ H D I q => h pins s σ H D I (i D σ H q)
theorem _root_.L2.PSs.imp {t t' : TS} (h : PSs X sts t) (i : ∀ D σ H, t' D σ H → t D σ H) : PSs X sts t' := fun pins s σ H D I q => h pins s σ H D I (i D σ H q)
theorem _root_.L2.PI.imp {t t' : TI} (h : PI X tg iter t) (i : ∀ σ H R, t' σ H R → t σ H R) : PI X tg iter t' := fun pins s σ H R I q => h pins s σ H R I (i σ H R q)
theorem Here.nx {σ : St} {H : Hp} {φ : List Addr} {h : Mem} {ρ : Sg} {n : St → Hp → Prop} (x : Here Z σ H φ h ρ) (q : Ks Z φ H n ρ h) : n σ H := q φ H σ (Step.refl _ _) x.rh x.rs x.sg
theorem pssh_nil : PSs X [] (tHS Z xNext) := pss_nil.imp fun D σ H ⟨φ, h, ρ, x, q⟩ => x.nx q
theorem seq_ok {D : Ends} {σ : St} {H : Hp} (h : tHS Z (xSeq F G) D σ H) : tSeq (tHS Z F) (tHS Z G) D σ H := by
  obtain ⟨φ, h, ρ, x, q⟩ := h
  refine ⟨φ, h, ρ, x, ?_⟩
  unfold xSeq at q
  cases e : F ρ h with
  | nx ρ' h' =>
    rw [e] at q
    intro φ1 H1 σ1 s1 r1 rs1 g1
    exact ⟨φ1, h', ρ', ⟨g1, x.st.trans s1, r1, rs1⟩, post_step q s1⟩
  | rt w h' => rw [e] at q; exact q
  | bk ρ' h' => rw [e] at q; exact q
  | ct ρ' h' => rw [e] at q; exact q
  | ex w h' => rw [e] at q; exact q
  | no => rw [e] at q; exact q
theorem pssh_cons (h1 : PS X st (tHS Z F)) (h2 : PSs X rest (tHS Z G)) : PSs X (st :: rest) (tHS Z (xSeq F G)) := (pss_cons h1 h2).imp fun D σ H q => seq_ok q
theorem pssh_one (h1 : PS X st (tHS Z F)) : PSs X [st] (tHS Z F) := pss_one h1
theorem psh_ret (he : PE X e (tH Z f)) : PS X (.Return (some e) pos) (tHS Z (xRet f)) := (ps_ret he).imp fun D σ H ⟨φ, h, ρ, x, q⟩ => ⟨φ, h, ρ, x, by
  unfold xRet at q
  cases e : f ρ h with
  | ok w h' => rw [e] at q; exact q
  | ex w h' => rw [e] at q; exact q
  | no => rw [e] at q; exact q⟩
def xRetN : Sm := fun _ h => .rt .non h
theorem psh_expr (he : PE X e (tH Z f)) (hs : swapsWith e none pos.line X.env = pure false := by rfl) : PS X (.Expr e pos) (tHS Z (xDrop f)) := (ps_expr he hs).imp fun D σ H ⟨φ, h, ρ, x, q⟩ => ⟨φ, h, ρ, x, by
  unfold xDrop at q
  cases e : f ρ h with
  | ok w h' => rw [e] at q; exact fun φ1 H1 v s1 r1 _ => q φ1 H1 σ s1 r1 (x.rs.step s1) x.sg
  | ex w h' => rw [e] at q; exact q
  | no => rw [e] at q; exact q⟩
theorem psh_if (hc : PT X c (tHT Z f)) (ha : PSs X sts (tHS Z F)) (hb : PSs X rest (tHS Z G)) : PS X (.If c sts rest pos) (tHS Z (xIfS f F G)) := (ps_if hc ha hb).imp fun D σ H ⟨φ, h, ρ, x, q⟩ => ⟨φ, h, ρ, x, by
  unfold xIfS at q
  cases e : f ρ h with
  | ok w h' =>
    rw [e] at q
    cases w with
    | bl b =>
      cases b with
      | true => exact ⟨true, rfl, fun φ1 H1 s1 r1 => iteT ⟨φ1, h', ρ, x.step s1 r1, post_step q s1⟩⟩
      | false => exact ⟨false, rfl, fun φ1 H1 s1 r1 => iteF ⟨φ1, h', ρ, x.step s1 r1, post_step q s1⟩⟩
    | _ => exact q.elim
  | ex w h' => rw [e] at q; exact q
  | no => rw [e] at q; exact q⟩
theorem asg_ok {gg : TG} {Gt : Tg} (hw : TgW Z gg Gt) {D : Ends} {σ : St} {H : Hp} (h : tHS Z (xAsg Gt f) D σ H) : tAsg (tH Z f) gg D σ H := by
  obtain ⟨φ, h, ρ, x, q⟩ := h
  refine ⟨φ, h, ρ, x, ?_⟩
  unfold xAsg at q
  cases e : f ρ h with
  | ok w h' =>
    rw [e] at q
    intro φ1 H1 v s1 r1 rw1
    simp only at q
    cases e2 : Gt w ρ with
    | none => rw [e2] at q; exact q.elim
    | some ρ' =>
      rw [e2] at q
      exact hw σ H1 φ1 h' ρ w v ρ' _ (x.step s1 r1) rw1 e2 fun σ' rs g => q φ1 H1 σ' s1 r1 rs g
  | ex w h' => rw [e] at q; exact q
  | no => rw [e] at q; exact q
theorem psh_set {i : Nat} {x : Str} {pos' : Pos} (hN : X.N.Nodup) (hi : X.N[i]? = some x) (hx : Loc X.env.scope x) (hsg : ∀ σ v, Z.sg σ → Z.sg (σ.set i (some v))) (he : PE X e (tH Z f)) (hs : swapsWith e (some (.Name x pos')) pos.line X.env = pure false := by rfl)
    (hf : X.fn x = true ∨ X.env.scope.names.lookup x = some .local := by first | exact .inl rfl | exact .inr rfl | assumption) : PS X (.Assign [.Name x pos'] e pos) (tHS Z (xAsg (gN i) f)) := (ps_set hN hi hx he hs hf).imp fun D σ H q => asg_ok (tg_name hsg) q
/-- for, whatever is walked -/
theorem loop_ok {gg : TG} {Gt : Tg} (hw : TgW Z gg Gt) {J : It} {D : Ends} {ws : List W} {φ1 : List Addr} {H1 : Hp} {h1 : Mem} {σ : St} {ρ : Sg} (x : Here Z σ H1 φ1 h1 ρ) (it : ItOk Z.T φ1 H1 J ws fun _ => True) (q : (xLoop Gt B ws ρ h1).post Z φ1 H1 D) :
    ∃ Wd : Nat → Nat → St → Hp → Prop, (∃ m, Wd 0 m σ H1) ∧ ∀ i m σ H, Wd i m σ H → (J.stop i H ∧ D.nx σ H) ∨ (J.go i H ∧ ∃ N : St → Hp → Prop, (∀ σ' H', N σ' H' → ∃ m', m' < m ∧ Wd (i + 1) m' σ' H') ∧
      ∀ v H', J.yld i H v H' → gg v σ H' fun σ2 H2 => tHS Z B { D with nx := N, ct := N, bk := D.nx } σ2 H2) := by
  refine ⟨fun i m σ H => m = ws.length - i ∧ i ≤ ws.length ∧ ∃ φ h ρ, Step φ1 H1 φ H ∧ Here Z σ H φ h ρ ∧ (xLoop Gt B (ws.drop i) ρ h).post Z φ H D, ⟨ws.length, by simp, Nat.zero_le _, φ1, h1, ρ, Step.refl _ _, x, q⟩, ?_⟩
  rintro i m σ H ⟨rfl, hi, φ, h, ρ, s, y, q⟩
  by_cases hlt : i < ws.length
  · have ed : ws.drop i = ws[i] :: ws.drop (i + 1) := List.drop_eq_getElem_cons hlt
    have ei : ws[i]? = some ws[i] := by simp [hlt]
    refine .inr ⟨it.go φ H h i _ s y.rh trivial ei, fun σ' H' => i + 1 ≤ ws.length ∧ ∃ φ h ρ, Step φ1 H1 φ H' ∧ Here Z σ' H' φ h ρ ∧ (xLoop Gt B (ws.drop (i + 1)) ρ h).post Z φ H' D, fun σ' H' p => ⟨ws.length - (i + 1), by omega, rfl, p⟩, fun v H' yl => ?_⟩
    obtain ⟨rfl, rw1⟩ := it.yld φ H h i _ v H' s y.rh trivial ei yl
    rw [ed] at q
    unfold xLoop at q
    cases e2 : Gt ws[i] ρ with
    | none => rw [e2] at q; exact q.elim
    | some ρ' =>
      rw [e2] at q
      simp only at q
      refine hw σ H' φ h ρ _ v ρ' _ y rw1 e2 fun σ' rs g => ⟨φ, h, ρ', ⟨g, y.st, y.rh, rs⟩, ?_⟩
      cases e3 : B ρ' h with
      | nx ρ2 h2 =>
        rw [e3] at q
        exact fun φ2 H2 σ2 s2 r2 rs2 g2 => ⟨hlt, φ2, h2, ρ2, s.trans s2, ⟨g2, y.st.trans s2, r2, rs2⟩, post_step q s2⟩
      | ct ρ2 h2 =>
        rw [e3] at q
        exact fun φ2 H2 σ2 s2 r2 rs2 g2 => ⟨hlt, φ2, h2, ρ2, s.trans s2, ⟨g2, y.st.trans s2, r2, rs2⟩, post_step q s2⟩
      | bk ρ2 h2 => rw [e3] at q; exact q
      | rt w2 h2 => rw [e3] at q; exact q
      | ex w2 h2 => rw [e3] at q; exact q
      | no => rw [e3] at q; exact q.elim
  · have e : i = ws.length := by omega
    subst e
    rw [List.drop_length] at q
    exact .inl ⟨it.stop φ H h s y.rh trivial, y.nx q⟩
theorem for_ok {gg : TG} {Gt : Tg} (hw : TgW Z gg Gt) {D : Ends} {σ : St} {H : Hp} (h : tHS Z (xFor fi Gt B) D σ H) : tFor (tHI Z fi) gg (tHS Z B) D σ H := by
  obtain ⟨φ, h, ρ, x, q⟩ := h
  refine ⟨φ, h, ρ, x, ?_⟩
  unfold xFor at q
  cases e : fi ρ h with
  | no => rw [e] at q; exact q.elim
  | ex w h' => rw [e] at q; exact q
  | ok src ws h' =>
    rw [e] at q
    cases src with
    | some n => exact q.elim
    | none => exact fun φ1 H1 J s1 r1 _ it => loop_ok hw (x.step s1 r1) it (post_step q s1)
theorem psh_for {gg : TG} {Gt : Tg} (hw : TgW Z gg Gt) (hp : PassesOwn (model X.prog X.w) X.A X.env X.xe) (hc : X.calm = true) (hi : PI X tg iter (tHI Z fi)) (hg : PG X tg gg) (hb : PSs X body (tHS Z B)) (hs : ∀ x, foldedSetIterable iter X.env x = pure x := by intro _; rfl) :
    PS X (.For tg iter body [] pos) (tHS Z (xFor fi Gt B)) := (ps_for hp hc hi hg hb hs).imp fun D σ H q => for_ok hw q
/-! what is walked -/
def xIl (f : Ex) : Ei := fun ρ h => match f ρ h with
  | .ok (.tl ws) h' => .ok none ws h'
  | .ok (.ref n) h' => (match h'[n]? with
    | some (.lst ws) => .ok (some n) ws h'
    | _ => .no)
  | .ex w h' => .ex w h'
  | _ => .no
theorem rws_get {T : CTb} {φ : List Addr} {H : Hp} : ∀ {ws : List W} {vs : List V} {i : Nat} {w : W}, RWs T φ H ws vs → ws[i]? = some w → ∃ v, vs[i]? = some v ∧ RW T φ H w v
  | [], _, _, _, _, e => by simp at e
  | w :: ws, vs, i, u, h, e => by
    unfold RWs at h
    obtain ⟨v, r, rfl, a, b⟩ := h
    cases i with
    | zero => simp at e; subst e; exact ⟨v, by simp, a⟩
    | succ i =>
      obtain ⟨x, p, q⟩ := rws_get (i := i) b (by simpa using e)
      exact ⟨x, by simpa using p, q⟩
theorem phi_list (h : PE X iter (tH Z f)) : PI X tg iter (tHI Z (xIl f)) := by
  intro pins s σ H R I q
  have base : ∀ b o, X.base.get? b = some o → H b = none := fun b o e => (I.bs b o e).2
  refine pi_list h pins s σ H R I ?_
  obtain ⟨φ, m, ρ, x, q⟩ := q
  refine ⟨φ, m, ρ, x, ?_⟩
  unfold xIl at q
  cases e : f ρ m with
  | no => rw [e] at q; exact q.elim
  | ex w h' => rw [e] at q; exact q
  | ok w h' =>
    rw [e] at q
    intro φ1 H1 v s1 r1 rw1
    cases w with
    | tl ws =>
      unfold RW at rw1
      obtain ⟨p, vs, rfl, np, hp, rws⟩ := rw1
      refine ⟨p, rfl, ⟨vs, lstAt_sq hp⟩, q φ1 H1 _ s1 r1 trivial ?_⟩
      obtain ⟨o, ho, ko⟩ := lstAt_cases hp
      refine ⟨fun φ2 H2 h2 i w s2 r2 _ ei => ?_, fun φ2 H2 h2 i w y H' s2 r2 _ ei yl => ?_, fun φ2 H2 h2 s2 r2 _ => ?_⟩
      · obtain ⟨v, ev, _⟩ := rws_get rws ei
        exact ⟨vs, v, lstAt_sq (ko H2 (s2.keep _ _ ho np)), ev⟩
      · obtain ⟨v, ev, rv⟩ := rws_get rws ei
        obtain ⟨rfl, z⟩ := yl
        have := z vs (lstAt_sq (ko _ (s2.keep _ _ ho np)))
        rw [ev] at this; cases this
        exact ⟨rfl, rv.step s2⟩
      · exact ⟨vs, lstAt_sq (ko H2 (s2.keep _ _ ho np)), by rw [rws.length]; exact Nat.le_refl _⟩
    | ref n =>
      simp only at q
      cases e2 : h'[n]? with
      | none => rw [e2] at q; exact q.elim
      | some o =>
        rw [e2] at q
        cases o with
        | lst ws =>
          simp only at q
          unfold RW at rw1
          obtain ⟨p, hp, rfl⟩ := rw1
          have rd : ∀ φ2 H2 h2, Step φ1 H1 φ2 H2 → RH Z.T φ2 h2 H2 → h2[n]? = some (.lst ws) → ∃ vs, H2 p = some (.lst vs) ∧ RWs Z.T φ2 H2 ws vs := fun φ2 H2 h2 s2 r2 e3 => by
            obtain ⟨ho, y1, y2⟩ := r2.obj n _ p e3 (s2.get hp)
            obtain ⟨vs, rfl, y3⟩ := y2
            exact ⟨vs, y1, y3⟩
          obtain ⟨vs, hv, rws⟩ := rd φ1 H1 h' (Step.refl _ _) r1 e2
          refine ⟨p, rfl, ⟨vs, lstAt_sq (lstAt_of hv)⟩, q φ1 H1 _ s1 r1 e2 ⟨fun φ2 H2 h2 i w s2 r2 e3 ei => ?_, fun φ2 H2 h2 i w y H' s2 r2 e3 ei yl => ?_, fun φ2 H2 h2 s2 r2 e3 => ?_⟩⟩
          · obtain ⟨vs2, hv2, rws2⟩ := rd φ2 H2 h2 s2 r2 e3
            obtain ⟨v, ev, _⟩ := rws_get rws2 ei
            exact ⟨vs2, v, lstAt_sq (lstAt_of hv2), ev⟩
          · obtain ⟨vs2, hv2, rws2⟩ := rd φ2 H2 h2 s2 r2 e3
            obtain ⟨v, ev, rv⟩ := rws_get rws2 ei
            obtain ⟨rfl, z⟩ := yl
            have := z vs2 (lstAt_sq (lstAt_of hv2))
            rw [ev] at this; cases this
            exact ⟨rfl, rv⟩
          · obtain ⟨vs2, hv2, rws2⟩ := rd φ2 H2 h2 s2 r2 e3
            exact ⟨vs2, lstAt_sq (lstAt_of hv2), by rw [rws2.length]; exact Nat.le_refl _⟩
        | _ => exact q.elim
    | _ => exact q.elim
def xIt (f : Ex) : Ei := fun ρ h => match f ρ h with
  | .ok (.tup ws) h' => .ok none ws h'
  | .ex w h' => .ex w h'
  | _ => .no
/-- lo, lo + 1, .., n of them -/
def rngW (lo : Int) (n : Nat) : List W := (List.range n).map fun (i : Nat) => .int (lo + (i : Int))
theorem rngW_get {lo : Int} {n i : Nat} {w : W} (h : (rngW lo n)[i]? = some w) : i < n ∧ w = .int (lo + i) := by
  unfold rngW at h
  rw [List.getElem?_map] at h
  by_cases hi : i < n
  · rw [List.getElem?_range hi] at h
    simp at h
    exact ⟨hi, h.symm⟩
  · rw [List.getElem?_eq_none (by simpa using hi)] at h
    cases h
theorem it_rng {T : CTb} {φ : List Addr} {H : Hp} {lo : Int} {n : Nat} {P : Mem → Prop} : ItOk T φ H (Itr lo n) (rngW lo n) P :=
  ⟨fun φ2 H2 h2 i w s2 r2 _ ei => (rngW_get ei).1, fun φ2 H2 h2 i w y H' s2 r2 _ ei yl => ⟨yl.1, by rw [(rngW_get ei).2, yl.2]; unfold RW; rfl⟩, fun φ2 H2 h2 s2 r2 _ => by show n ≤ _; simp [rngW]⟩
def xIr1 (f : Ex) : Ei := fun ρ h => match f ρ h with
  | .ok (.int j) h' => cond (decide (-(2 ^ 62) ≤ j) && decide (j < 2 ^ 62)) (.ok none (rngW 0 j.toNat) h') .no
  | .ex w h' => .ex w h'
  | _ => .no
theorem int_rw {T : CTb} {φ : List Addr} {H : Hp} {v : V} {c : Int} (h : RW T φ H (.int c) v) : v = .int c := by unfold RW at h; exact h
theorem str_rw {T : CTb} {φ : List Addr} {H : Hp} {v : V} {c : Str} (h : RW T φ H (.str c) v) : v = .str c := by unfold RW at h; exact h
theorem phi_range1 {p : Pos} (hg : Gl X "range") (hm : X.mg "range" = none) (ha : PE X a (tH Z f)) (hs : starEach [a] X.env = [(false, eval a X.env)] := by rfl) : PI X tg (.Call (.Name "range" p) [a] [] pos) (tHI Z (xIr1 f)) :=
  (pi_range1 hg hm (pa_cons ha pa_nil hs) hs).imp fun σ H R ⟨φ, m, ρ, x, q⟩ => ⟨φ, m, ρ, x, by
    unfold xIr1 at q
    cases e : f ρ m with
    | no => rw [e] at q; exact q.elim
    | ex w h' => rw [e] at q; exact q
    | ok w h' =>
      rw [e] at q
      intro φ1 H1 v s1 r1 rw1
      cases w with
      | int j =>
        simp only at q
        cases hj : (decide (-(2 ^ 62) ≤ j) && decide (j < 2 ^ 62)) with
        | true =>
          rw [hj] at q
          simp only [Bool.and_eq_true, decide_eq_true_eq] at hj
          rw [int_rw rw1]
          exact ⟨j, rfl, hj.1, hj.2, q φ1 H1 _ s1 r1 trivial it_rng⟩
        | false =>
          rw [hj] at q
          exact q.elim
      | _ => exact q.elim⟩
end
end M

set_option Elab.async false
set_option linter.all false
set_option maxRecDepth 100000
set_option maxHeartbeats 1000000
namespace M
open PySem PySem.Spec PyProof.Rows L2
/-! ## MD: what is forgotten; blocks; defs -/
mutual
/-- all places of the store in it are below k -/
def ltW (k : Nat) : W → Bool
  | .ref n => decide (n < k)
  | .tup ws => ltWs k ws
  | .tl ws => ltWs k ws
  | .td _ ws => ltWs k ws
  | .ti _ _ ws => ltWs k ws
  | .exc _ _ ws => ltWs k ws
  | .non => true
  | .bl _ => true
  | .int _ => true
  | .str _ => true
  | .ty _ => true
  | .cls _ => true
def ltWs (k : Nat) : List W → Bool
  | [] => true
  | w :: ws => ltW k w && ltWs k ws
end
def ltO (k : Nat) : O → Bool
  | .lst ws => ltWs k ws
  | .dic kvs => ltWs k (kvs.map (·.2))
  | .ins _ fs => ltWs k (fs.map (·.2))
section
variable {T : CTb} {φ φ' : List Addr} {H H' : Hp}
mutual
theorem RW.lt : ∀ {w : W} {v : V}, RW T φ H w v → ltW φ.length w = true
  | .non, v, h => by unfold ltW; rfl
  | .bl b, v, h => by unfold ltW; rfl
  | .int i, v, h => by unfold ltW; rfl
  | .str x, v, h => by unfold ltW; rfl
  | .ty n, v, h => by unfold ltW; rfl
  | .cls c, v, h => by unfold ltW; rfl
  | .ref n, v, h => by
    unfold RW at h; unfold ltW
    obtain ⟨a, e, q⟩ := h
    exact decide_eq_true (List.getElem?_eq_some_iff.mp e).1
  | .tup ws, v, h => by
    unfold RW at h; unfold ltW
    obtain ⟨p, vs, e, n, q, r⟩ := h
    exact RWs.lt r
  | .tl ws, v, h => by
    unfold RW at h; unfold ltW
    obtain ⟨p, vs, e, n, q, r⟩ := h
    exact RWs.lt r
  | .td ks ws, v, h => by
    unfold RW at h; unfold ltW
    obtain ⟨p, vs, e, n, q, l, r⟩ := h
    exact RWs.lt r
  | .ti c fs ws, v, h => by
    unfold RW at h; unfold ltW
    obtain ⟨p, C, dx, vs, e, n, c, q, l, r⟩ := h
    exact RWs.lt r
  | .exc c fs ws, v, h => by
    unfold RW at h; unfold ltW
    obtain ⟨e, C, d, vs, q, n, c, x, l, m, r⟩ := h
    exact RWs.lt r
theorem RWs.lt : ∀ {ws : List W} {vs : List V}, RWs T φ H ws vs → ltWs φ.length ws = true
  | [], vs, h => by unfold ltWs; rfl
  | w :: ws, vs, h => by
    unfold RWs at h; unfold ltWs
    obtain ⟨v, r, e, a, b⟩ := h
    rw [RW.lt a, RWs.lt b]; rfl
end
mutual
theorem RW.narrow (pre : φ <+: φ') : ∀ {w : W} {v : V}, ltW φ.length w = true → RW T φ' H w v → RW T φ H w v
  | .non, v, l, h => by unfold RW at h ⊢; exact h
  | .bl b, v, l, h => by unfold RW at h ⊢; exact h
  | .int i, v, l, h => by unfold RW at h ⊢; exact h
  | .str x, v, l, h => by unfold RW at h ⊢; exact h
  | .ty n, v, l, h => by unfold RW at h ⊢; exact h
  | .cls c, v, l, h => by unfold RW at h ⊢; exact h
  | .ref n, v, l, h => by
    unfold RW at h ⊢; unfold ltW at l
    obtain ⟨a, e, q⟩ := h
    refine ⟨a, ?_, q⟩
    obtain ⟨t, rfl⟩ := pre
    rw [List.getElem?_append_left (of_decide_eq_true l)] at e
    exact e
  | .tup ws, v, l, h => by
    unfold RW at h ⊢; unfold ltW at l
    obtain ⟨p, vs, e, n, q, r⟩ := h
    exact ⟨p, vs, e, fun z => n (pre.subset z), q, RWs.narrow pre l r⟩
  | .tl ws, v, l, h => by
    unfold RW at h ⊢; unfold ltW at l
    obtain ⟨p, vs, e, n, q, r⟩ := h
    exact ⟨p, vs, e, fun z => n (pre.subset z), q, RWs.narrow pre l r⟩
  | .td ks ws, v, l, h => by
    unfold RW at h ⊢; unfold ltW at l
    obtain ⟨p, vs, e, n, q, g, r⟩ := h
    exact ⟨p, vs, e, fun z => n (pre.subset z), q, g, RWs.narrow pre l r⟩
  | .ti c fs ws, v, l, h => by
    unfold RW at h ⊢; unfold ltW at l
    obtain ⟨p, C, dx, vs, e, n, c, q, g, r⟩ := h
    exact ⟨p, C, dx, vs, e, fun z => n (pre.subset z), c, q, g, RWs.narrow pre l r⟩
  | .exc c fs ws, v, l, h => by
    unfold RW at h ⊢; unfold ltW at l
    obtain ⟨e, C, d, vs, q, n, c, x, g, m, r⟩ := h
    refine ⟨e, C, d, vs, q, fun z => n (pre.subset z), c, x, g, ?_, RWs.narrow pre l r⟩
    cases d with
    | none => exact m
    | some da => exact ⟨fun z => m.1 (pre.subset z), m.2⟩
theorem RWs.narrow (pre : φ <+: φ') : ∀ {ws : List W} {vs : List V}, ltWs φ.length ws = true → RWs T φ' H ws vs → RWs T φ H ws vs
  | [], vs, l, h => by unfold RWs at h ⊢; exact h
  | w :: ws, vs, l, h => by
    unfold RWs at h ⊢; unfold ltWs at l
    rw [Bool.and_eq_true] at l
    obtain ⟨v, r, e, a, b⟩ := h
    exact ⟨v, r, e, RW.narrow pre l.1 a, RWs.narrow pre l.2 b⟩
end
theorem rp_lt {κ : Type} {ps : List (κ × W)} {qs : List (κ × V)} (h : RP T φ H ps qs) : ltWs φ.length (ps.map (·.2)) = true := by
  induction h with
  | nil => unfold ltWs; rfl
  | cons a _ ih => rw [List.map_cons]; unfold ltWs; rw [RW.lt a.2, ih]; rfl
theorem rp_narrow {κ : Type} (pre : φ <+: φ') {ps : List (κ × W)} {qs : List (κ × V)} (l : ltWs φ.length (ps.map (·.2)) = true) (h : RP T φ' H ps qs) : RP T φ H ps qs := by
  induction h with
  | nil => exact .nil
  | cons a _ ih =>
    rw [List.map_cons] at l; unfold ltWs at l
    rw [Bool.and_eq_true] at l
    exact .cons ⟨a.1, RW.narrow pre l.1 a.2⟩ (ih l.2)
theorem RO.lt {o : O} {ho : HO} (h : RO T φ H o ho) : ltO φ.length o = true := by
  cases o with
  | lst ws => obtain ⟨vs, e, r⟩ := h; exact RWs.lt r
  | dic kvs => obtain ⟨kv, e, r⟩ := h; exact rp_lt r
  | ins c fs => obtain ⟨C, dx, fv, e, c, r⟩ := h; exact rp_lt r
theorem RO.narrow (pre : φ <+: φ') {o : O} {ho : HO} (l : ltO φ.length o = true) (h : RO T φ' H o ho) : RO T φ H o ho := by
  cases o with
  | lst ws => obtain ⟨vs, e, r⟩ := h; exact ⟨vs, e, RWs.narrow pre l r⟩
  | dic kvs => obtain ⟨kv, e, r⟩ := h; exact ⟨kv, e, rp_narrow pre l r⟩
  | ins c fs => obtain ⟨C, dx, fv, e, c, r⟩ := h; exact ⟨C, dx, fv, e, c, rp_narrow pre l r⟩
/-- all of the store is below its own length -/
def Wf (h : Mem) : Prop := ∀ o ∈ h, ltO h.length o = true
theorem RH.wf {h : Mem} (r : RH T φ h H) : Wf h := fun o m => by
  obtain ⟨n, hn, e⟩ := List.getElem_of_mem m
  obtain ⟨a, ho, _, _, x⟩ := r.at (n := n) (o := o) (by simp [hn, e])
  rw [← r.len]
  exact x.lt
theorem RH.drop {h g : Mem} (r : RH T φ' (h ++ g) H) (w : Wf h) : ∃ φ, φ <+: φ' ∧ φ.length = h.length ∧ RH T φ h H := by
  have hl := r.len
  rw [List.length_append] at hl
  have hk : (φ'.take h.length).length = h.length := by rw [List.length_take]; omega
  refine ⟨φ'.take h.length, List.take_prefix _ _, hk, hk, r.nd.sublist (List.take_sublist _ _), fun n o a e q => ?_⟩
  have hn : n < h.length := (List.getElem?_eq_some_iff.mp e).1
  rw [List.getElem?_take_of_lt hn] at q
  obtain ⟨ho, x, y⟩ := r.obj n o a (by rw [List.getElem?_append_left hn]; exact e) q
  refine ⟨ho, x, y.narrow (List.take_prefix _ _) ?_⟩
  rw [hk]
  exact w o (List.mem_of_getElem? e)
end
/-! blocks -/
def ρC (own : Nat) (ix : List Nat) (ρ : Sg) : Sg := List.replicate own none ++ ix.map fun j => (ρ[j]?).join
def xBlk (G : Tg) (c el : Ex) (ρ0 : Sg) (h : Mem) : List W → List W → Option (List W)
  | [], acc => some acc
  | w :: r, acc => match G w ρ0 with
    | none => none
    | some ρ => (match c ρ (h ++ [.lst acc]) with
      | .ok (.bl true) _ => (match el ρ (h ++ [.lst acc]) with
        | .ok x _ => if ltW h.length x = true then xBlk G c el ρ0 h r (acc ++ [x]) else none
        | _ => none)
      | .ok (.bl false) _ => xBlk G c el ρ0 h r acc
      | _ => none)
def xComp (fi : Ei) (own : Nat) (ix : List Nat) (G : Tg) (c el : Ex) : Ex := fun ρ h => match fi ρ h with
  | .ok _ ws h1 => if ws.length < sizeLine then (match xBlk G c el (ρC own ix ρ) h1 ws [] with
    | some out => .ok (.tl out) h1
    | none => .no) else .no
  | .ex w h1 => .ex w h1
  | .no => .no
/-- nothing of the store is changed -/
class Pu (f : Ex) : Prop where
  pu : ∀ ρ h w h', f ρ h = .ok w h' → h' = h
class PuS (f : Exs) : Prop where
  pu : ∀ ρ h w h', f ρ h = .ok w h' → h' = h
class PuI (f : Ei) : Prop where
  pu : ∀ ρ h s w h', f ρ h = .ok s w h' → h' = h
def Zb (T : CTb) (own : List Str) (ix : List Nat) (σ : St) : Zc := ⟨T, [], fun _ => none, fun σ' => leS (σC own ix σ) σ', fun _ _ => False⟩
theorem step_nil {φ : List Addr} {H : Hp} : Step [] (fun _ => none) φ H := ⟨List.nil_prefix, fun _ _ e => (by cases e), fun _ _ _ => rfl⟩
theorem leS_refl : ∀ (σ : St), leS σ σ
  | [] => trivial
  | none :: r => leS_refl r
  | some x :: r => ⟨rfl, leS_refl r⟩
theorem leS_set : ∀ {σ σ' : St} {i : Nat} {o : Option V}, leS σ σ' → σ[i]? = some none → leS σ (σ'.set i o)
  | [], _, _, _, h, e => by simp at e
  | none :: r, [], _, _, h, _ => h.elim
  | some x :: r, [], _, _, h, _ => h.elim
  | none :: r, y :: s, 0, o, h, _ => h
  | some x :: r, y :: s, 0, o, h, e => by simp at e
  | none :: r, y :: s, i + 1, o, h, e => leS_set (σ := r) (σ' := s) h (by simpa using e)
  | some x :: r, y :: s, i + 1, o, h, e => ⟨h.1, leS_set (σ := r) (σ' := s) h.2 (by simpa using e)⟩
theorem zb_set {T : CTb} {own : List Str} {ix : List Nat} {σ : St} {i : Nat} (hi : i < own.length) : ∀ σ' v, (Zb T own ix σ).sg σ' → (Zb T own ix σ).sg (σ'.set i (some v)) := fun σ' v h => leS_set h (by
  unfold σC
  rw [List.getElem?_append_left (by simpa using hi)]
  simp [hi])
theorem rs_C {T : CTb} {φ : List Addr} {H : Hp} {ρ : Sg} {σ : St} {own : List Str} {ix : List Nat} (r : RS T φ H ρ σ) : RS T φ H (ρC own.length ix ρ) (σC own ix σ) := by
  refine ⟨by simp [ρC, σC], fun i w e => ?_⟩
  unfold ρC at e
  unfold σC
  by_cases hi : i < own.length
  · rw [List.getElem?_append_left (by simpa using hi)] at e
    simp [hi] at e
  · rw [List.getElem?_append_right (by simpa using hi), List.length_replicate, List.getElem?_map] at e
    rw [List.getElem?_append_right (by simpa using hi), List.length_replicate, List.getElem?_map]
    cases q : ix[i - own.length]? with
    | none => rw [q] at e; cases e
    | some j =>
      rw [q] at e
      have e : (ρ[j]?).join = some w := Option.some.inj e
      have e2 : ρ[j]? = some (some w) := by
        cases z : ρ[j]? with
        | none => rw [z] at e; cases e
        | some o => rw [z] at e; exact congrArg some e
      obtain ⟨v, a, b⟩ := r.var j w e2
      exact ⟨v, by rw [Option.map_some, a]; rfl, b⟩
theorem rws_snoc {T : CTb} {φ : List Addr} {H : Hp} {w : W} {v : V} : ∀ {ws : List W} {vs : List V}, RWs T φ H ws vs → RW T φ H w v → RWs T φ H (ws ++ [w]) (vs ++ [v])
  | [], vs, h, q => by unfold RWs at h; subst h; unfold RWs; exact ⟨v, [], rfl, q, by unfold RWs; rfl⟩
  | x :: ws, vs, h, q => by
    unfold RWs at h
    obtain ⟨y, r, rfl, a, b⟩ := h
    rw [List.cons_append, List.cons_append]
    unfold RWs
    exact ⟨y, _, rfl, a, rws_snoc b q⟩
section
variable {X : Cx} {Z : Zc} {f g k : Ex} {fa : Exs} {fi : Ei} {osc : Scope} {N own fr : List Str} {ix : List Nat} {scope : Scope} {tg iter elt : Expr} {ifs : List Expr} {pos : Pos} {e c : Expr}
theorem pcsh_nil : PCs X [] (tHT Z (xC (.bl true))) := fun pins s σ H Q I ⟨φ, h, ρ, x, b, e, k⟩ => by
  cases e
  exact pcs_nil pins s σ H Q I (k φ H (Step.refl _ _) x.rh)
end
end M

set_option Elab.async false
set_option linter.all false
set_option maxRecDepth 100000
set_option maxHeartbeats 1000000
namespace M
open PySem PySem.Spec PyProof.Rows L2
/-! ## ME: defs and calls -/
/-- an exception: its class, its dict -/
def RX (T : CTb) (φ : List Addr) (H : Hp) (w : W) (cv : Value) (da : Option Addr) : Prop := match w with
  | .exc c fs ws => ∃ C vs, T.x c = some C ∧ cv = .ref C ∧ fs.length = ws.length ∧ RWs T φ H ws vs ∧ (match da with
    | some d => d ∉ φ ∧ H d = some (.xd (fs.zip vs))
    | none => fs = [])
  | _ => False
abbrev Fm := List W → Mem → Res
def spH (T : CTb) (F : Fm) : Sp := fun vs H Q E => ∃ φ h ws, RH T φ h H ∧ RWs T φ H ws vs ∧ (F ws h).post (Kv T φ H Q) (fun w h' => ∀ φ' H' cv da, Step φ H φ' H' → RH T φ' h' H' → RX T φ' H' w cv da → E cv da H')
def startW (n : Nat) (ws : List W) : Sg := ws.map some ++ List.replicate (n - ws.length) none
def Out.res : Out → Res
  | .rt w h => .ok w h
  | .nx _ h => .ok .non h
  | .ex w h => .ex w h
  | _ => .no
def runB (n : Nat) (B : Sm) (ws : List W) (h : Mem) : Res := (B (startW n ws) h).res
/-- the first is what is told of the second: what nobody reaches may be forgotten -/
def Fits (k : Nat) (r r' : Res) : Prop := match r, r' with
  | .ok w h, .ok w' h' => ∀ T φ' H' v, RH T φ' h' H' → RW T φ' H' w' v → ∃ φ1, φ1 <+: φ' ∧ k ≤ φ1.length ∧ RH T φ1 h H' ∧ RW T φ1 H' w v
  | .ex w h, .ex w' h' => ∀ T φ' H' cv da, RH T φ' h' H' → RX T φ' H' w' cv da → ∃ φ1, φ1 <+: φ' ∧ k ≤ φ1.length ∧ RH T φ1 h H' ∧ RX T φ1 H' w cv da
  | .no, _ => True
  | _, _ => False
theorem fits_ok {k : Nat} {w : W} {h : Mem} (hk : k ≤ h.length) : Fits k (.ok w h) (.ok w h) := fun T φ' H' v r x => ⟨φ', List.prefix_refl _, by rw [r.len]; exact hk, r, x⟩
theorem fits_is {k : Nat} {w : W} {h : Mem} {r : Res} (e : r = .ok w h) (hk : k ≤ h.length) : Fits k (.ok w h) r := by rw [e]; exact fits_ok hk
theorem fits_ex {k : Nat} {w : W} {h : Mem} (hk : k ≤ h.length) : Fits k (.ex w h) (.ex w h) := fun T φ' H' cv da r x => ⟨φ', List.prefix_refl _, by rw [r.len]; exact hk, r, x⟩
theorem fits_drop {k : Nat} {w : W} {h g : Mem} (hk : k ≤ h.length) (wf : Wf h) (lt : ltW h.length w = true) : Fits k (.ok w h) (.ok w (h ++ g)) := fun T φ' H' v r x => by
  obtain ⟨φ1, p1, l1, r1⟩ := r.drop wf
  exact ⟨φ1, p1, by rw [l1]; exact hk, r1, x.narrow p1 (by rw [l1]; exact lt)⟩
def Zf (T : CTb) (φ : List Addr) (H : Hp) : Zc := ⟨T, φ, H, fun _ => True, fun _ _ => False⟩
theorem rs_start {T : CTb} {φ : List Addr} {H : Hp} {ws : List W} {vs : List V} {N : List Str} (r : RWs T φ H ws vs) : RS T φ H (startW N.length ws) (L2.start N vs) := by
  have hl := r.length
  refine ⟨by simp [startW, L2.start, hl], fun i w e => ?_⟩
  unfold startW at e
  unfold L2.start
  by_cases hi : i < ws.length
  · rw [List.getElem?_append_left (by simpa using hi), List.getElem?_map] at e
    cases q : ws[i]? with
    | none => rw [q] at e; cases e
    | some u =>
      rw [q] at e
      cases e
      obtain ⟨v, a, b⟩ := rws_get r q
      exact ⟨v, by rw [List.getElem?_append_left (by simpa [← hl] using hi), List.getElem?_map, a]; rfl, b⟩
  · rw [List.getElem?_append_right (by simpa using hi), List.getElem?_replicate] at e
    split at e <;> cases e
theorem step_fits {φ φ' φ1 : List Addr} {H H' : Hp} (s : Step φ H φ' H') (p : φ1 <+: φ') (l : φ.length ≤ φ1.length) : Step φ H φ1 H' :=
  ⟨List.prefix_of_prefix_length_le s.pre p l, s.keep, fun a m n => s.new a (p.subset m) n⟩
/-- a body's end, told as the def's -/
theorem body_ok {T : CTb} {φ : List Addr} {H : Hp} {h : Mem} {o : Out} {r : Res} {Q : VK} {E : W → Mem → Prop} (hl : φ.length = h.length) (ft : Fits h.length r o.res) (q : r.post (Kv T φ H Q) E) (hE : ∀ w m w' m', r = .ex w m → o = .ex w' m' → False) :
    o.post (Zf T φ H) φ H { nx := fun _ H' => Q .non H', rt := Q } := by
  cases r with
  | no => exact q.elim
  | ex w m =>
    cases o with
    | ex w' m' => exact (hE _ _ _ _ rfl rfl).elim
    | _ => exact ft.elim
  | ok w m =>
    cases o with
    | rt w' m' =>
      intro φ' H' v s r x
      obtain ⟨φ1, p1, l1, r1, x1⟩ := ft T φ' H' v r x
      exact q φ1 H' v (step_fits s p1 (by rw [hl]; exact l1)) r1 x1
    | nx ρ' m' =>
      intro φ' H' σ' s r rs _
      obtain ⟨φ1, p1, l1, r1, x1⟩ := ft T φ' H' .non r (by unfold RW; rfl)
      exact q φ1 H' .non (step_fits s p1 (by rw [hl]; exact l1)) r1 x1
    | _ => exact ft.elim
section
variable {P : Program} {w : World} {K : PySem.W.Frag} {mg : Str → Option Value} {base : Heap} {T : CTb}
/-- what a def's body must show -/
def Told (n m : Nat) (B : Sm) (F : Fm) : Prop := ∀ ws h, Wf h → ltWs h.length ws = true → F ws h = .no ∨ (ws.length = n ∧ Fits h.length (F ws h) (runB m B ws h))
theorem fun0 {x : Str} {st : Stmt} {N ps : List Str} {k : Nat} {F : Fm} {f : Addr} {fd : FuncData} {B : Sm} (R : Fun K x x st f fd) (S : FnScope N ps (defScope st))
    (hB : ∀ (cdv : Value) (A : Around) (outer : List Env) (s : Shared) (H : Hp) (E : XK) (φ0 : List Addr) (H0 : Hp), Room k (A.deeper (envOfC x (defScope st) s.heap.objs.size f cdv)) → PSs (cxOf CX0 P w K mg base N x (defScope st) f cdv A outer s H E).nox (defBody st) (tHS (Zf T φ0 H0) B))
    (hx : ∀ ws h w m, F ws h ≠ .ex w m) (hF : Told ps.length N.length B F) : FnOk P w K mg base CX0 (k + 1) f fd ps (spH T F) := by
  refine R.ok S (fun vs H Q E h => ?_) (fun cdv A outer s H vs Q E hr h => ?_)
  · obtain ⟨φ, h, ws, r, rv, q⟩ := h
    rcases hF ws h r.wf (by rw [← r.len]; exact rv.lt) with e | ⟨e, _⟩
    · rw [e] at q; exact q.elim
    · rw [← rv.length]; exact e
  · obtain ⟨φ, h, ws, r, rv, q⟩ := h
    refine ⟨_, hB cdv A outer s H E φ H hr, φ, h, startW N.length ws, ⟨trivial, Step.refl _ _, r, rs_start rv⟩, ?_⟩
    rcases hF ws h r.wf (by rw [← r.len]; exact rv.lt) with e | ⟨e, ft⟩
    · rw [e] at q; exact q.elim
    · exact body_ok r.len ft q fun _ _ _ _ e _ => hx _ _ _ _ e
theorem def0 {x : Str} {st : Stmt} {N ps : List Str} {k : Nat} {F : Fm} {B : Sm} (R : DefAt K mg x st) (S : FnScope N ps (defScope st)) (hb : BindsAll x x st ps)
    (hB : ∀ (f : Addr) (cdv : Value) (A : Around) (outer : List Env) (s : Shared) (H : Hp) (E : XK) (φ0 : List Addr) (H0 : Hp), Room k (A.deeper (envOfC x (defScope st) s.heap.objs.size f cdv)) → PSs (cxOf CX0 P w K mg base N x (defScope st) f cdv A outer s H E).nox (defBody st) (tHS (Zf T φ0 H0) B))
    (hx : ∀ ws h w m, F ws h ≠ .ex w m) (hF : Told ps.length N.length B F) : FnAt P w K mg base CX0 (k + 1) x (spH T F) := by
  obtain ⟨f, fd, R, hm⟩ := R
  exact ⟨f, fd, ps, fun0 R S (hB f) hx hF, hm, R.kp, R.binds hb⟩
end
def xCall0 (F : Fm) (f : Exs) : Ex := fun ρ h => match f ρ h with
  | .ok ws h1 => (match F ws h1 with
    | .ok w h2 => .ok w h2
    | _ => .no)
  | .ex w h1 => .ex w h1
  | .no => .no
section
variable {X : Cx} {Z : Zc} {fa : Exs} {k j : Nat} {F : Fm} {x : Str} {p pos : Pos} {e : Expr} {es : List Expr}
theorem call0_ok {E : XK} {σ : St} {H : Hp} {Q : VK} (q : tH Z (xCall0 F fa) σ H Q) : tCall (spH Z.T F) [] E (tHA Z fa) σ H Q := by
  obtain ⟨φ, h, ρ, x, q⟩ := q
  refine ⟨φ, h, ρ, x, ?_⟩
  unfold xCall0 at q
  cases e : fa ρ h with
  | no => rw [e] at q; exact q.elim
  | ex w h' => rw [e] at q; exact q
  | ok ws h1 =>
    rw [e] at q
    intro φ1 H1 vs s1 r1 rw1
    rw [List.append_nil]
    refine ⟨φ1, h1, ws, r1, rw1, ?_⟩
    simp only at q
    cases e2 : F ws h1 with
    | no => rw [e2] at q; exact q.elim
    | ex w h' => rw [e2] at q; exact q.elim
    | ok w h2 => rw [e2] at q; exact Kv.step q s1
theorem ph_fn0 (G : FnAt X.prog X.w X.K X.mg X.base CX0 k x (spH Z.T F)) (hr : Room j X.A) (hkj : k ≤ j) (hg : Gl X x) (ha : PA X (e :: es) (tHA Z fa)) (hdb : (x == ("__debug__" : Str)) = false := by decide)
    (he : starEach (e :: es) X.env = (false, eval e X.env) :: starEach es X.env := by rfl) (hpl : (backTo pos (starEach es X.env)).any (·.1) = false := by rfl) (hcl : X.calm = true := by rfl) : PE X (.Call (.Name x p) (e :: es) [] pos) (tH Z (xCall0 F fa)) :=
  (pe_fn G hr hkj hg (pass0 hcl) ha hdb he hpl).imp fun σ H Q q => call0_ok q
end
class PuF (F : Fm) : Prop where
  pu : ∀ ws h w h', F ws h = .ok w h' → h' = h
instance pu_var {i : Nat} : Pu (xVar i) := ⟨fun ρ h w h' e => by
  unfold xVar at e
  split at e
  · cases e; rfl
  · cases e⟩
instance pu_c {w : W} : Pu (xC w) := ⟨fun ρ h w h' e => by cases e; rfl⟩
theorem bind_ok {r : Res} {k : W → Mem → Res} {w : W} {h : Mem} (e : r.bind k = .ok w h) : ∃ a h1, r = .ok a h1 ∧ k a h1 = .ok w h := by
  cases r with
  | ok a h1 => exact ⟨a, h1, rfl, e⟩
  | ex _ _ => cases e
  | no => cases e
theorem of_ok {o : Option W} {h h' : Mem} {w : W} (e : Res.of o h = .ok w h') : o = some w ∧ h' = h := by
  cases o with
  | none => cases e
  | some x => cases e; exact ⟨rfl, rfl⟩
instance pu_bin {o : Mem → W → W → Option W} {f g : Ex} [hf : Pu f] [hg : Pu g] : Pu (xBin o f g) := ⟨fun ρ h w h' e => by
  obtain ⟨a, h1, e1, e⟩ := bind_ok e
  obtain ⟨b, h2, e2, e⟩ := bind_ok e
  rw [(of_ok e).2, hg.pu _ _ _ _ e2, hf.pu _ _ _ _ e1]⟩
instance pu_un {o : Mem → W → Option W} {f : Ex} [hf : Pu f] : Pu (xUn o f) := ⟨fun ρ h w h' e => by
  obtain ⟨a, h1, e1, e⟩ := bind_ok e
  rw [(of_ok e).2, hf.pu _ _ _ _ e1]⟩
instance pu_nil : PuS xNil := ⟨fun ρ h w h' e => by cases e; rfl⟩
instance pu_cons {f : Ex} {g : Exs} [hf : Pu f] [hg : PuS g] : PuS (xCons f g) := ⟨fun ρ h w h' e => by
  unfold xCons at e
  cases e1 : f ρ h with
  | no => rw [e1] at e; cases e
  | ex _ _ => rw [e1] at e; cases e
  | ok a h1 =>
    rw [e1] at e
    simp only at e
    cases e2 : g ρ h1 with
    | no => rw [e2] at e; cases e
    | ex _ _ => rw [e2] at e; cases e
    | ok b h2 =>
      rw [e2] at e
      cases e
      rw [hg.pu _ _ _ _ e2, hf.pu _ _ _ _ e1]⟩
instance pu_cb {o : Mem → List W → Option W} {f : Exs} [hf : PuS f] : Pu (xCb o f) := ⟨fun ρ h w h' e => by
  unfold xCb at e
  cases e1 : f ρ h with
  | no => rw [e1] at e; cases e
  | ex _ _ => rw [e1] at e; cases e
  | ok a h1 => rw [e1] at e; rw [(of_ok e).2, hf.pu _ _ _ _ e1]⟩
instance pu_bm {o : Mem → W → List W → Option W} {f : Ex} {g : Exs} [hf : Pu f] [hg : PuS g] : Pu (xBm o f g) := ⟨fun ρ h w h' e => by
  obtain ⟨a, h1, e1, e⟩ := bind_ok e
  cases e2 : g ρ h1 with
  | no => simp [e2] at e
  | ex _ _ => simp [e2] at e
  | ok b h2 => simp only [e2] at e; rw [(of_ok e).2, hg.pu _ _ _ _ e2, hf.pu _ _ _ _ e1]⟩
instance pu_and {f g : Ex} [hf : Pu f] [hg : Pu g] : Pu (xAnd f g) := ⟨fun ρ h w h' e => by
  obtain ⟨a, h1, e1, e⟩ := bind_ok e
  split at e
  · rw [hg.pu _ _ _ _ e, hf.pu _ _ _ _ e1]
  · cases e; exact hf.pu _ _ _ _ e1
  · cases e⟩
instance pu_or {f g : Ex} [hf : Pu f] [hg : Pu g] : Pu (xOr f g) := ⟨fun ρ h w h' e => by
  obtain ⟨a, h1, e1, e⟩ := bind_ok e
  split at e
  · cases e; exact hf.pu _ _ _ _ e1
  · rw [hg.pu _ _ _ _ e, hf.pu _ _ _ _ e1]
  · cases e⟩
instance pu_not {f : Ex} [hf : Pu f] : Pu (xNot f) := ⟨fun ρ h w h' e => by
  obtain ⟨a, h1, e1, e⟩ := bind_ok e
  split at e
  · cases e; exact hf.pu _ _ _ _ e1
  · cases e⟩
instance pu_if {c f g : Ex} [hc : Pu c] [hf : Pu f] [hg : Pu g] : Pu (xIf c f g) := ⟨fun ρ h w h' e => by
  obtain ⟨a, h1, e1, e⟩ := bind_ok e
  split at e
  · rw [hf.pu _ _ _ _ e, hc.pu _ _ _ _ e1]
  · rw [hg.pu _ _ _ _ e, hc.pu _ _ _ _ e1]
  · cases e⟩
instance pu_chain {o o' : Mem → W → W → Option W} {f g k : Ex} [hf : Pu f] [hg : Pu g] [hk : Pu k] : Pu (xChain o o' f g k) := ⟨fun ρ h w h' e => by
  obtain ⟨a, h1, e1, e⟩ := bind_ok e
  obtain ⟨b, h2, e2, e⟩ := bind_ok e
  split at e
  · obtain ⟨c, h3, e3, e⟩ := bind_ok e
    split at e
    · cases e; rw [hk.pu _ _ _ _ e3, hg.pu _ _ _ _ e2, hf.pu _ _ _ _ e1]
    · cases e
  · cases e; rw [hg.pu _ _ _ _ e2, hf.pu _ _ _ _ e1]
  · cases e⟩
instance pu_tup {f : Exs} [hf : PuS f] : Pu (xTup f) := ⟨fun ρ h w h' e => by
  unfold xTup at e
  cases e1 : f ρ h with
  | no => rw [e1] at e; cases e
  | ex _ _ => rw [e1] at e; cases e
  | ok a h1 =>
    rw [e1] at e
    simp only at e
    split at e
    · cases e; exact hf.pu _ _ _ _ e1
    · cases e⟩
instance pu_lst {f : Exs} [hf : PuS f] : Pu (xLst f) := ⟨fun ρ h w h' e => by
  unfold xLst at e
  cases e1 : f ρ h with
  | no => rw [e1] at e; cases e
  | ex _ _ => rw [e1] at e; cases e
  | ok a h1 =>
    rw [e1] at e
    simp only at e
    split at e
    · cases e; exact hf.pu _ _ _ _ e1
    · cases e⟩
instance pu_call0 {F : Fm} {f : Exs} [hF : PuF F] [hf : PuS f] : Pu (xCall0 F f) := ⟨fun ρ h w h' e => by
  unfold xCall0 at e
  cases e1 : f ρ h with
  | no => rw [e1] at e; cases e
  | ex _ _ => rw [e1] at e; cases e
  | ok a h1 =>
    rw [e1] at e
    simp only at e
    cases e2 : F a h1 with
    | no => rw [e2] at e; cases e
    | ex _ _ => rw [e2] at e; cases e
    | ok b h2 =>
      rw [e2] at e
      cases e
      rw [hF.pu _ _ _ _ e2, hf.pu _ _ _ _ e1]⟩
instance pu_il {f : Ex} [hf : Pu f] : PuI (xIl f) := ⟨fun ρ h s w h' e => by
  unfold xIl at e
  split at e
  · cases e; rename_i e1; exact hf.pu _ _ _ _ e1
  · rename_i e1
    split at e
    · cases e; exact hf.pu _ _ _ _ e1
    · cases e
  · cases e
  · cases e⟩
instance pu_ir1 {f : Ex} [hf : Pu f] : PuI (xIr1 f) := ⟨fun ρ h s w h' e => by
  unfold xIr1 at e
  split at e
  · rename_i j _ e1
    cases hj : (decide (-(2 ^ 62) ≤ j) && decide (j < 2 ^ 62)) with
    | true => rw [hj] at e; cases e; exact hf.pu _ _ _ _ e1
    | false => rw [hj] at e; cases e
  · cases e
  · cases e⟩
instance pu_it {f : Ex} [hf : Pu f] : PuI (xIt f) := ⟨fun ρ h s w h' e => by
  unfold xIt at e
  split at e
  · rename_i e1
    cases e; exact hf.pu _ _ _ _ e1
  · cases e
  · cases e⟩
instance pu_comp {fi : Ei} {own : Nat} {ix : List Nat} {G : Tg} {c el : Ex} [hf : PuI fi] : Pu (xComp fi own ix G c el) := ⟨fun ρ h w h' e => by
  unfold xComp at e
  cases e1 : fi ρ h with
  | no => rw [e1] at e; cases e
  | ex _ _ => rw [e1] at e; cases e
  | ok s ws h1 =>
    rw [e1] at e
    simp only at e
    split at e
    · split at e
      · cases e; exact hf.pu _ _ _ _ _ e1
      · cases e
    · cases e⟩
/-- no list stands in the written part -/
def noList (K : PySem.W.Frag) : Bool := K.all fun p => match p.2.cls with
  | .type n => n != "list"
  | _ => true
theorem lookup_mem {α β : Type} [BEq α] [LawfulBEq α] {a : α} {b : β} : ∀ {l : List (α × β)}, l.lookup a = some b → (a, b) ∈ l
  | [], h => by simp at h
  | (x, y) :: r, h => by
    rw [List.lookup_cons] at h
    cases e : a == x with
    | true =>
      rw [e] at h
      cases h
      rw [eq_of_beq e]
      exact List.mem_cons_self
    | false =>
      rw [e] at h
      exact List.mem_cons_of_mem _ (lookup_mem h)
theorem noList_of {K : PySem.W.Frag} (h : noList K = true) {a : Addr} {o : Obj} (e : K.lookup a = some o) : o.cls ≠ .type "list" := fun z => by
  have := List.all_eq_true.mp h (a, o) (lookup_mem e)
  simp [z] at this
theorem script_rw {K : PySem.W.Frag} (hK : noList K = true) {T : CTb} {H : Hp} {a : Addr} {ns : List Int} (hS : SqL K H a (ns.map V.int)) : RW T [] H (.tl (ns.map W.int)) (.ref a) := by
  unfold RW
  rcases hS with hS | ⟨o, its, n, e, c, _⟩
  · refine ⟨a, ns.map V.int, rfl, by simp, ?_, ?_⟩
    · rcases hS with q | ⟨o, q⟩
      · exact lstAt_of q
      · unfold lstAt; rw [q]
    · induction ns with
      | nil => unfold RWs; rfl
      | cons x r ih =>
        have : ∀ (l : List Int), RWs T [] H (l.map W.int) (l.map V.int) := by
          intro l
          induction l with
          | nil => unfold RWs; rfl
          | cons y s ih => rw [List.map_cons, List.map_cons]; unfold RWs; exact ⟨_, _, rfl, by unfold RW; rfl, ih⟩
        exact this _
  · exact absurd c (noList_of hK e)
theorem rh_nil {T : CTb} {H : Hp} : RH T [] [] H := ⟨rfl, List.nodup_nil, fun n o a e => by simp at e⟩
theorem law_sp {K : PySem.W.Frag} {T : CTb} {F : Fm} (hK : noList K = true) (hF : ∀ ns : List Int, ns.length ≤ 63 → ∃ h, F [.tl (ns.map W.int)] [] = .ok (.bl true) h) : ∀ vs H Q E, sp_law K vs H Q E → spH T F vs H Q E := by
  rintro vs H Q E ⟨a, ns, rfl, hS, hl, _, q⟩
  obtain ⟨h, e⟩ := hF ns hl
  refine ⟨[], [], [.tl (ns.map W.int)], rh_nil, ?_, ?_⟩
  · unfold RWs; exact ⟨_, [], rfl, script_rw hK hS, by unfold RWs; rfl⟩
  · rw [e]
    exact fun φ' H' v s r x => by rw [bl_rw x]; exact q H'
end M

set_option Elab.async false
set_option linter.all false
set_option maxRecDepth 100000
set_option maxHeartbeats 1000000
namespace M
open PySem PySem.Spec PyProof.Rows L2
/-! ## MF: operations -/
def items (h : Mem) : W → Option (List W)
  | .tl ws => some ws
  | .ref n => (match h[n]? with
    | some (.lst ws) => some ws
    | _ => none)
  | _ => none
/-- a list or a tuple -/
def seqs (h : Mem) : W → Option (List W)
  | .tup ws => some ws
  | w => items h w
section
variable {T : CTb} {φ : List Addr} {H : Hp} {h : Mem} {w : W} {v : V} {ws : List W}
theorem items_ok (r : RH T φ h H) (x : RW T φ H w v) (e : items h w = some ws) : ∃ p vs, v = .ref p ∧ lstAt H p = some vs ∧ RWs T φ H ws vs := by
  cases w with
  | tl us =>
    have e : some us = some ws := e
    cases e
    unfold RW at x
    obtain ⟨p, vs, a, b, c, d⟩ := x
    exact ⟨p, vs, a, c, d⟩
  | ref n =>
    unfold items at e
    unfold RW at x
    obtain ⟨p, a, rfl⟩ := x
    cases q : h[n]? with
    | none => simp [q] at e
    | some o =>
      cases o with
      | lst us =>
        simp [q] at e
        subst e
        obtain ⟨ho, y, vs, rfl, z⟩ := r.obj n _ p q a
        exact ⟨p, vs, rfl, lstAt_of y, z⟩
      | _ => simp [q] at e
  | _ => cases e
theorem seqs_ok (r : RH T φ h H) (x : RW T φ H w v) (e : seqs h w = some ws) : ∃ p vs, v = .ref p ∧ seqAt H p = some vs ∧ RWs T φ H ws vs := by
  cases w with
  | tup us =>
    have e : some us = some ws := e
    cases e
    unfold RW at x
    obtain ⟨p, vs, a, b, c, d⟩ := x
    exact ⟨p, vs, a, seqAt_tup c, d⟩
  | _ =>
    obtain ⟨p, vs, a, b, c⟩ := items_ok r x e
    refine ⟨p, vs, a, ?_, c⟩
    rcases lstAt_rd b with q | ⟨o, q⟩
    · exact seqAt_lst q
    · unfold seqAt; rw [q]
theorem rws_append : ∀ {ws us : List W} {vs xs : List V}, RWs T φ H ws vs → RWs T φ H us xs → RWs T φ H (ws ++ us) (vs ++ xs)
  | [], us, vs, xs, h, q => by unfold RWs at h; subst h; exact q
  | w :: ws, us, vs, xs, h, q => by
    unfold RWs at h
    obtain ⟨v, r, rfl, a, b⟩ := h
    rw [List.cons_append, List.cons_append]
    unfold RWs
    exact ⟨v, _, rfl, a, rws_append b q⟩
theorem rws_take : ∀ (n : Nat) {ws : List W} {vs : List V}, RWs T φ H ws vs → RWs T φ H (ws.take n) (vs.take n)
  | 0, ws, vs, h => by simp; unfold RWs; rfl
  | n + 1, [], vs, h => by unfold RWs at h; subst h; simp; unfold RWs; rfl
  | n + 1, w :: ws, vs, h => by
    unfold RWs at h
    obtain ⟨v, r, rfl, a, b⟩ := h
    rw [List.take_succ_cons, List.take_succ_cons]
    unfold RWs
    exact ⟨v, _, rfl, a, rws_take n b⟩
theorem rws_drop : ∀ (n : Nat) {ws : List W} {vs : List V}, RWs T φ H ws vs → RWs T φ H (ws.drop n) (vs.drop n)
  | 0, ws, vs, h => h
  | n + 1, [], vs, h => by unfold RWs at h; subst h; simp; unfold RWs; rfl
  | n + 1, w :: ws, vs, h => by
    unfold RWs at h
    obtain ⟨v, r, rfl, a, b⟩ := h
    rw [List.drop_succ_cons, List.drop_succ_cons]
    exact rws_drop n b
theorem new_tl {p : Addr} {vs : List V} {Q : VK} (r : RH T φ h H) (hp : H p = none) (x : RWs T φ H ws vs) (k : ∀ H' u, Step φ H φ H' → RH T φ h H' → RW T φ H' (.tl ws) u → Q u H') : Q (.ref p) (upd H p (.lst vs)) := by
  have s := step_tmp (φ := φ) (ho := .lst vs) hp
  refine k _ _ s (r.tmp hp) ?_
  unfold RW
  exact ⟨p, vs, rfl, r.fresh hp, lstAt_upd_l, x.step s⟩
theorem here_k {Q : VK} (r : RH T φ h H) (x : RW T φ H w v) (k : ∀ H' u, Step φ H φ H' → RH T φ h H' → RW T φ H' w u → Q u H') : Q v H := k H v (Step.refl _ _) r x
end
section
variable {X : Cx} {T : CTb}
/-! ints -/
def iop (g : Int → Int → W) (_ : Mem) : W → W → Option W
  | .int i, .int j => some (g i j)
  | _, _ => none
theorem iop_ok {g : Int → Int → W} {gv : Int → Int → V} (hg : ∀ φ H i j, RW T φ H (g i j) (gv i j)) : OpW T (iop g) (rI0 gv) := by
  intro φ h H a b u v w Q r ra rb e k
  unfold iop at e
  split at e
  · cases e
    exact ⟨_, _, int_rw ra, int_rw rb, here_k r (hg φ H _ _) k⟩
  · cases e
def iopC (C : Int → Int → Bool) (g : Int → Int → W) (_ : Mem) : W → W → Option W
  | .int i, .int j => cond (C i j) (some (g i j)) none
  | _, _ => none
theorem iopC_ok {C : Int → Int → Bool} {Cp : Int → Int → Prop} {g : Int → Int → W} {gv : Int → Int → V} (hC : ∀ i j, C i j = true → Cp i j) (hg : ∀ φ H i j, RW T φ H (g i j) (gv i j)) : OpW T (iopC C g) (rI Cp gv) := by
  intro φ h H a b u v w Q r ra rb e k
  unfold iopC at e
  split at e
  · rename_i i j
    cases hc : C i j with
    | true =>
      rw [hc] at e
      cases e
      exact ⟨_, _, int_rw ra, int_rw rb, hC _ _ hc, here_k r (hg φ H _ _) k⟩
    | false => rw [hc] at e; cases e
  · cases e
theorem rw_int {φ : List Addr} {H : Hp} {i : Int} : RW T φ H (.int i) (.int i) := by unfold RW; rfl
theorem rw_b {φ : List Addr} {H : Hp} {i : Bool} : RW T φ H (.bl i) (.bl i) := by unfold RW; rfl
theorem rw_s {φ : List Addr} {H : Hp} {i : Str} : RW T φ H (.str i) (.str i) := by unfold RW; rfl
def subM := iop fun i j => .int (i - j)
theorem subM_ok : OpW T subM (rI0 fun i j => .int (i - j)) := iop_ok fun _ _ _ _ => rw_int
def divM := iopC (fun _ j => decide (0 < j) && decide (j < 1073741824)) fun i j => .int (i / j)
theorem divM_ok : OpW T divM (rI CDiv fun i j => .int (i / j)) := iopC_ok (fun i j h => by unfold CDiv; simp only [Bool.and_eq_true, decide_eq_true_eq] at h; exact h) fun _ _ _ _ => rw_int
def modM := iopC (fun _ j => decide (0 < j)) fun i j => .int (i % j)
theorem modM_ok : OpW T modM (rI (fun _ j => 0 < j) fun i j => .int (i % j)) := iopC_ok (fun i j h => of_decide_eq_true h) fun _ _ _ _ => rw_int
def mulM := iopC (fun i j => (decide (-(2 ^ 64) < i) && decide (i < 2 ^ 64)) || (decide (-(2 ^ 64) < j) && decide (j < 2 ^ 64))) fun i j => .int (i * j)
theorem mulM_ok : OpW T mulM (rI CMul fun i j => .int (i * j)) := iopC_ok (fun i j h => by unfold CMul; simp only [Bool.or_eq_true, Bool.and_eq_true, decide_eq_true_eq] at h; exact h) fun _ _ _ _ => rw_int
def powM := iopC (fun i j => decide (0 ≤ j) && (decide (j ≤ 1000000) && decide (i.natAbs < 2 ^ 64))) fun i j => .int (i ^ j.toNat)
theorem powM_ok : OpW T powM (rI CPow fun i j => .int (i ^ j.toNat)) := iopC_ok (fun i j h => by unfold CPow; simp only [Bool.and_eq_true, decide_eq_true_eq] at h; exact h) fun _ _ _ _ => rw_int
def bandM := iop fun i j => .int (Builtin.bitAnd i j)
theorem bandM_ok : OpW T bandM (rI0 fun i j => .int (Builtin.bitAnd i j)) := iop_ok fun _ _ _ _ => rw_int
def borM := iop fun i j => .int (Builtin.bitOr i j)
theorem borM_ok : OpW T borM (rI0 fun i j => .int (Builtin.bitOr i j)) := iop_ok fun _ _ _ _ => rw_int
def ltM := iop fun i j => .bl (decide (i < j))
theorem ltM_ok : OpW T ltM (rI0 fun i j => .bl (decide (i < j))) := iop_ok fun _ _ _ _ => rw_b
def gtM := iop fun i j => .bl (decide (j < i))
def geM := iop fun i j => .bl (decide (j ≤ i))
theorem geM_ok : OpW T geM (rI0 fun i j => .bl (decide (j ≤ i))) := iop_ok fun _ _ _ _ => rw_b
/-- <= of ints and of texts -/
def rLe : R2 := fun x y H Q => rI0 (fun i j => .bl (decide (i ≤ j))) x y H Q ∨ ∃ i j, x = .str i ∧ y = .str j ∧ Q (.bl (!decide (j.cps.toList < i.cps.toList))) H
theorem op_leS : OpR X (compareOp .LtE) rLe := by
  refine OpR.or op_le ?_
  intro pins s σ H x y v u Q I rx ry h
  obtain ⟨i, j, rfl, rfl, q⟩ := h
  obtain ⟨t, rfl⟩ := rx
  obtain ⟨t', rfl⟩ := ry
  exact PySem.P.le_str (fin_bl I q rfl)
def strLe (i j : Str) : Bool := !decide (j.cps.toList < i.cps.toList)
def leM (_ : Mem) : W → W → Option W
  | .int i, .int j => some (.bl (decide (i ≤ j)))
  | .str i, .str j => some (.bl (strLe i j))
  | _, _ => none
theorem leM_ok : OpW T leM rLe := by
  intro φ h H a b u v w Q r ra rb e k
  unfold leM at e
  split at e
  · cases e
    exact .inl ⟨_, _, int_rw ra, int_rw rb, here_k r rw_b k⟩
  · cases e
    exact .inr ⟨_, _, str_rw ra, str_rw rb, here_k r rw_b k⟩
  · cases e
def negM (_ : Mem) : W → Option W
  | .int i => some (.int (-i))
  | _ => none
theorem negM_ok : UnW T negM (rU fun i => .int (-i)) := by
  intro φ h H a u w Q r ra e k
  unfold negM at e
  split at e
  · cases e
    exact ⟨_, int_rw ra, here_k r rw_int k⟩
  · cases e
def invM (_ : Mem) : W → Option W
  | .int i => some (.int (Builtin.bitNot i))
  | _ => none
theorem invM_ok : UnW T invM (rU fun i => .int (Builtin.bitNot i)) := by
  intro φ h H a u w Q r ra e k
  unfold invM at e
  split at e
  · cases e
    exact ⟨_, int_rw ra, here_k r rw_int k⟩
  · cases e
/-! + -/
def addM (h : Mem) (a b : W) : Option W := match a, b with
  | .int i, .int j => some (.int (i + j))
  | .str x, .str y => if x.length + y.length ≤ sizeLine then some (.str (x ++ y)) else none
  | a, b => (match items h a, items h b with
    | some xs, some ys => if xs.length + ys.length ≤ sizeLine then some (.tl (xs ++ ys)) else none
    | _, _ => none)
theorem addM_ok : OpW T addM addV := by
  intro φ h H a b u v w Q r ra rb e k
  unfold addM at e
  split at e
  · cases e
    rw [int_rw ra, int_rw rb]
    exact here_k r rw_int k
  · split at e
    · rename_i hz
      cases e
      rw [str_rw ra, str_rw rb]
      exact ⟨hz, here_k r rw_s k⟩
    · cases e
  · split at e
    · rename_i xs ys e1 e2
      obtain ⟨p, vs, rfl, q1, q2⟩ := items_ok r ra e1
      obtain ⟨p', vs', rfl, q3, q4⟩ := items_ok r rb e2
      split at e
      · rename_i hz
        cases e
        show need (lstAt H p) _
        rw [q1]
        show need (lstAt H p') _
        rw [q3]
        exact ⟨by rw [← q2.length, ← q4.length]; exact hz, fun z hp => new_tl r hp (rws_append q2 q4) k⟩
      · cases e
    · cases e
/-! items -/
def ixM (h : Mem) (a b : W) : Option W := match b with
  | .int i => (match a with
    | .str z => if z.length ≤ sizeLine then (atI z.cps.toList i).map fun c => .str ⟨#[c]⟩ else none
    | a => (seqs h a).bind fun xs => atI xs i)
  | _ => none
theorem rws_atI {φ : List Addr} {H : Hp} {ws : List W} {vs : List V} {i : Int} {w : W} (r : RWs T φ H ws vs) (e : atI ws i = some w) : ∃ v, atI vs i = some v ∧ RW T φ H w v := by
  unfold atI at e ⊢
  rw [← r.length]
  cases q : ixN ws.length i with
  | none => rw [q] at e; cases e
  | some j =>
    rw [q] at e
    exact rws_get r e
theorem ixM_ok : OpW T ixM ixV := by
  intro φ h H a b u v w Q r ra rb e k
  unfold ixM at e
  split at e
  · rw [int_rw rb]
    split at e
    · split at e
      · rename_i hz
        rw [str_rw ra]
        cases q : atI _ _ with
        | none => rw [q] at e; cases e
        | some c =>
          rw [q] at e
          cases e
          refine ⟨hz, ?_⟩
          show need (atI _ _) _
          rw [q]
          exact here_k r rw_s k
      · cases e
    · cases q : seqs h a with
      | none => rw [q] at e; cases e
      | some xs =>
        rw [q] at e
        obtain ⟨p, vs, rfl, q1, q2⟩ := seqs_ok r ra q
        obtain ⟨x, q3, q4⟩ := rws_atI q2 e
        show need (seqAt H p) _
        rw [q1]
        show need (atI vs _) _
        rw [q3]
        exact here_k r q4 k
  · cases e
/-! == -/
def flatW : W → Bool
  | .non => true
  | .bl _ => true
  | .int _ => true
  | .str _ => true
  | _ => false
def eqFl : W → W → Bool
  | .non, .non => true
  | .bl a, .bl b => decide (a = b)
  | .bl a, .int b => decide ((if a then 1 else 0) = b)
  | .int a, .bl b => decide (a = (if b then 1 else 0))
  | .int a, .int b => decide (a = b)
  | .str a, .str b => decide (a = b)
  | _, _ => false
def allM (f : W → W → Option Bool) : List W → List W → Option Bool
  | x :: xs, y :: ys => match f x y, allM f xs ys with
    | some a, some b => some (a && b)
    | _, _ => none
  | _, _ => some true
/-- a list (true) or a tuple -/
def sq (h : Mem) : W → Option (Bool × List W)
  | .tup ws => some (false, ws)
  | w => (items h w).map fun ws => (true, ws)
def eqM (h : Mem) : Nat → W → W → Option Bool
  | 0, a, b => if (flatW a && flatW b) = true then some (eqFl a b) else none
  | n + 1, a, b => if (flatW a && flatW b) = true then some (eqFl a b) else match sq h a, sq h b with
    | some (true, xs), some (true, ys) => if xs.length = ys.length then allM (eqM h n) xs ys else some false
    | some (false, xs), some (false, ys) => (allM (eqM h n) xs ys).map (· && decide (xs.length = ys.length))
    | some (true, _), some (false, _) => some false
    | some (false, _), some (true, _) => some false
    | some _, none => if flatW b = true then some false else none
    | none, some _ => if flatW a = true then some false else none
    | none, none => none
theorem flat_ok {φ : List Addr} {H : Hp} {a : W} {u : V} (r : RW T φ H a u) (f : flatW a = true) : flatV u = true ∧ ∀ {b : W} {v : V}, RW T φ H b v → flatW b = true → eqV u v = eqFl a b := by
  cases a with
  | non =>
    unfold RW at r; subst r
    refine ⟨rfl, fun {b v} q f => ?_⟩
    cases b <;> first | (unfold RW at q; subst q; first | rfl | (simp [eqV, eqFl, Bool.beq_eq_decide_eq]; done)) | cases f
  | bl x =>
    unfold RW at r; subst r
    refine ⟨rfl, fun {b v} q f => ?_⟩
    cases b <;> first | (unfold RW at q; subst q; first | rfl | (simp [eqV, eqFl, Bool.beq_eq_decide_eq]; done)) | cases f
  | int x =>
    unfold RW at r; subst r
    refine ⟨rfl, fun {b v} q f => ?_⟩
    cases b <;> first | (unfold RW at q; subst q; first | rfl | (simp [eqV, eqFl, Bool.beq_eq_decide_eq]; done)) | cases f
  | str x =>
    unfold RW at r; subst r
    refine ⟨rfl, fun {b v} q f => ?_⟩
    cases b <;> first | (unfold RW at q; subst q; first | rfl | (simp [eqV, eqFl, Bool.beq_eq_decide_eq]; done)) | cases f
  | _ => cases f
theorem allM_ok {φ : List Addr} {H : Hp} {f : W → W → Option Bool} {g : V → V → Option Bool} (hf : ∀ a b u v c, f a b = some c → RW T φ H a u → RW T φ H b v → g u v = some c) :
    ∀ {ws us : List W} {vs xs : List V} {c : Bool}, allM f ws us = some c → RWs T φ H ws vs → RWs T φ H us xs → allF g vs xs = some c
  | [], us, vs, xs, c, e, r, q => by
    unfold RWs at r; subst r
    cases e; rfl
  | w :: ws, [], vs, xs, c, e, r, q => by
    unfold RWs at q; subst q
    cases e
    cases vs <;> rfl
  | w :: ws, u :: us, vs, xs, c, e, r, q => by
    unfold RWs at r q
    obtain ⟨v, vr, rfl, r1, r2⟩ := r
    obtain ⟨x, xr, rfl, q1, q2⟩ := q
    unfold allM at e
    cases e1 : f w u with
    | none => rw [e1] at e; cases e
    | some a =>
      cases e2 : allM f ws us with
      | none => rw [e1, e2] at e; cases e
      | some b =>
        rw [e1, e2] at e
        cases e
        unfold allF
        rw [hf _ _ _ _ _ e1 r1 q1, allM_ok hf e2 r2 q2]
theorem sq_ok {φ : List Addr} {H : Hp} {h : Mem} {a : W} {u : V} {b : Bool} {ws : List W} (r : RH T φ h H) (x : RW T φ H a u) (e : sq h a = some (b, ws)) : ∃ p vs, u = .ref p ∧ RWs T φ H ws vs ∧ (b = true → lstAt H p = some vs) ∧ (b = false → tupAt H p = some vs ∧ lstAt H p = none) := by
  cases a with
  | tup us =>
    have e : some (false, us) = some (b, ws) := e
    cases e
    unfold RW at x
    obtain ⟨p, vs, y, _, c, d⟩ := x
    exact ⟨p, vs, y, d, fun z => (by cases z), fun _ => ⟨tupAt_of c, by unfold lstAt; rw [c]⟩⟩
  | _ =>
    unfold sq at e
    simp only [Option.map_eq_some_iff] at e
    obtain ⟨us, e1, e2⟩ := e
    cases e2
    obtain ⟨p, vs, y, c, d⟩ := items_ok r x e1
    exact ⟨p, vs, y, d, fun _ => c, fun z => by cases z⟩
theorem eqM_ok {φ : List Addr} {H : Hp} {h : Mem} (r : RH T φ h H) : ∀ (n : Nat) (a b : W) (u v : V) (c : Bool), eqM h n a b = some c → RW T φ H a u → RW T φ H b v → eqF H n u v = some c
  | 0, a, b, u, v, c, e, ra, rb => by
    unfold eqM at e
    split at e
    · rename_i hf
      cases e
      rw [Bool.and_eq_true] at hf
      have f1 := flat_ok ra hf.1
      have f2 := flat_ok rb hf.2
      unfold eqF
      rw [f1.1, f2.1, f1.2 rb hf.2]; rfl
    · cases e
  | n + 1, a, b, u, v, c, e, ra, rb => by
    have ih := fun a b u v c => eqM_ok r n a b u v c
    unfold eqM at e
    split at e
    · rename_i hf
      cases e
      rw [Bool.and_eq_true] at hf
      have f1 := flat_ok ra hf.1
      have f2 := flat_ok rb hf.2
      rw [eqF_flat4 (by rw [f1.1, f2.1]; rfl), f1.2 rb hf.2]
    · split at e
      · rename_i xs ys e1 e2
        obtain ⟨p, vs, rfl, q1, q2, _⟩ := sq_ok r ra e1
        obtain ⟨p', vs', rfl, q3, q4, _⟩ := sq_ok r rb e2
        rw [eqF_lists (q2 rfl) (q4 rfl), ← q1.length, ← q3.length]
        split at e
        · rename_i hl
          rw [if_pos hl]
          exact allM_ok ih e q1 q3
        · rename_i hl
          rw [if_neg hl]; exact e
      · rename_i xs ys e1 e2
        obtain ⟨p, vs, rfl, q1, _, q2⟩ := sq_ok r ra e1
        obtain ⟨p', vs', rfl, q3, _, q4⟩ := sq_ok r rb e2
        rw [eqF_tuples (q2 rfl).1 (q4 rfl).1, ← q1.length, ← q3.length]
        cases e3 : allM (eqM h n) xs ys with
        | none => rw [e3] at e; cases e
        | some d =>
          rw [e3] at e
          rw [allM_ok ih e3 q1 q3]
          exact e
      · rename_i xs ys e1 e2
        cases e
        obtain ⟨p, vs, rfl, q1, q2, _⟩ := sq_ok r ra e1
        obtain ⟨p', vs', rfl, q3, _, q4⟩ := sq_ok r rb e2
        unfold eqF
        rw [if_neg (by simp [flatV])]
        simp [q2 rfl, (q4 rfl).1, (q4 rfl).2]
      · rename_i xs ys e1 e2
        cases e
        obtain ⟨p, vs, rfl, q1, _, q2⟩ := sq_ok r ra e1
        obtain ⟨p', vs', rfl, q3, q4, _⟩ := sq_ok r rb e2
        unfold eqF
        rw [if_neg (by simp [flatV])]
        simp [q4 rfl, (q2 rfl).1, (q2 rfl).2]
      · rename_i x e1 e2
        split at e
        · rename_i hf
          cases e
          obtain ⟨bb, xs⟩ := x
          obtain ⟨p, vs, rfl, q1, q2, q3⟩ := sq_ok r ra e1
          have f2 := (flat_ok rb hf).1
          have hs : (seqAt H p).isSome = true := by
            cases bb with
            | true =>
              rcases lstAt_rd (q2 rfl) with z | ⟨o, z⟩ <;> (unfold seqAt; rw [z]; rfl)
            | false => rw [seqAt_tup (tupAt_eq (q3 rfl).1)]; rfl
          unfold eqF
          rw [if_neg (by simp [flatV])]
          cases v <;> first | (simp [hs, f2]; done) | (simp [flatV] at f2)
        · cases e
      · rename_i x e1 e2
        split at e
        · rename_i hf
          cases e
          obtain ⟨bb, xs⟩ := x
          obtain ⟨p, vs, rfl, q1, q2, q3⟩ := sq_ok r rb e2
          have f2 := (flat_ok ra hf).1
          have hs : (seqAt H p).isSome = true := by
            cases bb with
            | true =>
              rcases lstAt_rd (q2 rfl) with z | ⟨o, z⟩ <;> (unfold seqAt; rw [z]; rfl)
            | false => rw [seqAt_tup (tupAt_eq (q3 rfl).1)]; rfl
          unfold eqF
          rw [if_neg (by simp [flatV])]
          cases u <;> first | (simp [hs, f2]; done) | (simp [flatV] at f2)
        · cases e
      · cases e
def eqO (h : Mem) (a b : W) : Option W := (eqM h 4 a b).map .bl
def neO (h : Mem) (a b : W) : Option W := (eqM h 4 a b).map fun c => .bl (!c)
theorem eqO_ok : OpW T eqO rEqF := by
  intro φ h H a b u v w Q r ra rb e k
  unfold eqO at e
  cases q : eqM h 4 a b with
  | none => rw [q] at e; cases e
  | some c =>
    rw [q] at e
    cases e
    unfold rEqF
    rw [eqM_ok r 4 a b u v c q ra rb]
    exact here_k r rw_b k
theorem neO_ok : OpW T neO rNeF := by
  intro φ h H a b u v w Q r ra rb e k
  unfold neO at e
  cases q : eqM h 4 a b with
  | none => rw [q] at e; cases e
  | some c =>
    rw [q] at e
    cases e
    unfold rNeF
    rw [eqM_ok r 4 a b u v c q ra rb]
    exact here_k r rw_b k
/-! isinstance -/
abbrev Ty := Sum String Str
def tyN (h : Mem) : W → Option Ty
  | .non => some (.inl "NoneType")
  | .bl _ => some (.inl "bool")
  | .int _ => some (.inl "int")
  | .str _ => some (.inl "str")
  | .tup _ => some (.inl "tuple")
  | .tl _ => some (.inl "list")
  | .td _ _ => some (.inl "dict")
  | .ti c _ _ => some (.inr c)
  | .ref n => (match h[n]? with
    | some (.lst _) => some (.inl "list")
    | some (.dic _) => some (.inl "dict")
    | some (.ins c _) => some (.inr c)
    | none => none)
  | _ => none
def TV (T : CTb) : Ty → Value → Prop
  | .inl n, v => v = .type n
  | .inr c, v => ∃ C, T.any c = some C ∧ v = .ref C
abbrev Kit := List ((Ty × Ty) × Bool)
def KitOk (K : PySem.W.Frag) (T : CTb) (kit : Kit) : Prop := ∀ e ∈ kit, ∃ tv cv, TV T e.1.1 tv ∧ TV T e.1.2 cv ∧ PySem.W.kitOne K tv cv = some e.2
structure InsTy (K : PySem.W.Frag) (C : Addr) : Prop where
  cl : Cls K C
  ha : PySem.W.findIn K (.ref C) "__class__" = some (some (.builtin "object.__class__"))
  hn : PySem.W.specialIn K (.builtin "object.__class__") "__get__" = some (some (.builtin "getset_descriptor.__get__"))
  htk : PySem.W.takesIn K (.builtin "object.__class__") = some true
  hm : PySem.W.mroIn K C (.type "object") = some true
def InsOk (K : PySem.W.Frag) (T : CTb) : Prop := ∀ c C, T c = some C → InsTy K C
def Kit.get (kit : Kit) (t c : Ty) : Option Bool := (kit.find? fun e => decide (e.1 = (t, c))).map (·.2)
theorem Kit.mem {kit : Kit} {t c : Ty} {b : Bool} (h : kit.get t c = some b) : ((t, c), b) ∈ kit := by
  unfold Kit.get at h
  rw [Option.map_eq_some_iff] at h
  obtain ⟨⟨e1, e2⟩, e, rfl⟩ := h
  have := List.find?_some e
  have q : e1 = (t, c) := of_decide_eq_true this
  subst q
  exact List.mem_of_find?_eq_some e
def isiM (kit : Kit) (h : Mem) : List W → Option W
  | [w, .ty n] => (tyN h w).bind fun t => (kit.get t (.inl n)).map .bl
  | [w, .cls c] => (tyN h w).bind fun t => (kit.get t (.inr c)).map .bl
  | _ => none
theorem tyN_ok {K : PySem.W.Frag} (hI : InsOk K T) {φ : List Addr} {H : Hp} {h : Mem} {w : W} {v : V} {t : Ty} {tv : Value} (r : RH T φ h H) (x : RW T φ H w v) (e : tyN h w = some t) (ht : TV T t tv) : TyOf K H v tv := by
  cases w with
  | non => cases e; cases ht; unfold RW at x; subst x; exact .non
  | bl b => cases e; cases ht; unfold RW at x; subst x; exact .bl b
  | int b => cases e; cases ht; unfold RW at x; subst x; exact .int b
  | str b => cases e; cases ht; unfold RW at x; subst x; exact .str b
  | tup b => cases e; cases ht; unfold RW at x; obtain ⟨p, vs, rfl, _, c, _⟩ := x; exact .tup c
  | tl b =>
    cases e; cases ht; unfold RW at x
    obtain ⟨p, vs, rfl, _, c, _⟩ := x
    rcases lstAt_rd c with q | ⟨o, q⟩
    · exact .lst q
    · exact .frz q
  | td k b => cases e; cases ht; unfold RW at x; obtain ⟨p, vs, rfl, _, c, _⟩ := x; exact .dK c
  | ti c f b =>
    cases e; unfold RW at x
    obtain ⟨p, C, dx, vs, rfl, _, c1, c2, _⟩ := x
    obtain ⟨C', c3, rfl⟩ := ht
    rw [CTb.any_t c1] at c3; cases c3
    have i := hI _ _ c1
    exact .ins c2 i.cl i.ha i.hn i.htk i.hm
  | ref n =>
    unfold tyN at e
    unfold RW at x
    obtain ⟨p, a, rfl⟩ := x
    cases q : h[n]? with
    | none => simp [q] at e
    | some o =>
      obtain ⟨ho, y, z⟩ := r.obj n o p q a
      cases o with
      | lst us => simp [q] at e; subst e; cases ht; obtain ⟨vs, rfl, _⟩ := z; exact .lst y
      | dic us => simp [q] at e; subst e; cases ht; obtain ⟨vs, rfl, _⟩ := z; exact .dK y
      | ins c fs =>
        simp [q] at e; subst e
        obtain ⟨C, dx, fv, rfl, c1, _⟩ := z
        obtain ⟨C', c3, rfl⟩ := ht
        rw [CTb.any_t c1] at c3; cases c3
        have i := hI _ _ c1
        exact .ins y i.cl i.ha i.hn i.htk i.hm
  | ty n => cases e
  | cls n => cases e
  | exc _ _ _ => cases e
def absM (_ : Mem) : List W → Option W
  | [.int i] => some (.int (if i < 0 then -i else i))
  | _ => none
theorem absM_ok : CbW T absM (fun xs H Q => ∃ i, xs = [.int i] ∧ Q (.int (if i < 0 then -i else i)) H) := by
  intro φ h H ws vs w Q r x e k
  unfold absM at e
  split at e
  · cases e
    unfold RWs at x
    obtain ⟨v1, r1, rfl, x1, x2⟩ := x
    unfold RWs at x2; subst x2
    rw [int_rw x1]
    exact ⟨_, rfl, here_k r rw_int k⟩
  · cases e
end
/-! chains -/
section
variable {X : Cx} {Z : Zc} {f g k : Ex} {a b c : Expr} {pos : Pos} {op op' : CmpOp} {o o' : Mem → W → W → Option W} {r r' : R2}
end
section
variable {X : Cx} {Z : Zc} {f g : Ex} {x : Str} {p pos : Pos} {a : Expr} {st : Stmt}
theorem ph_gci {i : Int} (hg : Gl X x) (h : GC X.mg x (.int i)) (hd : (x == ("__debug__" : Str)) = false := by decide) : PE X (.Name x p) (tH Z (xC (.int i))) := ph_c (pe_gc hg h hd) fun _ _ => rw_int
theorem ph_ty (n : String) (hg : Gl X x) (hm : X.mg x = none) (hv : bootBuiltins x = some (.type n)) (hn : x ≠ "__name__" := by decide) (hd : (x == ("__debug__" : Str)) = false := by decide) : PE X (.Name x p) (tH Z (xC (.ty n))) := ph_c (pe_ty n hg hm hv hn hd) fun _ _ => by unfold RW; rfl
theorem ph_cls {C : Addr} (hg : Gl X x) (h : GC X.mg x (.ref C)) (hT : Z.T.any x = some C) (hd : (x == ("__debug__" : Str)) = false := by decide) : PE X (.Name x p) (tH Z (xC (.cls x))) := ph_c (pe_gc hg h hd) fun _ _ => by unfold RW; exact ⟨C, hT, rfl⟩
def xNo : Sm := fun _ _ => .no
theorem psh_never : PS X st (tHS Z xNo) := fun _ _ _ _ _ _ ⟨_, _, _, _, h⟩ => h.elim
end
end M

set_option Elab.async false
set_option linter.all false
set_option maxRecDepth 100000
set_option maxHeartbeats 1000000
namespace M
open PySem PySem.Spec PyProof.Rows L2
/-! ## MG: slices, more built-ins -/
inductive RsO where
  | ok (o : Option Int) (h : Mem) | ex (w : W) (h : Mem) | no
abbrev Eo := Sg → Mem → RsO
def tHO (Z : Zc) (f : Eo) : TO := fun σ H Q => ∃ φ h ρ, Here Z σ H φ h ρ ∧ match f ρ h with
  | .ok o h' => ∀ φ' H', Step φ H φ' H' → RH Z.T φ' h' H' → Q o H'
  | .ex w h' => Z.xw w h'
  | .no => False
def xPn : Eo := fun _ h => .ok none h
def xPs (f : Ex) : Eo := fun ρ h => match f ρ h with
  | .ok (.int i) h' => .ok (some i) h'
  | .ex w h' => .ex w h'
  | _ => .no
def xSl (op : Mem → W → Option Int → Option Int → Option W) (f : Ex) (l u : Eo) : Ex := fun ρ h => (f ρ h).bind fun a h1 => match l ρ h1 with
  | .ok lo h2 => (match u ρ h2 with
    | .ok hi h3 => .of (op h3 a lo hi) h3
    | .ex w h3 => .ex w h3
    | .no => .no)
  | .ex w h2 => .ex w h2
  | .no => .no
def SlW (T : CTb) (op : Mem → W → Option Int → Option Int → Option W) (r : V → Option Int → Option Int → Hp → VK → Prop) : Prop :=
  ∀ φ h H a v lo hi w Q, RH T φ h H → RW T φ H a v → op h a lo hi = some w → (∀ H' x, Step φ H φ H' → RH T φ h H' → RW T φ H' w x → Q x H') → r v lo hi H Q
class PuO (f : Eo) : Prop where
  pu : ∀ ρ h w h', f ρ h = .ok w h' → h' = h
instance pu_pn : PuO xPn := ⟨fun ρ h w h' e => by cases e; rfl⟩
instance pu_ps {f : Ex} [hf : Pu f] : PuO (xPs f) := ⟨fun ρ h w h' e => by
  unfold xPs at e
  split at e
  · rename_i e1; cases e; exact hf.pu _ _ _ _ e1
  · cases e
  · cases e⟩
instance pu_sl {op : Mem → W → Option Int → Option Int → Option W} {f : Ex} {l u : Eo} [hf : Pu f] [hl : PuO l] [hu : PuO u] : Pu (xSl op f l u) := ⟨fun ρ h w h' e => by
  obtain ⟨a, h1, e1, e⟩ := bind_ok e
  split at e
  · rename_i e2
    split at e
    · rename_i e3
      rw [(of_ok e).2, hu.pu _ _ _ _ e3, hl.pu _ _ _ _ e2, hf.pu _ _ _ _ e1]
    · cases e
    · cases e
  · cases e
  · cases e⟩
section
variable {X : Cx} {Z : Zc} {f : Ex} {l u : Eo} {e : Expr} {lo hi : Option Expr} {pos p2 : Pos}
theorem poh_none : PO X none (tHO Z xPn) := fun pins s σ H Q I ⟨φ, h, ρ, x, q⟩ => po_none pins s σ H Q I (q φ H (Step.refl _ _) x.rh)
theorem poh_some (h : PE X e (tH Z f)) : PO X (some e) (tHO Z (xPs f)) := fun pins s σ H Q I ⟨φ, m, ρ, x, q⟩ => by
  refine po_some h pins s σ H Q I ⟨φ, m, ρ, x, ?_⟩
  unfold xPs at q
  cases e1 : f ρ m with
  | no => rw [e1] at q; exact q.elim
  | ex w h' => rw [e1] at q; exact q
  | ok w h' =>
    rw [e1] at q
    intro φ1 H1 v s1 r1 rw1
    cases w with
    | int i => exact ⟨i, int_rw rw1, q φ1 H1 s1 r1⟩
    | _ => exact q.elim
theorem ph_sl {op : Mem → W → Option Int → Option Int → Option W} {r : V → Option Int → Option Int → Hp → VK → Prop} (hr : SlR X r) (hw : SlW Z.T op r) (he : PE X e (tH Z f)) (hl : PO X lo (tHO Z l)) (hu : PO X hi (tHO Z u)) :
    PE X (.Subscript e (.Slice lo hi none p2) pos) (tH Z (xSl op f l u)) := (pe_slice hr he hl hu).imp fun σ H Q ⟨φ, m, ρ, x, q⟩ => ⟨φ, m, ρ, x, by
  unfold xSl at q
  rw [bindP] at q
  refine q.mono fun a h1 q1 => fun φ1 H1 v s1 r1 ra => ⟨φ1, h1, ρ, x.step s1 r1, ?_⟩
  cases e2 : l ρ h1 with
  | no => simp only [e2] at q1; exact q1.elim
  | ex w h' => simp only [e2] at q1; exact q1
  | ok lo h2 =>
    simp only [e2] at q1
    intro φ2 H2 s2 r2
    refine ⟨φ2, h2, ρ, (x.step s1 r1).step s2 r2, ?_⟩
    cases e3 : u ρ h2 with
    | no => simp only [e3] at q1; exact q1.elim
    | ex w h' => simp only [e3] at q1; exact q1
    | ok hi h3 =>
      simp only [e3] at q1
      intro φ3 H3 s3 r3
      obtain ⟨w, e4, k⟩ := ofP q1
      exact hw φ3 h3 H3 a v lo hi w Q r3 ((ra.step s2).step s3) e4 (k.step ((s1.trans s2).trans s3)).end⟩
end
def cutW (xs : List W) (lo hi : Option Int) : List W := (xs.drop (HT.sIx xs.length 0 lo)).take (HT.sIx xs.length xs.length hi - HT.sIx xs.length 0 lo)
theorem cut_rw {T : CTb} {φ : List Addr} {H : Hp} {ws : List W} {vs : List V} {lo hi : Option Int} (r : RWs T φ H ws vs) : RWs T φ H (cutW ws lo hi) (cutV vs lo hi) := by
  unfold cutW cutV
  rw [← r.length]
  exact rws_take _ (rws_drop _ r)
def slAny : V → Option Int → Option Int → Hp → VK → Prop := fun x lo hi H Q => slL x lo hi H Q ∨ slS x lo hi H Q
theorem sl_any {X : Cx} : SlR X slAny := SlR.or sl_lstV sl_str
def slM (h : Mem) (a : W) (lo hi : Option Int) : Option W := match a with
  | .str z => if z.length ≤ sizeLine then some (.str (Txt.slice z lo hi)) else none
  | a => (items h a).map fun ws => .tl (cutW ws lo hi)
theorem slM_ok {T : CTb} : SlW T slM slAny := by
  intro φ h H a v lo hi w Q r ra e k
  unfold slM at e
  split at e
  · split at e
    · rename_i hz
      cases e
      rw [str_rw ra]
      exact .inr ⟨hz, here_k r rw_s k⟩
    · cases e
  · rw [Option.map_eq_some_iff] at e
    obtain ⟨ws, e, rfl⟩ := e
    obtain ⟨p, vs, rfl, q1, q2⟩ := items_ok r ra e
    refine .inl ?_
    show need (lstAt H p) _
    rw [q1]
    exact fun z hp => new_tl r hp (cut_rw q2) k
section
variable {X : Cx} {T : CTb}
/-! one argument -/
theorem rws_one {φ : List Addr} {H : Hp} {w : W} {vs : List V} (x : RWs T φ H [w] vs) : ∃ v, vs = [v] ∧ RW T φ H w v := by
  unfold RWs at x
  obtain ⟨v1, r1, rfl, x1, x2⟩ := x
  unfold RWs at x2; subst x2
  exact ⟨v1, rfl, x1⟩
theorem rws_two {φ : List Addr} {H : Hp} {w w' : W} {vs : List V} (x : RWs T φ H [w, w'] vs) : ∃ v v', vs = [v, v'] ∧ RW T φ H w v ∧ RW T φ H w' v' := by
  unfold RWs at x
  obtain ⟨v1, r1, rfl, x1, x2⟩ := x
  obtain ⟨v2, rfl, x3⟩ := rws_one x2
  exact ⟨v1, v2, rfl, x1, x3⟩
def lenM (h : Mem) : List W → Option W
  | [.str z] => if z.length ≤ sizeLine then some (.int z.length) else none
  | [.td ks _] => some (.int ks.length)
  | [.ref n] => (match h[n]? with
    | some (.dic kvs) => some (.int kvs.length)
    | some (.lst ws) => some (.int ws.length)
    | _ => none)
  | [w] => (seqs h w).map fun ws => .int ws.length
  | _ => none
theorem rp_length {κ : Type} {φ : List Addr} {H : Hp} {ps : List (κ × W)} {qs : List (κ × V)} (h : RP T φ H ps qs) : ps.length = qs.length := Paired.length h
theorem lenM_ok : CbW T lenM lenV := by
  intro φ h H ws vs w Q r x e k
  have seqc : ∀ (a : W) (u : V) (us : List W), RW T φ H a u → seqs h a = some us → (∀ p kvs, u = .ref p → H p ≠ some (.dK kvs)) → Q (.int us.length) H → lenV [u] H Q := by
    intro a u us ra e nd q
    obtain ⟨p, vs, rfl, q1, q2⟩ := seqs_ok r ra e
    show (match H p with | some (.dK kvs) => Q (.int kvs.length) H | _ => need (seqAt H p) fun ys => Q (.int ys.length) H)
    split
    · rename_i kvs ek
      exact absurd ek (nd p kvs rfl)
    · rw [q1]
      show Q (.int vs.length) H
      rw [← q2.length]; exact q
  unfold lenM at e
  split at e
  · obtain ⟨v, rfl, y0⟩ := rws_one x
    split at e
    · rename_i hz
      cases e
      rw [str_rw y0]
      exact ⟨hz, here_k r rw_int k⟩
    · cases e
  · obtain ⟨v, rfl, y0⟩ := rws_one x
    cases e
    unfold RW at y0
    obtain ⟨p, vs, rfl, _, c, l, rr⟩ := y0
    show (match H p with | some (.dK kvs) => Q (.int kvs.length) H | _ => need (seqAt H p) fun ys => Q (.int ys.length) H)
    rw [c]
    show Q (.int ((_ : List _).length : Nat)) H
    rw [List.length_zip, ← rr.length, ← l, Nat.min_self]
    exact here_k r rw_int k
  · obtain ⟨v, rfl, y0⟩ := rws_one x
    rename_i n
    have x0 := y0
    unfold RW at y0
    obtain ⟨p, a, rfl⟩ := y0
    split at e
    · rename_i kvs q
      cases e
      obtain ⟨ho, y, kv, rfl, z⟩ := r.obj n _ p q a
      show (match H p with | some (.dK kvs) => Q (.int kvs.length) H | _ => need (seqAt H p) fun ys => Q (.int ys.length) H)
      rw [y]
      show Q (.int kv.length) H
      rw [← rp_length z]
      exact here_k r rw_int k
    · rename_i us q
      cases e
      refine seqc (.ref n) (.ref p) us x0 (by show items h (.ref n) = _; simp [items, q]) (fun p' kvs e1 e2 => ?_) (here_k r rw_int k)
      cases e1
      obtain ⟨ho, y, kv, rfl, z⟩ := r.obj n _ p q a
      rw [y] at e2; cases e2
    · cases e
  · obtain ⟨v, rfl, y0⟩ := rws_one x
    rename_i _ w1 n1 n2 n3
    rw [Option.map_eq_some_iff] at e
    obtain ⟨us, e, rfl⟩ := e
    refine seqc w1 v us y0 e (fun p kvs e1 e2 => ?_) (here_k r rw_int k)
    subst e1
    cases w1 with
    | tup a => unfold RW at y0; obtain ⟨q, vs, e3, _, c, _⟩ := y0; cases e3; rw [e2] at c; cases c
    | tl a =>
      unfold RW at y0
      obtain ⟨q, vs, e3, _, c, _⟩ := y0
      cases e3
      rcases lstAt_rd c with z | ⟨o, z⟩ <;> (rw [e2] at z; cases z)
    | ref n => exact n3 n rfl
    | _ => cases e
  · cases e
/-! truth -/
def truM (h : Mem) : W → Option W
  | .non => some (.bl false)
  | .bl b => some (.bl b)
  | .int i => some (.bl (decide (i ≠ 0)))
  | .str y => if y.length ≤ sizeLine then some (.bl (decide (y.length ≠ 0))) else none
  | .tup ws => some (.bl (!ws.isEmpty))
  | .tl ws => some (.bl (!ws.isEmpty))
  | _ => none
theorem rws_isEmpty {φ : List Addr} {H : Hp} {ws : List W} {vs : List V} (r : RWs T φ H ws vs) : vs.isEmpty = ws.isEmpty := by
  cases ws with
  | nil => unfold RWs at r; subst r; rfl
  | cons w ws => unfold RWs at r; obtain ⟨v, s, rfl, _⟩ := r; rfl
theorem truM_ok {φ : List Addr} {H : Hp} {h : Mem} {a : W} {v : V} {b : Bool} {k : Bool → Prop} (x : RW T φ H a v) (e : truM h a = some (.bl b)) (q : k b) : truF H v k := by
  cases a with
  | non => cases e; unfold RW at x; subst x; exact q
  | bl c => cases e; unfold RW at x; subst x; exact q
  | int c => cases e; unfold RW at x; subst x; exact q
  | str c =>
    unfold RW at x; subst x
    by_cases hz : c.length ≤ sizeLine
    · simp only [truM, hz, if_true] at e
      cases e; exact ⟨hz, q⟩
    · simp [truM, hz] at e
  | tup ws =>
    cases e
    unfold RW at x
    obtain ⟨p, vs, rfl, _, c, d⟩ := x
    show (match H p with | some (.dK kvs) => k (!kvs.isEmpty) | _ => need (seqAt H p) fun xs => k (!xs.isEmpty))
    rw [c]
    show need (seqAt H p) _
    rw [seqAt_tup c]
    show k (!vs.isEmpty)
    rw [rws_isEmpty d]; exact q
  | tl ws =>
    cases e
    unfold RW at x
    obtain ⟨p, vs, rfl, _, c, d⟩ := x
    show (match H p with | some (.dK kvs) => k (!kvs.isEmpty) | _ => need (seqAt H p) fun xs => k (!xs.isEmpty))
    rcases lstAt_rd c with z | ⟨o, z⟩
    · rw [z]
      show need (seqAt H p) _
      rw [seqAt_lst z]
      show k (!vs.isEmpty)
      rw [rws_isEmpty d]; exact q
    · rw [z]
      have : seqAt H p = some vs := by unfold seqAt; rw [z]
      show need (seqAt H p) _
      rw [this]
      show k (!vs.isEmpty)
      rw [rws_isEmpty d]; exact q
  | _ => cases e
end
section
variable {X : Cx} {Z : Zc} {f : Ex} {a : Expr}
theorem pth_tru (ha : PE X a (tH Z f)) (he : ∀ whole, isTrue a X.env whole = (do let v ← whole; standAt a.pos; holding [v] (truthy v))) : PT X a (tHT Z (xUn truM f)) := (pt_tru ha he).imp fun σ H Q ⟨φ, m, ρ, x, q⟩ => ⟨φ, m, ρ, x, by
  unfold xUn at q
  rw [bindP] at q
  refine q.mono fun a h1 q1 => fun φ1 H1 v s1 r1 ra => ?_
  obtain ⟨w, e, b, rfl, k⟩ := ofP q1
  exact truM_ok (b := b) ra e (k φ1 H1 s1 r1)⟩
end
section
variable {X : Cx} {T : CTb}
def intW : List W → Option (List Int)
  | [] => some []
  | .int i :: r => (intW r).map (i :: ·)
  | _ :: _ => none
theorem intW_map (ns : List Int) : intW (ns.map W.int) = some ns := by
  induction ns with
  | nil => rfl
  | cons x r ih => rw [List.map_cons]; unfold intW; rw [ih]; rfl
def sumM (h : Mem) : List W → Option W
  | [w] => ((items h w).bind intW).map fun ns => .int ns.sum
  | _ => none
def intM (_ : Mem) : List W → Option W
  | [.int i] => some (.int i)
  | [.bl b] => some (.int (if b then 1 else 0))
  | _ => none
def maxM (_ : Mem) : List W → Option W
  | [.int i, .int j] => some (.int (if j > i then j else i))
  | _ => none
def minM (_ : Mem) : List W → Option W
  | [.int i, .int j] => some (.int (if j < i then j else i))
  | _ => none
def ordM (_ : Mem) : List W → Option W
  | [.str x] => if x.length = 1 then some (.int (x.cps.getD 0 0 : Nat)) else none
  | _ => none
def listM (h : Mem) : List W → Option W
  | [w] => (seqs h w).map .tl
  | _ => none
/-! is -/
def isNonW : W → Bool
  | .non => true
  | _ => false
def isNM (_ : Mem) (a b : W) : Option W := match b with
  | .non => some (.bl (isNonW a))
  | _ => none
def notNM (_ : Mem) (a b : W) : Option W := match b with
  | .non => some (.bl (!isNonW a))
  | _ => none
def isBM (_ : Mem) (a b : W) : Option W := match a, b with
  | .bl x, .bl y => some (.bl (decide (x = y)))
  | _, _ => none
def isnotBM (_ : Mem) (a b : W) : Option W := match a, b with
  | .bl x, .bl y => some (.bl (!decide (x = y)))
  | _, _ => none
theorem isnotBM_ok : OpW T isnotBM (fun x y H Q => ∃ a b, x = .bl a ∧ y = .bl b ∧ Q (.bl (!decide (a = b))) H) := by
  intro φ h H a b u v w Q r ra rb e k
  unfold isnotBM at e
  split at e
  · cases e
    exact ⟨_, _, bl_rw ra, bl_rw rb, here_k r rw_b k⟩
  · cases e
/-! texts -/
def strW : List W → Option (List Str)
  | [] => some []
  | .str i :: r => (strW r).map (i :: ·)
  | _ :: _ => none
def joinM (h : Mem) (a : W) (ws : List W) : Option W := match a, ws with
  | .str sep, [w] => ((items h w).bind strW).bind fun ts => if JoinOk sep ts = true then some (.str (Txt.join sep ts)) else none
  | _, _ => none
end
section
variable {X : Cx} {Z : Zc} {f : Ex} {fa : Exs} {o e : Expr} {apos cpos : Pos}
def xBmS (op : Mem → W → List W → Option W) (f : Ex) (g : Exs) : Ex := fun ρ h => (f ρ h).bind fun a h1 => match a with
  | .str z => (match g ρ h1 with
    | .ok ws h2 => .of (op h2 (.str z) ws) h2
    | .ex w h2 => .ex w h2
    | .no => .no)
  | _ => .no
instance pu_bms {o : Mem → W → List W → Option W} {f : Ex} {g : Exs} [hf : Pu f] [hg : PuS g] : Pu (xBmS o f g) := ⟨fun ρ h w h' e => by
  obtain ⟨a, h1, e1, e⟩ := bind_ok e
  split at e
  · cases e2 : g ρ h1 with
    | no => simp [e2] at e
    | ex _ _ => simp [e2] at e
    | ok b h2 => simp only [e2] at e; rw [(of_ok e).2, hg.pu _ _ _ _ e2, hf.pu _ _ _ _ e1]
  · cases e⟩
end
end M

set_option Elab.async false
set_option linter.all false
set_option maxRecDepth 100000
set_option maxHeartbeats 1000000
namespace M
open PySem PySem.Spec PyProof.Rows L2
/-! ## MQ: the rules, closed (so that no look at a goal unfolds the program) -/
structure QE (X : Cx) (Z : Zc) (e : Expr) (f : Ex) : Prop where
  pe : PE X e (tH Z f)
structure QT (X : Cx) (Z : Zc) (e : Expr) (f : Ex) : Prop where
  pt : PT X e (tHT Z f)
structure QW (X : Cx) (Z : Zc) (e : Expr) (f : Ex) : Prop where
  pw : PW X e (tHT Z f)
structure QA (X : Cx) (Z : Zc) (es : List Expr) (f : Exs) : Prop where
  pa : PA X es (tHA Z f)
structure QO (X : Cx) (Z : Zc) (e : Option Expr) (f : Eo) : Prop where
  po : PO X e (tHO Z f)
structure QI (X : Cx) (Z : Zc) (tg iter : Expr) (f : Ei) : Prop where
  pi : PI X tg iter (tHI Z f)
structure QC (X : Cx) (Z : Zc) (ifs : List Expr) (f : Ex) : Prop where
  pc : PCs X ifs (tHT Z f)
structure QG (X : Cx) (tg : Expr) (g : TG) : Prop where
  pg : PG X tg g
structure QGs (X : Cx) (tgs : List Expr) (g : TGs) : Prop where
  pg : PGs X tgs g
structure QS (X : Cx) (Z : Zc) (st : Stmt) (F : Sm) : Prop where
  ps : PS X st (tHS Z F)
structure QB (X : Cx) (Z : Zc) (sts : List Stmt) (F : Sm) : Prop where
  ps : PSs X sts (tHS Z F)
section
variable {X : Cx} {Z : Zc} {f g k : Ex} {fa : Exs} {fi : Ei} {l u : Eo} {e a b c : Expr} {es rest : List Expr} {pos p p2 : Pos} {F G B : Sm} {st : Stmt} {sts more : List Stmt} {tg iter : Expr} {x : Str} {gg : TG} {Gt : Tg}
theorem q_var (i : Nat) {pos : Pos} (hN : X.N[i]? = some x := by rfl) (hv : Vis X.env.scope x := by first | exact Or.inl rfl | exact Or.inr (Or.inl rfl) | exact Or.inr (Or.inr rfl)) (hd : (x == ("__debug__" : Str)) = false := by decide)
    (hcd : (x == ("__classdict__" : Str)) = false := by decide) : QE X Z (.Name x pos) (xVar i) := ⟨ph_var i (pe_var hN hv hd hcd)⟩
theorem q_int {i j pos} : QE X Z (.Constant (.int i) j pos) (xC (.int i)) := ⟨ph_int⟩
theorem q_bl {b j pos} : QE X Z (.Constant (.bool b) j pos) (xC (.bl b)) := ⟨ph_bl⟩
theorem q_str {x j pos} : QE X Z (.Constant (.str x) j pos) (xC (.str x)) := ⟨ph_str⟩
theorem q_gci {i : Int} (hg : Gl X x) (h : GC X.mg x (.int i)) (hd : (x == ("__debug__" : Str)) = false := by decide) : QE X Z (.Name x p) (xC (.int i)) := ⟨ph_gci hg h hd⟩
theorem q_ty (n : String) (hg : Gl X x) (hm : X.mg x = none) (hv : bootBuiltins x = some (.type n)) (hn : x ≠ "__name__" := by decide) (hd : (x == ("__debug__" : Str)) = false := by decide) : QE X Z (.Name x p) (xC (.ty n)) := ⟨ph_ty n hg hm hv hn hd⟩
theorem q_cls {C : Addr} (hg : Gl X x) (h : GC X.mg x (.ref C)) (hT : Z.T.any x = some C) (hd : (x == ("__debug__" : Str)) = false := by decide) : QE X Z (.Name x p) (xC (.cls x)) := ⟨ph_cls hg h hT hd⟩
theorem q_bin {op : Operator} {o : Mem → W → W → Option W} {r : R2} (ho : OpR X (binaryOp op) r) (hw : OpW Z.T o r) (ha : QE X Z a f) (hb : QE X Z b g) : QE X Z (.BinOp a op b pos) (xBin o f g) := ⟨ph_bin ho hw ha.pe hb.pe⟩
theorem q_cmp {op : CmpOp} {o : Mem → W → W → Option W} {r : R2} (ho : OpR X (compareOp op) r) (hw : OpW Z.T o r) (ha : QE X Z a f) (hb : QE X Z b g) (hm : behindInMarks op b = false) : QE X Z (.Compare a [op] [b] pos) (xBin o f g) := ⟨ph_cmp ho hw ha.pe hb.pe hm⟩
theorem qt_cmp {op : CmpOp} {o : Mem → W → W → Option W} {r : R2} (ho : OpR X (compareOp op) r) (hw : OpW Z.T o r) (ha : QE X Z a f) (hb : QE X Z b g) (hm : behindInMarks op b = false) : QT X Z (.Compare a [op] [b] pos) (xBin o f g) := ⟨pth_cmp ho hw ha.pe hb.pe hm⟩
theorem q_ix {o : Mem → W → W → Option W} {r : R2} (ho : IxR X r) (hw : OpW Z.T o r) (ha : QE X Z a f) (hb : QE X Z b g) (hs : PlainIx b) : QE X Z (.Subscript a b pos) (xBin o f g) := ⟨ph_ix ho hw ha.pe hb.pe hs⟩
theorem q_un {op : UnaryOp} {o : Mem → W → Option W} {r : V → Hp → VK → Prop} (ho : UnR X (unaryOp op) r) (hw : UnW Z.T o r) (ha : QE X Z a f) : QE X Z (.UnaryOp op a pos) (xUn o f) := ⟨ph_un ho hw ha.pe⟩
theorem qt_val (h : QE X Z e f) (he : ∀ whole, isTrue e X.env whole = (do let v ← whole; standAt e.pos; holding [v] (truthy v)) := by intro _; rfl) : QT X Z e f := ⟨pth_val h.pe he⟩
theorem qt_tru (h : QE X Z e f) (he : ∀ whole, isTrue e X.env whole = (do let v ← whole; standAt e.pos; holding [v] (truthy v)) := by intro _; rfl) : QT X Z e (xUn truM f) := ⟨pth_tru h.pe he⟩
theorem qt_not (h : QT X Z a f) : QT X Z (.UnaryOp .Not a pos) (xNot f) := ⟨pth_not h.pt⟩
theorem qt_w (h : QW X Z e f) : QT X Z e f := ⟨h.pw.pt⟩
theorem qw_or1 (h : QT X Z a f) : QW X Z (.BoolOp .Or [a] pos) f := ⟨pwh_or1 h.pt⟩
theorem qw_or (ha : QT X Z a f) (hb : QW X Z (.BoolOp .Or (b :: rest) pos) g) : QW X Z (.BoolOp .Or (a :: b :: rest) pos) (xOr f g) := ⟨pwh_or ha.pt hb.pw⟩
theorem q_and (ha : QE X Z a f) (hb : QE X Z (.BoolOp .And (b :: rest) pos) g) : QE X Z (.BoolOp .And (a :: b :: rest) pos) (xAnd f g) := ⟨ph_and ha.pe hb.pe⟩
theorem q_one {op} (h : QE X Z a f) : QE X Z (.BoolOp op [a] pos) f := ⟨ph_one h.pe⟩
theorem q_not (h : QE X Z a f) : QE X Z (.UnaryOp .Not a pos) (xNot f) := ⟨ph_not h.pe⟩
theorem q_if (hc : QT X Z c k) (ha : QE X Z a f) (hb : QE X Z b g) : QE X Z (.IfExp c a b pos) (xIf k f g) := ⟨ph_if hc.pt ha.pe hb.pe⟩
theorem qa_nil : QA X Z [] xNil := ⟨pah_nil⟩
theorem qa_cons (ha : QE X Z e f) (hr : QA X Z es fa) (hs : starEach (e :: es) X.env = (false, eval e X.env) :: starEach es X.env := by rfl) : QA X Z (e :: es) (xCons f fa) := ⟨pah_cons ha.pe hr.pa hs⟩
theorem q_tup {x1} (h : QA X Z es fa) : QE X Z (.Tuple es x1 pos) (xTup fa) := ⟨ph_tup h.pa⟩
theorem q_lst (h : QA X Z es fa) : QE X Z (.List es pos) (xLst fa) := ⟨ph_lst h.pa⟩
theorem q_lstN (h : QA X Z es fa) : QE X Z (.List es pos) (xLstN fa) := ⟨ph_lstN h.pa⟩
theorem q_cb {r : List V → Hp → VK → Prop} {o : Mem → List W → Option W} {id : String} (hw : CbW Z.T o r) (hc : CallR X (.builtin id) r) (hg : Gl X x) (hm : X.mg x = none) (hv : bootBuiltins x = some (.builtin id)) (ha : QA X Z (e :: es) fa) (hn : x ≠ "__name__" := by decide) (hdb : (x == ("__debug__" : Str)) = false := by decide)
    (he : starEach (e :: es) X.env = (false, eval e X.env) :: starEach es X.env := by rfl) (hpl : (backTo pos (starEach es X.env)).any (·.1) = false := by rfl) : QE X Z (.Call (.Name x p) (e :: es) [] pos) (xCb o fa) :=
  ⟨ph_cb hw (fun h => pe_callB hc hg hm hv h hn hdb he hpl) ha.pa⟩
theorem q_cty {r : List V → Hp → VK → Prop} {o : Mem → List W → Option W} {id : String} (hw : CbW Z.T o r) (hc : CallR X (.type id) r) (hg : Gl X x) (hm : X.mg x = none) (hv : bootBuiltins x = some (.type id)) (ha : QA X Z (e :: es) fa) (hn : x ≠ "__name__" := by decide) (hdb : (x == ("__debug__" : Str)) = false := by decide)
    (he : starEach (e :: es) X.env = (false, eval e X.env) :: starEach es X.env := by rfl) (hpl : (backTo pos (starEach es X.env)).any (·.1) = false := by rfl) : QE X Z (.Call (.Name x p) (e :: es) [] pos) (xCb o fa) :=
  ⟨ph_cb hw (fun h => pe_callTy hc hg hm hv h hn hdb he hpl) ha.pa⟩
theorem q_fn0 {kk j : Nat} {Fm' : Fm} (Gf : FnAt X.prog X.w X.K X.mg X.base CX0 kk x (spH Z.T Fm')) (hr : Room j X.A) (hkj : kk ≤ j) (hg : Gl X x) (ha : QA X Z (e :: es) fa) (hdb : (x == ("__debug__" : Str)) = false := by decide)
    (he : starEach (e :: es) X.env = (false, eval e X.env) :: starEach es X.env := by rfl) (hpl : (backTo pos (starEach es X.env)).any (·.1) = false := by rfl) (hcl : X.calm = true := by rfl) : QE X Z (.Call (.Name x p) (e :: es) [] pos) (xCall0 Fm' fa) := ⟨ph_fn0 Gf hr hkj hg ha.pa hdb he hpl hcl⟩
theorem qo_none : QO X Z none xPn := ⟨poh_none⟩
theorem qo_some (h : QE X Z e f) : QO X Z (some e) (xPs f) := ⟨poh_some h.pe⟩
theorem q_sl {lo hi : Option Expr} {op : Mem → W → Option Int → Option Int → Option W} {r : V → Option Int → Option Int → Hp → VK → Prop} (hr : SlR X r) (hw : SlW Z.T op r) (he : QE X Z e f) (hl : QO X Z lo l) (hu : QO X Z hi u) : QE X Z (.Subscript e (.Slice lo hi none p2) pos) (xSl op f l u) := ⟨ph_sl hr hw he.pe hl.po hu.po⟩
/-! targets -/
theorem qg_name {i : Nat} (hN : X.N.Nodup) (hi : X.N[i]? = some x) (hx : Loc X.env.scope x) (hf : X.fn x = true ∨ X.env.scope.names.lookup x = some .local := by first | exact .inl rfl | exact .inr rfl | assumption) : QG X (.Name x pos) (gName i) := ⟨pg_name hN hi hx hf⟩
theorem qg_cn {own fr : List Str} {scope : Scope} (i : Nat) {C : Addr} {s : Shared} {H : Hp} {pins : List (Addr × Obj)} {fp : List Addr} (hnd : (own ++ fr).Nodup) (hi : (own ++ fr)[i]? = some x) (hx : x ∈ own) (hl : scope.names.lookup x = some .local) : QG (cxComp X own fr scope C s H pins fp) (.Name x p) (gName i) := ⟨pg_cn i hnd hi hx hl⟩
theorem qgs_nil : QGs X [] gNil := ⟨pgs_nil⟩
/-! what is walked -/
theorem qi_list (h : QE X Z iter f) : QI X Z tg iter (xIl f) := ⟨phi_list h.pe⟩
theorem qi_range1 (hg : Gl X "range") (hm : X.mg "range" = none) (ha : QE X Z a f) (hs : starEach [a] X.env = [(false, eval a X.env)] := by rfl) : QI X Z tg (.Call (.Name "range" p) [a] [] pos) (xIr1 f) := ⟨phi_range1 hg hm ha.pe hs⟩
theorem qc_nil : QC X Z [] (xC (.bl true)) := ⟨pcsh_nil⟩
/-! statements -/
theorem qb_nil : QB X Z [] xNext := ⟨pssh_nil⟩
theorem qb_cons (h1 : QS X Z st F) (h2 : QB X Z sts G) : QB X Z (st :: sts) (xSeq F G) := ⟨pssh_cons h1.ps h2.ps⟩
theorem qb_one (h1 : QS X Z st F) : QB X Z [st] F := ⟨pssh_one h1.ps⟩
theorem qs_ret (he : QE X Z e f) : QS X Z (.Return (some e) pos) (xRet f) := ⟨psh_ret he.pe⟩
theorem qs_expr (he : QE X Z e f) (hs : swapsWith e none pos.line X.env = pure false := by rfl) : QS X Z (.Expr e pos) (xDrop f) := ⟨psh_expr he.pe hs⟩
theorem qs_if (hc : QT X Z c f) (ha : QB X Z sts F) (hb : QB X Z more G) : QS X Z (.If c sts more pos) (xIfS f F G) := ⟨psh_if hc.pt ha.ps hb.ps⟩
theorem qs_set {i : Nat} {pos' : Pos} (hN : X.N.Nodup) (hi : X.N[i]? = some x) (hx : Loc X.env.scope x) (hsg : ∀ σ v, Z.sg σ → Z.sg (σ.set i (some v))) (he : QE X Z e f) (hs : swapsWith e (some (.Name x pos')) pos.line X.env = pure false := by rfl)
    (hf : X.fn x = true ∨ X.env.scope.names.lookup x = some .local := by first | exact .inl rfl | exact .inr rfl | assumption) : QS X Z (.Assign [.Name x pos'] e pos) (xAsg (gN i) f) := ⟨psh_set hN hi hx hsg he.pe hs hf⟩
theorem qs_for (hw : TgW Z gg Gt) (hp : PassesOwn (model X.prog X.w) X.A X.env X.xe) (hc : X.calm = true) (hi : QI X Z tg iter fi) (hg : QG X tg gg) (hb : QB X Z sts B) (hs : ∀ x, foldedSetIterable iter X.env x = pure x := by intro _; rfl) :
    QS X Z (.For tg iter sts [] pos) (xFor fi Gt B) := ⟨psh_for hw hp hc hi.pi hg.pg hb.ps hs⟩
theorem qs_never : QS X Z st xNo := ⟨psh_never⟩
end
section
variable {P : Program} {w : World} {K : PySem.W.Frag} {mg : Str → Option Value} {base : Heap} {T : CTb}
theorem fun0q {x : Str} {st : Stmt} {N ps : List Str} {k : Nat} {F : Fm} {f : Addr} {fd : FuncData} {B : Sm} (R : Fun K x x st f fd) (S : FnScope N ps (defScope st))
    (hB : ∀ (cdv : Value) (A : Around) (outer : List Env) (s : Shared) (H : Hp) (E : XK) (φ0 : List Addr) (H0 : Hp), Room k (A.deeper (envOfC x (defScope st) s.heap.objs.size f cdv)) → QB (cxOf CX0 P w K mg base N x (defScope st) f cdv A outer s H E).nox (Zf T φ0 H0) (defBody st) B)
    (hx : ∀ ws h w m, F ws h ≠ .ex w m) (hF : Told ps.length N.length B F) : FnOk P w K mg base CX0 (k + 1) f fd ps (spH T F) := fun0 R S (fun a b c d e g h i j => (hB a b c d e g h i j).ps) hx hF
theorem def0q {x : Str} {st : Stmt} {N ps : List Str} {k : Nat} {F : Fm} {B : Sm} (R : DefAt K mg x st) (S : FnScope N ps (defScope st)) (hb : BindsAll x x st ps)
    (hB : ∀ (f : Addr) (cdv : Value) (A : Around) (outer : List Env) (s : Shared) (H : Hp) (E : XK) (φ0 : List Addr) (H0 : Hp), Room k (A.deeper (envOfC x (defScope st) s.heap.objs.size f cdv)) → QB (cxOf CX0 P w K mg base N x (defScope st) f cdv A outer s H E).nox (Zf T φ0 H0) (defBody st) B)
    (hx : ∀ ws h w m, F ws h ≠ .ex w m) (hF : Told ps.length N.length B F) : FnAt P w K mg base CX0 (k + 1) x (spH T F) := def0 R S hb (fun z a b c d e g h i j => (hB z a b c d e g h i j).ps) hx hF
end
end M
namespace M
open PySem PySem.Spec PyProof.Rows L2
/-! ## loops, told -/
theorem intW_eq : ∀ {ws : List W} {ns : List Int}, intW ws = some ns → ws = ns.map W.int
  | [], ns, e => by cases e; rfl
  | w :: ws, ns, e => by
    cases w with
    | int i =>
      unfold intW at e
      rw [Option.map_eq_some_iff] at e
      obtain ⟨ms, e, rfl⟩ := e
      rw [intW_eq e]; rfl
    | _ => cases e
/-- a loop in which no turn leaves -/
theorem xLoop_nx {G : Tg} {B : Sm} (I : Sg → Mem → Prop) : ∀ (ws : List W) (ρ : Sg) (h : Mem), I ρ h →
    (∀ w ∈ ws, ∀ ρ h, I ρ h → ∃ ρ1, G w ρ = some ρ1 ∧ ∃ ρ' h', (B ρ1 h = .nx ρ' h' ∨ B ρ1 h = .ct ρ' h') ∧ I ρ' h') → ∃ ρ' h', xLoop G B ws ρ h = .nx ρ' h' ∧ I ρ' h'
  | [], ρ, h, i, _ => ⟨ρ, h, rfl, i⟩
  | w :: r, ρ, h, i, hb => by
    obtain ⟨ρ1, e1, ρ', h', e2, i2⟩ := hb w List.mem_cons_self ρ h i
    obtain ⟨ρ2, h2, e3, i3⟩ := xLoop_nx I r ρ' h' i2 fun w m => hb w (List.mem_cons_of_mem _ m)
    refine ⟨ρ2, h2, ?_, i3⟩
    unfold xLoop
    rw [e1]
    rcases e2 with e2 | e2 <;> (simp only [e2]; exact e3)
/-- a law's promise: True of every script -/
def lawF : Fm := fun ws h => match ws with
  | [.tl l] => (match intW l with
    | some ns => if ns.length ≤ 63 ∧ h.isEmpty = true then .ok (.bl true) h else .no
    | none => .no)
  | _ => .no
theorem lawF_ex (ws : List W) (h : Mem) (w : W) (m : Mem) : lawF ws h ≠ .ex w m := by
  unfold lawF
  split
  · split
    · split <;> simp
    · simp
  · simp
theorem lawF_told {n : Nat} {B : Sm} (hB : ∀ ns : List Int, ns.length ≤ 63 → ∃ g, runB n B [.tl (ns.map W.int)] [] = .ok (.bl true) g) : Told 1 n B lawF := by
  intro ws h wf lt
  unfold lawF
  split
  · rename_i l
    cases e : intW l with
    | none => exact .inl rfl
    | some ns =>
      simp only
      split
      · rename_i hl
        have : h = [] := List.isEmpty_iff.mp hl.2
        subst this
        rw [intW_eq e]
        obtain ⟨g, q⟩ := hB ns hl.1
        refine .inr ⟨rfl, ?_⟩
        rw [q]
        exact fits_drop (h := []) (g := g) (Nat.le_refl _) (fun o m => by simp at m) rfl
      · exact .inl rfl
  · exact .inl rfl
theorem lawF_sp {K : PySem.W.Frag} {T : CTb} (hK : noList K = true) : ∀ vs H Q E, sp_law K vs H Q E → spH T lawF vs H Q E := law_sp hK fun ns hl => ⟨[], by simp [lawF, intW_map, hl]⟩
end M

set_option Elab.async false
set_option linter.all false
set_option maxRecDepth 100000
set_option maxHeartbeats 1000000
namespace L2
open PySem PySem.Spec PyProof.Rows
/-! ## MH: a text's signs, walked; all; in -/
section
variable {X : Cx} {tg : Expr}
/-- in: a list or a tuple of flat values, a text, a dict's keys -/
def inV2 (neg : Bool) : R2 := fun x y H Q => match y with
  | .str j => (match x with
    | .str i => Q (.bl (neg ^^ !(Builtin.Str.occurrences j i 0 j.length 1).isEmpty)) H
    | _ => False)
  | .ref p => (match H p with
    | some (.dK kvs) => ∃ k, x = kV k ∧ Q (.bl (neg ^^ (valV kvs k).isSome)) H
    | _ => need (seqAt H p) fun xs => flatV x = true ∧ xs.all flatV = true ∧ Q (.bl (neg ^^ inV x xs)) H)
  | _ => False
theorem seq_sq {K : PySem.W.Frag} {H : Hp} {p : Addr} {xs : List V} (h : seqAt H p = some xs) : SqL K H p xs ∨ SqT K H p xs := by
  rcases seqAt_or h with h | h
  · exact .inl (lstAt_sq h)
  · exact .inr (tupAt_sq h)
theorem op_notInV {k : Nat} (hr : Room k X.A) : OpR X (compareOp .NotIn) (inV2 true) := by
  intro pins s σ H x y v u Q I rx ry h
  unfold inV2 at h
  split at h
  · split at h
    · exact op_notIn_str pins s σ H _ _ v u Q I rx ry ⟨_, _, rfl, rfl, by simpa using h⟩
    · exact h.elim
  · split at h
    · rename_i p kvs e
      obtain ⟨k, rfl, q⟩ := h
      cases ry
      exact d_notIn (hu_of hr) I (.k e) rx fun s' I' => ⟨.bl _, H, I', rfl, by simpa using q⟩
    · obtain ⟨xs, e, h1, h2, q⟩ := need_ex h
      exact op_notIn_seq pins s σ H _ _ v u Q I rx ry ⟨_, xs, rfl, seq_sq e, h1, h2, by simpa using q⟩
  · exact h.elim
end
end L2
namespace M
open PySem PySem.Spec PyProof.Rows L2
section
variable {X : Cx} {Z : Zc} {f : Ex} {iter tg : Expr}
def signs (z : Str) : List W := z.cps.toList.map fun c => .str ⟨#[c]⟩
def xIs (f : Ex) : Ei := fun ρ h => match f ρ h with
  | .ok (.str z) h' => .ok none (signs z) h'
  | .ex w h' => .ex w h'
  | _ => .no
instance pu_is {f : Ex} [hf : Pu f] : PuI (xIs f) := ⟨fun ρ h s w h' e => by
  unfold xIs at e
  split at e
  · rename_i e1; cases e; exact hf.pu _ _ _ _ e1
  · cases e
  · cases e⟩
end
section
variable {T : CTb}
def bolW : List W → Option (List Bool)
  | [] => some []
  | .bl i :: r => (bolW r).map (i :: ·)
  | _ :: _ => none
def allBM (h : Mem) : List W → Option W
  | [w] => ((items h w).bind bolW).map fun bs => .bl (bs.all id)
  | _ => none
/-! in -/
def keyW : W → Option Key
  | .int i => some (.inl i)
  | .str x => some (.inr x)
  | _ => none
def getK {α : Type} (kvs : List (Key × α)) (k : Key) : Option α := (kvs.find? fun kv => decide (kv.1 = k)).map (·.2)
def dicts (h : Mem) : W → Option (List (Key × W))
  | .td ks ws => some (ks.zip ws)
  | .ref n => (match h[n]? with
    | some (.dic kvs) => some kvs
    | _ => none)
  | _ => none
def inM (neg : Bool) (h : Mem) (a b : W) : Option W := match b with
  | .str j => (match a with
    | .str i => some (.bl (neg ^^ !(Builtin.Str.occurrences j i 0 j.length 1).isEmpty))
    | _ => none)
  | b => (match dicts h b with
    | some kvs => (keyW a).map fun k => .bl (neg ^^ (getK kvs k).isSome)
    | none => (seqs h b).bind fun xs => if (flatW a && xs.all flatW) = true then some (.bl (neg ^^ xs.any fun y => eqFl y a)) else none)
theorem rp_getK {φ : List Addr} {H : Hp} {kvs : List (Key × W)} {kv : List (Key × V)} (r : RP T φ H kvs kv) (k : Key) : match getK kvs k, valV kv k with
    | some w, some v => RW T φ H w v
    | none, none => True
    | _, _ => False := by
  unfold getK valV
  induction r with
  | nil => trivial
  | @cons a b as bs h _ ih =>
    rw [List.find?_cons, List.find?_cons, h.1]
    by_cases e : b.1 = k
    · simp only [e, decide_true]
      exact h.2
    · simp only [e, decide_false]
      exact ih
theorem rp_zip {φ : List Addr} {H : Hp} {κ : Type} : ∀ {ks : List κ} {ws : List W} {vs : List V}, RWs T φ H ws vs → RP T φ H (ks.zip ws) (ks.zip vs)
  | [], ws, vs, r => by simp; exact .nil
  | k :: ks, [], vs, r => by unfold RWs at r; subst r; exact .nil
  | k :: ks, w :: ws, vs, r => by
    unfold RWs at r
    obtain ⟨v, s, rfl, a, b⟩ := r
    rw [List.zip_cons_cons, List.zip_cons_cons]
    exact .cons ⟨rfl, a⟩ (rp_zip b)
theorem dicts_ok {φ : List Addr} {H : Hp} {h : Mem} {w : W} {v : V} {kvs : List (Key × W)} (r : RH T φ h H) (x : RW T φ H w v) (e : dicts h w = some kvs) : ∃ p kv, v = .ref p ∧ H p = some (.dK kv) ∧ RP T φ H kvs kv := by
  cases w with
  | td ks ws =>
    cases e
    unfold RW at x
    obtain ⟨p, vs, rfl, _, c, l, rr⟩ := x
    exact ⟨p, _, rfl, c, rp_zip rr⟩
  | ref n =>
    unfold dicts at e
    unfold RW at x
    obtain ⟨p, a, rfl⟩ := x
    cases q : h[n]? with
    | none => simp [q] at e
    | some o =>
      cases o with
      | dic us =>
        simp [q] at e
        subst e
        obtain ⟨ho, y, kv, rfl, z⟩ := r.obj n _ p q a
        exact ⟨p, kv, rfl, y, z⟩
      | _ => simp [q] at e
  | _ => cases e
theorem keyW_ok {φ : List Addr} {H : Hp} {w : W} {v : V} {k : Key} (x : RW T φ H w v) (e : keyW w = some k) : v = kV k := by
  cases w with
  | int i => cases e; exact int_rw x
  | str i => cases e; exact str_rw x
  | _ => cases e
theorem any_flat {φ : List Addr} {H : Hp} {a : W} {u : V} (ra : RW T φ H a u) (fa : flatW a = true) : ∀ {ws : List W} {vs : List V}, RWs T φ H ws vs → ws.all flatW = true → vs.all flatV = true ∧ inV u vs = ws.any fun y => eqFl y a
  | [], vs, r, f => by unfold RWs at r; subst r; exact ⟨rfl, rfl⟩
  | w :: ws, vs, r, f => by
    unfold RWs at r
    obtain ⟨v, s, rfl, x, y⟩ := r
    rw [List.all_cons, Bool.and_eq_true] at f
    have ih := any_flat ra fa y f.2
    have f1 := flat_ok x f.1
    refine ⟨by rw [List.all_cons, f1.1, ih.1]; rfl, ?_⟩
    unfold inV at ih ⊢
    rw [List.any_cons, List.any_cons, ih.2, f1.2 ra fa]
theorem inM_ok {neg : Bool} : OpW T (inM neg) (inV2 neg) := by
  intro φ h H a b u v w Q r ra rb e k
  unfold inM at e
  split at e
  · rw [str_rw rb]
    split at e
    · cases e
      rw [str_rw ra]
      exact here_k r rw_b k
    · cases e
  · rename_i b' hb
    cases q : dicts h b with
    | some kvs =>
      rw [q] at e
      simp only [Option.map_eq_some_iff] at e
      obtain ⟨key, e1, rfl⟩ := e
      obtain ⟨p, kv, rfl, hp, rp⟩ := dicts_ok r rb q
      unfold inV2
      simp only [hp]
      refine ⟨key, keyW_ok ra e1, ?_⟩
      have := rp_getK rp key
      have e2 : (valV kv key).isSome = (getK kvs key).isSome := by
        cases z1 : getK kvs key <;> cases z2 : valV kv key <;> simp [z1, z2] at this ⊢
      rw [e2]
      exact here_k r rw_b k
    | none =>
      rw [q] at e
      simp only [Option.bind_eq_some_iff] at e
      obtain ⟨xs, e1, e2⟩ := e
      split at e2
      · rename_i hf
        cases e2
        rw [Bool.and_eq_true] at hf
        obtain ⟨p, vs, rfl, hp, rs⟩ := seqs_ok r rb e1
        have hd : ∀ kvs, H p ≠ some (.dK kvs) := fun kvs z => by
          unfold seqAt at hp; rw [z] at hp; cases hp
        have f := any_flat ra hf.1 rs hf.2
        have fin : need (seqAt H p) fun xs => flatV u = true ∧ xs.all flatV = true ∧ Q (.bl (neg ^^ inV u xs)) H := by
          rw [hp]
          exact ⟨(flat_ok ra hf.1).1, f.1, by rw [f.2]; exact here_k r rw_b k⟩
        show (match H p with
          | some (.dK kvs) => ∃ k, u = kV k ∧ Q (.bl (neg ^^ (valV kvs k).isSome)) H
          | _ => need (seqAt H p) fun xs => flatV u = true ∧ xs.all flatV = true ∧ Q (.bl (neg ^^ inV u xs)) H)
        cases z : H p with
        | none => exact fin
        | some o =>
          cases o with
          | dK kvs => exact absurd z (hd kvs)
          | _ => exact fin
      · cases e2
end
end M

set_option Elab.async false
set_option linter.all false
set_option maxRecDepth 100000
set_option maxHeartbeats 1000000
namespace M
open PySem PySem.Spec PyProof.Rows L2
/-! ## MI: reckoning with blocks and texts -/
/-- a def by its own body: what the machine makes of it -/
def selfF (n m : Nat) (B : Sm) : Fm := fun ws h => if ws.length = n then (match runB m B ws h with
  | .ok w h' => if h.length ≤ h'.length then .ok w h' else .no
  | _ => .no) else .no
theorem selfF_ok {n m : Nat} {B : Sm} {ws : List W} {h h' : Mem} {w : W} (hl : ws.length = n) (e : runB m B ws h = .ok w h') (hk : h.length ≤ h'.length) : selfF n m B ws h = .ok w h' := by
  unfold selfF
  rw [if_pos hl, e]
  simp [hk]
section
variable {P : Program} {w : World} {K : PySem.W.Frag} {mg : Str → Option Value} {base : Heap} {T : CTb}
theorem def0s {x : Str} {st : Stmt} {N ps : List Str} {k : Nat} {B : Sm} (R : DefAt K mg x st) (S : FnScope N ps (defScope st)) (hb : BindsAll x x st ps)
    (hB : ∀ (f : Addr) (cdv : Value) (A : Around) (outer : List Env) (s : Shared) (H : Hp) (E : XK) (φ0 : List Addr) (H0 : Hp), Room k (A.deeper (envOfC x (defScope st) s.heap.objs.size f cdv)) → QB (cxOf CX0 P w K mg base N x (defScope st) f cdv A outer s H E).nox (Zf T φ0 H0) (defBody st) B) :
    FnAt P w K mg base CX0 (k + 1) x (spH T (selfF ps.length N.length B)) := by
  refine def0q R S hb hB (fun ws h w m => ?_) fun ws h wf lt => ?_
  · unfold selfF
    split
    · split
      · split <;> simp
      · simp
    · simp
  · unfold selfF
    split
    · rename_i hl
      cases e : runB N.length B ws h with
      | ok w h' =>
        simp only
        split
        · rename_i hk
          exact .inr ⟨hl, fits_ok hk⟩
        · exact .inl rfl
      | ex w h' => exact .inl rfl
      | no => exact .inl rfl
    · exact .inl rfl
end
theorem atI_getD {α : Type} {l : List α} {i : Int} (d : α) (h0 : 0 ≤ i) (h1 : i < l.length) : atI l i = some (l.getD i.toNat d) := by
  rw [atI_get' h0]
  have : i.toNat < l.length := by omega
  simp [List.getD, this]
/-! texts by their codes -/
end M

set_option Elab.async false
set_option linter.all false
set_option maxRecDepth 100000
set_option maxHeartbeats 1000000
namespace L2
open PySem PySem.Spec PyProof.Rows PySem.Builtin.Str
/-! ## MJ: split; targets of two; more -/
section
variable {X : Cx}
end
end L2

set_option Elab.async false
set_option linter.all false
set_option maxRecDepth 100000
set_option maxHeartbeats 1000000
namespace M
open PySem PySem.Spec PyProof.Rows L2 PySem.Builtin.Str
/-! ## MK: what split at one sign makes -/
end M

set_option Elab.async false
set_option linter.all false
set_option maxRecDepth 100000
set_option maxHeartbeats 1000000
namespace M
open PySem PySem.Spec PyProof.Rows L2
/-! ## ML: split; targets of several names -/
section
variable {T : CTb}
def splitM (_ : Mem) (a : W) (ws : List W) : Option W := match a, ws with
  | .str z, [.str y] => if (y.length == 0) = false ∧ z.length ≤ sizeLine ∧ (Builtin.Str.partsBetween z (Builtin.Str.occurrences z y 0 z.length (z.length + 1)) y.length).length ≤ sizeLine then some (.tl ((Txt.split z y).map W.str)) else none
  | _, _ => none
end
section
variable {X : Cx} {Z : Zc} {f : Ex} {fa : Exs} {o e : Expr} {es : List Expr} {apos cpos pos : Pos}
theorem qgs_cons {t : TG} {u : TGs} (h1 : QG X e t) (h2 : QGs X es u) (hs : (assignEach (e :: es) X.env).map (·.2) = assign e X.env :: (assignEach es X.env).map (·.2) := by rfl) : QGs X (e :: es) (gCons t u) := ⟨pgs_cons h1.pg h2.pg hs⟩
theorem qg_tupV {k : Nat} {t : TGs} {n : Nat} (hc : X.calm = true) (h : QGs X es t) (hn : (assignEach es X.env).length = n := by rfl) (hst : (assignEach es X.env).findIdx? (·.1) = none := by rfl) : QG X (.Tuple es k pos) (gTupV n t) := ⟨pg_tupV hc h.pg hn hst⟩
def gT2 (i j : Nat) : Tg := fun w ρ => match w with
  | .tup [a, b] => some ((ρ.set i (some a)).set j (some b))
  | _ => none
theorem tg_tup2 {i j : Nat} (h1 : ∀ σ v, Z.sg σ → Z.sg (σ.set i (some v))) (h2 : ∀ σ v, Z.sg σ → Z.sg (σ.set j (some v))) : TgW Z (gTupV 2 (gCons (gName i) (gCons (gName j) gNil))) (gT2 i j) := by
  intro σ H φ h ρ w v ρ' Q x r e k
  unfold gT2 at e
  split at e
  · rename_i a b
    cases e
    unfold RW at r
    obtain ⟨p, vs, rfl, _, hp, rs⟩ := r
    obtain ⟨u1, u2, rfl, r1, r2⟩ := rws_two rs
    show need (tupAt H p) _
    rw [tupAt_of hp]
    exact ⟨rfl, u1, [u2], rfl, u2, [], rfl, rfl, k _ ((x.rs.set r1).set r2) (h2 _ _ (h1 _ _ x.sg))⟩
  · cases e
end
end M

set_option Elab.async false
set_option linter.all false
set_option maxRecDepth 100000
set_option maxHeartbeats 1000000
namespace M
open PySem PySem.Spec PyProof.Rows L2
/-! ## MN: instances: attributes, methods, making; lists that change -/
section
variable {T : CTb} {φ : List Addr} {H : Hp}
theorem rp_lookup {nm : Str} : ∀ {fs : List (Str × W)} {fv : List (Str × V)}, RP T φ H fs fv → (∀ w, fs.lookup nm = some w → ∃ v, fv.lookup nm = some v ∧ RW T φ H w v) ∧ (fs.lookup nm = none → fv.lookup nm = none)
  | [], fv, r => by
    cases r
    exact ⟨fun _ e => (by cases e), fun _ => rfl⟩
  | (a, x) :: fs, fv, r => by
    cases r with
    | cons p q =>
      rename_i b l
      obtain ⟨k, v⟩ := b
      obtain ⟨e, rx⟩ := p
      dsimp only at e rx
      subst e
      obtain ⟨i1, i2⟩ := rp_lookup (nm := nm) q
      rw [List.lookup_cons, List.lookup_cons]
      cases h : nm == a with
      | true => exact ⟨fun w e => by cases e; exact ⟨v, rfl, rx⟩, fun e => by cases e⟩
      | false => exact ⟨i1, i2⟩
def putW (f : Str) (w : W) : List (Str × W) → List (Str × W)
  | [] => [(f, w)]
  | (g, x) :: r => bif g == f then (g, w) :: r else (g, x) :: putW f w r
theorem rp_put {nm : Str} {w : W} {v : V} (x : RW T φ H w v) : ∀ {fs : List (Str × W)} {fv : List (Str × V)}, RP T φ H fs fv → RP T φ H (putW nm w fs) (putF nm v fv)
  | [], fv, r => by cases r; exact .cons ⟨rfl, x⟩ .nil
  | (a, y) :: fs, fv, r => by
    cases r with
    | cons p q =>
      rename_i b l
      obtain ⟨k, u⟩ := b
      obtain ⟨e, rx⟩ := p
      dsimp only at e rx
      subst e
      unfold putW putF
      by_cases h : a = nm
      · rw [if_pos h, beq_iff_eq.mpr h]
        exact .cons ⟨rfl, x⟩ q
      · rw [if_neg h, beq_eq_false_iff_ne.mpr h]
        exact .cons ⟨rfl, rx⟩ (rp_put x q)
def fldM (nm : Str) (h : Mem) : W → Option W
  | .ref n => (match h[n]? with
    | some (.ins _ fs) => fs.lookup nm
    | _ => none)
  | _ => none
/-- what a class must have for an attribute of its instances -/
def FldOk (K : PySem.W.Frag) (T : CTb) (nm : Str) : Prop := ∀ c C, T c = some C → Cls K C ∧ NoAttr K C nm
def rFld (K : PySem.W.Frag) (nm : Str) : V → Hp → VK → Prop := fun x H Q => ∃ a C dx fs v, x = .ref a ∧ H a = some (.ins C dx fs) ∧ Cls K C ∧ NoAttr K C nm ∧ fs.lookup nm = some v ∧ Q v H
theorem ref_ins {h : Mem} {n : Nat} {c : Str} {fs : List (Str × W)} {v : V} (r : RH T φ h H) (x : RW T φ H (.ref n) v) (e : h[n]? = some (.ins c fs)) : ∃ a C dx fv, v = .ref a ∧ φ[n]? = some a ∧ H a = some (.ins C dx fv) ∧ T c = some C ∧ RP T φ H fs fv := by
  unfold RW at x
  obtain ⟨a, ea, rfl⟩ := x
  obtain ⟨ho, y, C, dx, fv, rfl, hc, rp⟩ := r.obj n _ a e ea
  exact ⟨a, C, dx, fv, rfl, ea, y, hc, rp⟩
theorem fldM_ok {K : PySem.W.Frag} {nm : Str} (hK : FldOk K T nm) : UnW T (fldM nm) (rFld K nm) := by
  intro φ h H a u w Q r ra e k
  unfold fldM at e
  split at e
  · rename_i n
    split at e
    · rename_i c fs q
      obtain ⟨p, C, dx, fv, rfl, _, y, hc, rp⟩ := ref_ins r ra q
      obtain ⟨v, ev, rv⟩ := (rp_lookup rp).1 w e
      exact ⟨p, C, dx, fv, v, rfl, y, (hK c C hc).1, (hK c C hc).2, ev, k H v (Step.refl _ _) r rv⟩
    · cases e
  · cases e
end
def xSetF (nm : Str) (fo fv : Ex) : Sm := fun ρ h => match fv ρ h with
  | .ok y h1 => (match fo ρ h1 with
    | .ok (.ref n) h2 => (match h2[n]? with
      | some (.ins c fs) => bif decide (fs.length < 1000) then .nx ρ (h2.set n (.ins c (putW nm y fs))) else .no
      | _ => .no)
    | .ex w h2 => .ex w h2
    | _ => .no)
  | .ex w h1 => .ex w h1
  | .no => .no
/-- an operation of the list type that changes it: what comes, the list then -/
def xLm (op : List W → List W → Option (W × List W)) (f : Ex) (g : Exs) : Ex := fun ρ h => (f ρ h).bind fun a h1 => match a with
  | .ref n => (match h1[n]? with
    | some (.lst _) => (match g ρ h1 with
      | .ok ws h2 => (match h2[n]? with
        | some (.lst xs) => (match op xs ws with
          | some (w, ys) => .ok w (h2.set n (.lst ys))
          | none => .no)
        | _ => .no)
      | .ex w h2 => .ex w h2
      | .no => .no)
    | _ => .no)
  | _ => .no
def LmW (T : CTb) (op : List W → List W → Option (W × List W)) (r : V → List V → Hp → VK → Prop) : Prop := ∀ φ h H n ws vs u xs ys w Q, RH T φ h H → RW T φ H (.ref n) u → RWs T φ H ws vs → h[n]? = some (.lst xs) → op xs ws = some (w, ys) →
  (∀ H' x, Step φ H φ H' → RH T φ (h.set n (.lst ys)) H' → RW T φ H' w x → Q x H') → r u vs H Q
def appM : List W → List W → Option (W × List W) := fun xs ws => match ws with
  | [w] => bif decide (xs.length < sizeLine) then some (.non, xs ++ [w]) else none
  | _ => none
section
variable {T : CTb}
theorem ref_lst {φ : List Addr} {H : Hp} {h : Mem} {n : Nat} {xs : List W} {v : V} (r : RH T φ h H) (x : RW T φ H (.ref n) v) (e : h[n]? = some (.lst xs)) : ∃ a us, v = .ref a ∧ φ[n]? = some a ∧ H a = some (.lst us) ∧ RWs T φ H xs us := by
  unfold RW at x
  obtain ⟨a, ea, rfl⟩ := x
  obtain ⟨ho, y, us, rfl, rp⟩ := r.obj n _ a e ea
  exact ⟨a, us, rfl, ea, y, rp⟩
theorem appM_ok : LmW T appM rAppendV := by
  intro φ h H n ws vs u xs ys w Q r ru rv e1 e2 k
  obtain ⟨a, us, rfl, ea, y, rx⟩ := ref_lst r ru e1
  unfold appM at e2
  split at e2
  · rename_i w0
    cases hz : decide (xs.length < sizeLine) with
    | false => rw [hz] at e2; cases e2
    | true =>
      rw [hz] at e2
      cases e2
      obtain ⟨v, rfl, rv1⟩ := rws_one rv
      have ro : RO T φ H (.lst (xs ++ [w0])) (.lst (us ++ [v])) := ⟨_, rfl, rws_append rx (by unfold RWs; exact ⟨_, _, rfl, rv1, by unfold RWs; rfl⟩)⟩
      show match H a with | some (.lst xs) => _ | _ => False
      rw [y]
      exact ⟨by rw [← rx.length]; exact of_decide_eq_true hz, k _ _ (step_set (List.mem_of_getElem? ea)) (r.set ea ro) (by unfold RW; rfl)⟩
  · cases e2
end
section
variable {X : Cx} {Z : Zc} {f g k : Ex} {fa : Exs} {o e v : Expr} {es : List Expr} {apos cpos pos pos' : Pos} {nm : Str}
theorem q_fld (he : QE X Z e f) (hK : FldOk X.K Z.T nm) (hb : attributeBase e nm X.env (eval e X.env) = eval e X.env := by rfl) : QE X Z (.Attribute e nm pos) (xUn (fldM nm) f) :=
  ⟨(pe_fld he.pe hb).imp fun σ H Q ⟨φ, m, ρ, x, q⟩ => ⟨φ, m, ρ, x, by
    unfold xUn at q
    rw [bindP] at q
    refine q.mono fun a h1 q1 => fun φ1 H1 u s1 r1 ra => ?_
    obtain ⟨w, e, k⟩ := ofP q1
    exact fldM_ok hK φ1 h1 H1 a u w Q r1 ra e (k.step s1).end⟩⟩
theorem qs_fld (ho : QE X Z o f) (hv : QE X Z v g) (hK : FldOk X.K Z.T nm) (hs : swapsWith v (some (.Attribute o nm pos')) pos.line X.env = pure false := by rfl) : QS X Z (.Assign [.Attribute o nm pos'] v pos) (xSetF nm f g) :=
  ⟨(ps_fld ho.pe hv.pe hs).imp fun D σ H ⟨φ, m, ρ, x, q⟩ => ⟨φ, m, ρ, x, by
    unfold xSetF at q
    cases e1 : g ρ m with
    | no => rw [e1] at q; exact q.elim
    | ex w h1 => rw [e1] at q; exact q
    | ok y h1 =>
      rw [e1] at q
      intro φ1 H1 vy s1 r1 ry
      refine ⟨φ1, h1, ρ, x.step s1 r1, ?_⟩
      dsimp only at q
      cases e2 : f ρ h1 with
      | no => rw [e2] at q; exact q.elim
      | ex w h2 => rw [e2] at q; exact q
      | ok a h2 =>
        rw [e2] at q
        intro φ2 H2 va s2 r2 ra
        cases a with
        | ref n =>
          dsimp only at q
          cases e3 : h2[n]? with
          | none => rw [e3] at q; exact q.elim
          | some ob =>
            rw [e3] at q
            cases ob with
            | ins c fs =>
              dsimp only at q
              cases hz : decide (fs.length < 1000) with
              | false => rw [hz] at q; exact q.elim
              | true =>
                rw [hz] at q
                obtain ⟨p, C, dx, fv, rfl, ep, yp, hc, rp⟩ := ref_ins r2 ra e3
                have ro : RO Z.T φ2 H2 (.ins c (putW nm y fs)) (.ins C dx (putF nm vy fv)) := ⟨C, dx, _, rfl, hc, rp_put (ry.step s2) rp⟩
                have s3 := step_set (H := H2) (ho := .ins C dx (putF nm vy fv)) (List.mem_of_getElem? ep)
                exact ⟨p, C, dx, fv, rfl, yp, (hK c C hc).1, (hK c C hc).2, by rw [← rp_length rp]; exact of_decide_eq_true hz,
                  q φ2 _ σ (s1.trans (s2.trans s3)) (r2.set ep ro) (x.rs.step (s1.trans (s2.trans s3))) x.sg⟩
            | _ => exact q.elim
        | _ => exact q.elim⟩⟩
end
end M

set_option Elab.async false
set_option linter.all false
set_option maxRecDepth 100000
set_option maxHeartbeats 1000000
namespace M
open PySem PySem.Spec PyProof.Rows L2
/-! ## MO: calls of methods, of classes -/
section
variable {X : Cx} {Z : Zc} {f g k : Ex} {fa : Exs} {o e v : Expr} {es : List Expr} {apos cpos pos pos' p : Pos} {nm : Str}
theorem lm_ok {op : List W → List W → Option (W × List W)} {r : V → List V → Hp → VK → Prop} (hw : LmW Z.T op r) {K : PySem.W.Frag} {σ : St} {H : Hp} {Q : VK} (q : tH Z (xLm op f fa) σ H Q) : tBM K "list" r (tH Z f) (tHA Z fa) σ H Q := by
  obtain ⟨φ, m, ρ, x, q⟩ := q
  refine ⟨φ, m, ρ, x, ?_⟩
  unfold xLm at q
  rw [bindP] at q
  refine q.mono fun a h1 q1 => fun φ1 H1 u s1 r1 ra => ?_
  cases a with
  | ref n =>
    dsimp only at q1
    cases e1 : h1[n]? with
    | none => rw [e1] at q1; exact q1.elim
    | some ob =>
      rw [e1] at q1
      cases ob with
      | lst xs0 =>
        dsimp only at q1
        obtain ⟨a, us, rfl, ea, y, rx⟩ := ref_lst r1 ra e1
        refine ⟨.inl ⟨rfl, us, lstAt_sq (lstAt_of y)⟩, φ1, h1, ρ, x.step s1 r1, ?_⟩
        cases e2 : fa ρ h1 with
        | no => rw [e2] at q1; exact q1.elim
        | ex w h2 => rw [e2] at q1; exact q1
        | ok ws h2 =>
          rw [e2] at q1
          intro φ2 H2 vs s2 r2 rv
          dsimp only at q1
          cases e3 : h2[n]? with
          | none => rw [e3] at q1; exact q1.elim
          | some ob =>
            rw [e3] at q1
            cases ob with
            | lst xs =>
              dsimp only at q1
              cases e4 : op xs ws with
              | none => rw [e4] at q1; exact q1.elim
              | some wy =>
                rw [e4] at q1
                obtain ⟨w, ys⟩ := wy
                exact hw φ2 h2 H2 n ws vs _ xs ys w Q r2 (ra.step s2) rv e3 e4 fun H' z s r' rz => q1 φ2 H' z (s1.trans (s2.trans s)) r' rz
            | _ => exact q1.elim
      | _ => exact q1.elim
  | _ => exact q1.elim
theorem q_append (ho : QE X Z o f) (ha : QA X Z [e] fa) (hbase : attributeBase o "append" X.env (eval o X.env) = eval o X.env := by rfl)
    (hfew : ((backTo cpos (starEach [e] X.env)).all (fun x => !x.1) && (backToKw cpos (keywordEach [] X.env)).all (fun x => x.1.isSome)
      && decide (([e] : List Expr).length + ([] : List Keyword).length + (if ([] : List Keyword).isEmpty then 0 else 1) < 30)) = true := by rfl)
    (hline : (apos.endLine == cpos.line) = true := by rfl) (hs : starEach [e] X.env = (false, eval e X.env) :: starEach [] X.env := by rfl) (hplain : (backTo cpos (starEach [] X.env)).any (·.1) = false := by rfl) :
    QE X Z (.Call (.Attribute o "append" apos) [e] [] cpos) (xLm appM f fa) :=
  ⟨(pe_bm PySem.F.plainAttrs_list PySem.F.slot_list_append PySem.F.type_list_append mt_appendV ho.pe ha.pa hbase hfew hline hs hplain).imp fun σ H Q q => lm_ok appM_ok q⟩
/-! methods -/
def tMethA (CX : CXT) (k : Nat) (X : Cx) (m : Str) (E : XK) (ta : TE) (t : TA) : TE := fun σ H Q => ta σ H fun x H1 => ∃ a C dx fs f fd ps sp, x = .ref a ∧ H1 a = some (.ins C dx fs) ∧ Cls X.K C ∧ Meth X.K C m f ∧
  FnOk X.prog X.w X.K X.mg X.base CX k f fd ps sp ∧ Binds X.K fd ps [] ∧ fs.lookup m = none ∧ t σ H1 fun vs H2 => sp (x :: vs) H2 Q E
theorem pe_methA {CX : CXT} {k : Nat} {m : Str} {E : XK} {ta : TE} {t : TA} {pl : Sem Bool} (he : PE X o ta) (hr : Room k X.A) (hx : Passes CX X E) (ha : PA X (e :: es) t)
    (hst : starEach (e :: es) X.env = (false, eval e X.env) :: starEach es X.env := by rfl) (hpl : (backTo pos (starEach es X.env)).any (·.1) = false := by rfl)
    (ht : eval (.Call (.Attribute o m apos) (e :: es) [] pos) X.env = (do
      let ov ← eval o X.env
      standAt apos.atName
      let (f, first) ← holding [ov] (getMethod ov m pl)
      callWith pos f first (backTo pos (starEach (e :: es) X.env)) (backToKw pos (keywordEach [] X.env))) := by rfl) :
    PE X (.Call (.Attribute o m apos) (e :: es) [] pos) (tMethA CX k X m E ta t) := by
  intro pins s σ H Q I h
  refine PySem.W.methodCall_KW (pl := pl) (thn (he pins s σ H _ I h) fun u s1 ⟨x, H1, I1, rx, a, C, dx, fs, f, fd, ps, sp, ex, ea, c, hm, F, hb, l, q⟩ => ?_) ht
  subst ex
  obtain rfl : u = Value.ref a := rx
  refine getmeth_ok I1 ea c hm l ?_
  refine PySem.W.callWith_K (first := [.ref a]) (h₀ := X.base) I.ok.mod.kin hm.kp (thn (ha pos pins s1 σ H1 _ I1 q) fun us s2 ⟨vs, H2, I2, r, q2⟩ => ⟨I2.kIn, ?_⟩) hst hpl
  exact run_fn (us := .ref a :: us) (vs := .ref a :: vs) F hr hb .nil hx I2 (.cons rfl r) (by rw [List.append_nil]; exact q2)
theorem pe_methA0 {CX : CXT} {k : Nat} {m : Str} {E : XK} {ta : TE} {pl : Sem Bool} (he : PE X o ta) (hr : Room k X.A) (hx : Passes CX X E)
    (ht : eval (.Call (.Attribute o m apos) [] [] pos) X.env = (do
      let ov ← eval o X.env
      standAt apos.atName
      let (f, first) ← holding [ov] (getMethod ov m pl)
      callWith pos f first (backTo pos (starEach [] X.env)) (backToKw pos (keywordEach [] X.env))) := by rfl) :
    PE X (.Call (.Attribute o m apos) [] [] pos) (tMethA CX k X m E ta tNil) := by
  intro pins s σ H Q I h
  refine PySem.W.methodCall_KW (pl := pl) (thn (he pins s σ H _ I h) fun u s1 ⟨x, H1, I1, rx, a, C, dx, fs, f, fd, ps, sp, ex, ea, c, hm, F, hb, l, q⟩ => ?_) ht
  subst ex
  obtain rfl : u = Value.ref a := rx
  refine getmeth_ok I1 ea c hm l ?_
  exact PySem.W.callWith_K0 (first := [.ref a]) I1.kIn hm.kp (run_fn (us := [.ref a]) (vs := [.ref a]) F hr hb .nil hx I1 (.cons rfl .nil) q)
/-- a method of a class, with a promise -/
def MtAt (P : Program) (w : World) (K : PySem.W.Frag) (mg : Str → Option Value) (base : Heap) (T : CTb) (k : Nat) (c m : Str) (F : Fm) : Prop :=
  ∃ C f fd ps, T c = some C ∧ Meth K C m f ∧ FnOk P w K mg base CX0 k f fd ps (spH T F) ∧ Binds K fd ps []
abbrev Tab := Str → Option Fm
def TabAt (P : Program) (w : World) (K : PySem.W.Frag) (mg : Str → Option Value) (base : Heap) (T : CTb) (k : Nat) (m : Str) (tab : Tab) : Prop := ∀ c F, tab c = some F → MtAt P w K mg base T k c m F
def xMeth (m : Str) (tab : Tab) (f : Ex) (g : Exs) : Ex := fun ρ h => (f ρ h).bind fun a h1 => match a with
  | .ref n => (match h1[n]? with
    | some (.ins c fs) => (match tab c, fs.lookup m with
      | some F, none => (match g ρ h1 with
        | .ok ws h2 => (match F (.ref n :: ws) h2 with
          | .ok w h3 => .ok w h3
          | _ => .no)
        | .ex w h2 => .ex w h2
        | .no => .no)
      | _, _ => .no)
    | _ => .no)
  | _ => .no
theorem meth_ok {m : Str} {tab : Tab} {kk : Nat} {E : XK} (hI : InsOk X.K Z.T) (ht : TabAt X.prog X.w X.K X.mg X.base Z.T kk m tab) {σ : St} {H : Hp} {Q : VK} (q : tH Z (xMeth m tab f fa) σ H Q) : tMethA CX0 kk X m E (tH Z f) (tHA Z fa) σ H Q := by
  obtain ⟨φ, mm, ρ, x, q⟩ := q
  refine ⟨φ, mm, ρ, x, ?_⟩
  unfold xMeth at q
  rw [bindP] at q
  refine q.mono fun a h1 q1 => fun φ1 H1 u s1 r1 ra => ?_
  cases a with
  | ref n =>
    dsimp only at q1
    cases e1 : h1[n]? with
    | none => rw [e1] at q1; exact q1.elim
    | some ob =>
      rw [e1] at q1
      cases ob with
      | ins c fs =>
        dsimp only at q1
        obtain ⟨a, C, dx, fv, rfl, ea, y, hc, rp⟩ := ref_ins r1 ra e1
        cases et : tab c with
        | none => rw [et] at q1; exact q1.elim
        | some F =>
          cases el : fs.lookup m with
          | some w => rw [et, el] at q1; exact q1.elim
          | none =>
            rw [et, el] at q1
            obtain ⟨C', f', fd, ps, hc', hm, Fk, hb⟩ := ht c F et
            rw [hc] at hc'; cases hc'
            refine ⟨a, C, dx, fv, f', fd, ps, _, rfl, y, (hI c C hc).cl, hm, Fk, hb, (rp_lookup rp).2 el, φ1, h1, ρ, x.step s1 r1, ?_⟩
            dsimp only at q1
            cases e2 : fa ρ h1 with
            | no => rw [e2] at q1; exact q1.elim
            | ex w h2 => rw [e2] at q1; exact q1
            | ok ws h2 =>
              rw [e2] at q1
              intro φ2 H2 vs s2 r2 rv
              refine ⟨φ2, h2, .ref n :: ws, r2, by unfold RWs; exact ⟨_, _, rfl, ra.step s2, rv⟩, ?_⟩
              dsimp only at q1
              cases e3 : F (.ref n :: ws) h2 with
              | no => rw [e3] at q1; exact q1.elim
              | ex w h3 => rw [e3] at q1; exact q1.elim
              | ok w h3 => rw [e3] at q1; exact Kv.step q1 (s1.trans s2)
      | _ => exact q1.elim
  | _ => exact q1.elim
theorem q_meth {m : Str} {tab : Tab} {kk j : Nat} {pl : Sem Bool} (hI : InsOk X.K Z.T) (ht : TabAt X.prog X.w X.K X.mg X.base Z.T kk m tab) (hr : Room j X.A) (hkj : kk ≤ j) (ho : QE X Z o f) (ha : QA X Z (e :: es) fa)
    (hst : starEach (e :: es) X.env = (false, eval e X.env) :: starEach es X.env := by rfl) (hpl : (backTo pos (starEach es X.env)).any (·.1) = false := by rfl)
    (hev : eval (.Call (.Attribute o m apos) (e :: es) [] pos) X.env = (do
      let ov ← eval o X.env
      standAt apos.atName
      let (f, first) ← holding [ov] (getMethod ov m pl)
      callWith pos f first (backTo pos (starEach (e :: es) X.env)) (backToKw pos (keywordEach [] X.env))) := by rfl) (hcl : X.calm = true := by rfl) : QE X Z (.Call (.Attribute o m apos) (e :: es) [] pos) (xMeth m tab f fa) :=
  ⟨(pe_methA (pl := pl) ho.pe (hr.mono hkj) (pass0 hcl) ha.pa hst hpl hev).imp fun σ H Q q => meth_ok hI ht q⟩
theorem q_meth0 {m : Str} {tab : Tab} {kk j : Nat} {pl : Sem Bool} (hI : InsOk X.K Z.T) (ht : TabAt X.prog X.w X.K X.mg X.base Z.T kk m tab) (hr : Room j X.A) (hkj : kk ≤ j) (ho : QE X Z o f)
    (hev : eval (.Call (.Attribute o m apos) [] [] pos) X.env = (do
      let ov ← eval o X.env
      standAt apos.atName
      let (f, first) ← holding [ov] (getMethod ov m pl)
      callWith pos f first (backTo pos (starEach [] X.env)) (backToKw pos (keywordEach [] X.env))) := by rfl) (hcl : X.calm = true := by rfl) : QE X Z (.Call (.Attribute o m apos) [] [] pos) (xMeth m tab f xNil) :=
  ⟨(pe_methA0 (pl := pl) ho.pe (hr.mono hkj) (pass0 hcl) hev).imp fun σ H Q q => by
    obtain ⟨φ, mm, ρ, x, q⟩ := meth_ok (E := E0) hI ht q
    refine ⟨φ, mm, ρ, x, q.mono fun a h1 q1 => fun φ1 H1 u s1 r1 ra => ?_⟩
    obtain ⟨a, C, dx, fs, f', fd, ps, sp, z1, z2, z3, z4, z5, z6, z7, φ2, m2, ρ2, x2, z8⟩ := q1 φ1 H1 u s1 r1 ra
    exact ⟨a, C, dx, fs, f', fd, ps, sp, z1, z2, z3, z4, z5, z6, z7, z8 φ2 H1 [] (Step.refl _ _) x2.rh (by unfold RWs; rfl)⟩⟩
/-! making -/
def MkAt (P : Program) (w : World) (K : PySem.W.Frag) (mg : Str → Option Value) (base : Heap) (T : CTb) (k : Nat) (c : Str) (F : Fm) : Prop :=
  ∃ C f fd ps, T c = some C ∧ mg c = some (.ref C) ∧ Mk K C f ∧ FnOk P w K mg base CX0 k f fd ps (spH T F) ∧ Binds K fd ps []
def xMake (c : Str) (F : Fm) (g : Exs) : Ex := fun ρ h => match g ρ h with
  | .ok ws h1 => (match F (.ref h1.length :: ws) (h1 ++ [.ins c []]) with
    | .ok .non h2 => .ok (.ref h1.length) h2
    | _ => .no)
  | .ex w h1 => .ex w h1
  | .no => .no
theorem make_ok {c : Str} {C : Addr} {F : Fm} {E : XK} (hc : Z.T c = some C) {σ : St} {H : Hp} {Q : VK} (q : tH Z (xMake c F fa) σ H Q) : tMake C (spH Z.T F) [] E (tHA Z fa) σ H Q := by
  obtain ⟨φ, mm, ρ, x, q⟩ := q
  refine ⟨φ, mm, ρ, x, ?_⟩
  unfold xMake at q
  cases e2 : fa ρ mm with
  | no => rw [e2] at q; exact q.elim
  | ex w h2 => rw [e2] at q; exact q
  | ok ws h1 =>
    rw [e2] at q
    intro φ1 H1 vs s1 r1 rv a dx ha hd hne
    rw [List.append_nil]
    have ha' : upd H1 dx (.own a) a = none := by rw [upd_ne (Ne.symm hne)]; exact ha
    have s2 := step_tmp (φ := φ1) (ho := .own a) hd
    have s3 := step_new (φ := φ1) (ho := .ins C dx []) ha'
    have r2 := r1.tmp (ho := .own a) hd
    have r3 := r2.new (o := .ins c []) (ho := .ins C dx []) ha' ⟨C, dx, [], rfl, hc, .nil⟩
    have g0 : (φ1 ++ [a])[h1.length]? = some a := by rw [← r1.len]; simp
    refine ⟨φ1 ++ [a], h1 ++ [.ins c []], .ref h1.length :: ws, r3, by unfold RWs; exact ⟨_, _, rfl, by unfold RW; exact ⟨a, g0, rfl⟩, rv.step (s2.trans s3)⟩, ?_⟩
    dsimp only at q
    cases e3 : F (.ref h1.length :: ws) (h1 ++ [.ins c []]) with
    | no => rw [e3] at q; exact q.elim
    | ex w h3 => rw [e3] at q; exact q.elim
    | ok w h3 =>
      rw [e3] at q
      cases w with
      | non =>
        intro φ4 H4 v s4 r4 rw4
        refine ⟨by unfold RW at rw4; exact rw4, q φ4 H4 (.ref a) (s1.trans (s2.trans (s3.trans s4))) r4 ?_⟩
        unfold RW
        exact ⟨a, s4.get g0, rfl⟩
      | _ => exact q.elim
theorem q_make {c : Str} {F : Fm} {kk j : Nat} (Mx : MkAt X.prog X.w X.K X.mg X.base Z.T kk c F) (hr : Room j X.A) (hkj : kk + 1 ≤ j) (hg : Gl X c) (ha : QA X Z (e :: es) fa) (hdb : (c == ("__debug__" : Str)) = false := by decide)
    (he : starEach (e :: es) X.env = (false, eval e X.env) :: starEach es X.env := by rfl) (hpl : (backTo pos (starEach es X.env)).any (·.1) = false := by rfl) (hcl : X.calm = true := by rfl) : QE X Z (.Call (.Name c p) (e :: es) [] pos) (xMake c F fa) := by
  obtain ⟨C, f, fd, ps, hc, hm, Mc, Fk, hb⟩ := Mx
  exact ⟨(pe_make Mc Fk (hr.mono hkj) hg hm hb .nil (pass0 hcl) ha.pa hdb he hpl).imp fun σ H Q q => make_ok hc q⟩
/-! a def of a class, by the class's name -/
structure ClsFn (K : PySem.W.Frag) (C : Addr) (m : Str) (f : Addr) : Prop where
  ex : ∃ mc, PySem.W.specialIn K (.ref C) "__getattribute__" = some (some (.builtin "type.__getattribute__")) ∧ PySem.W.readsIn K C mc = true ∧ PySem.W.findCls K (.ref C) mc m = some (.val (.ref f))
  kp : PySem.W.keepIn K (.ref f) = true
def ClAt (P : Program) (w : World) (K : PySem.W.Frag) (mg : Str → Option Value) (base : Heap) (T : CTb) (k : Nat) (c m : Str) (F : Fm) : Prop :=
  ∃ C f fd ps, mg c = some (.ref C) ∧ ClsFn K C m f ∧ FnOk P w K mg base CX0 k f fd ps (spH T F) ∧ Binds K fd ps []
theorem q_clcall {c m : Str} {F : Fm} {kk j : Nat} {pl : Sem Bool} (Mx : ClAt X.prog X.w X.K X.mg X.base Z.T kk c m F) (hr : Room j X.A) (hkj : kk ≤ j) (hg : Gl X c) (ha : QA X Z (e :: es) fa) (hdb : (c == ("__debug__" : Str)) = false := by decide)
    (hst : starEach (e :: es) X.env = (false, eval e X.env) :: starEach es X.env := by rfl) (hpl : (backTo pos (starEach es X.env)).any (·.1) = false := by rfl)
    (hev : eval (.Call (.Attribute (.Name c p) m apos) (e :: es) [] pos) X.env = (do
      let ov ← eval (.Name c p) X.env
      standAt apos.atName
      let (f, first) ← holding [ov] (getMethod ov m pl)
      callWith pos f first (backTo pos (starEach (e :: es) X.env)) (backToKw pos (keywordEach [] X.env))) := by rfl) (hcl : X.calm = true := by rfl) : QE X Z (.Call (.Attribute (.Name c p) m apos) (e :: es) [] pos) (xCall0 F fa) := by
  obtain ⟨C, f, fd, ps, hm, ⟨⟨mc, h1, h2, h3⟩, kp⟩, Fk, hb⟩ := Mx
  refine ⟨PE.imp (t := tCall (spH Z.T F) [] E0 (tHA Z fa)) ?_ fun σ H Q q => call0_ok q⟩
  intro pins s σ H Q I h
  refine PySem.W.methodCall_KW (pl := pl) (ld_glob I hg hm ?_ hdb) hev
  refine PySem.W.method_cls I.kIn h1 (PySem.W.cls_value I.kIn h2 h3 rfl ?_)
  have I1 := I.tok (s.toks + 1)
  refine PySem.W.callWith_K (first := []) (h₀ := X.base) I.ok.mod.kin kp (thn (ha.pa pos pins _ σ H _ I1 h) fun us s2 ⟨vs, H2, I2, r, q2⟩ => ⟨I2.kIn, ?_⟩) hst hpl
  exact run_fn Fk (hr.mono hkj) hb .nil (pass0 hcl) I2 r q2
end
section
variable {P : Program} {w : World} {K : PySem.W.Frag} {mg : Str → Option Value} {base : Heap} {T : CTb}
/-- a def of a class as the text has it -/
theorem funM {x qual : Str} {st : Stmt} {N ps : List Str} {k : Nat} {F : Fm} {f : Addr} {fd : FuncData} {B : Sm} (R : Fun K x qual st f fd) (S : FnScope N ps (defScope st))
    (hB : ∀ (cdv : Value) (A : Around) (outer : List Env) (s : Shared) (H : Hp) (E : XK) (φ0 : List Addr) (H0 : Hp), Room k (A.deeper (envOfC qual (defScope st) s.heap.objs.size f cdv)) → QB (cxOf CX0 P w K mg base N qual (defScope st) f cdv A outer s H E).nox (Zf T φ0 H0) (defBody st) B)
    (hx : ∀ ws h w m, F ws h ≠ .ex w m) (hF : Told ps.length N.length B F) : FnOk P w K mg base CX0 (k + 1) f fd ps (spH T F) := by
  refine R.ok S (fun vs H Q E h => ?_) (fun cdv A outer s H vs Q E hr h => ?_)
  · obtain ⟨φ, h, ws, r, rv, q⟩ := h
    rcases hF ws h r.wf (by rw [← r.len]; exact rv.lt) with e | ⟨e, _⟩
    · rw [e] at q; exact q.elim
    · rw [← rv.length]; exact e
  · obtain ⟨φ, h, ws, r, rv, q⟩ := h
    refine ⟨_, (hB cdv A outer s H E φ H hr).ps, φ, h, startW N.length ws, ⟨trivial, Step.refl _ _, r, rs_start rv⟩, ?_⟩
    rcases hF ws h r.wf (by rw [← r.len]; exact rv.lt) with e | ⟨e, ft⟩
    · rw [e] at q; exact q.elim
    · exact body_ok r.len ft q fun _ _ _ _ e _ => hx _ _ _ _ e
theorem selfF_ex {n m : Nat} {B : Sm} (ws : List W) (h : Mem) (w : W) (m' : Mem) : selfF n m B ws h ≠ .ex w m' := by
  unfold selfF
  split
  · split
    · split <;> simp
    · simp
  · simp
theorem selfF_told {n m : Nat} {B : Sm} : Told n m B (selfF n m B) := fun ws h wf lt => by
  unfold selfF
  split
  · rename_i hl
    cases e : runB m B ws h with
    | ok w h' =>
      dsimp only
      split
      · rename_i hk
        exact .inr ⟨hl, fits_ok hk⟩
      · exact .inl rfl
    | ex w h' => exact .inl rfl
    | no => exact .inl rfl
  · exact .inl rfl
end
end M

set_option Elab.async false
set_option linter.all false
set_option maxRecDepth 100000
set_option maxHeartbeats 1000000
namespace M
open PySem PySem.Spec PyProof.Rows L2
/-! ## MP: comprehensions that make things; items set; dicts shown and read -/
def xBlkN (G : Tg) (c el : Ex) (ρ0 : Sg) (n0 : Nat) : List W → Mem → Option Mem
  | [], h => some h
  | w :: r, h => match G w ρ0 with
    | none => none
    | some ρ => (match c ρ h with
      | .ok (.bl true) h1 => (match el ρ h1 with
        | .ok x h2 => (match h2[n0]? with
          | some (.lst acc) => bif decide (acc.length < sizeLine) then xBlkN G c el ρ0 n0 r (h2.set n0 (.lst (acc ++ [x]))) else none
          | _ => none)
        | _ => none)
      | .ok (.bl false) h1 => xBlkN G c el ρ0 n0 r h1
      | _ => none)
def xCompN (fi : Ei) (own : Nat) (ix : List Nat) (G : Tg) (c el : Ex) : Ex := fun ρ h => match fi ρ h with
  | .ok none ws h1 => (match xBlkN G c el (ρC own ix ρ) h1.length ws (h1 ++ [.lst []]) with
    | some h2 => .ok (.ref h1.length) h2
    | none => .no)
  | .ex w h1 => .ex w h1
  | _ => .no
section
variable {X : Cx} {Z : Zc} {f g k : Ex} {fa : Exs} {fi : Ei} {osc : Scope} {N own fr : List Str} {ix : List Nat} {scope : Scope} {tg iter elt : Expr} {ifs : List Expr} {pos : Pos} {e c : Expr}
theorem blkN_ok {gg : TG} {G : Tg} {cc el : Ex} {T : CTb} {σ : St} {ρ : Sg} {φ1 : List Addr} {H1 : Hp} {h1 out : Mem} {J : It} {ws : List W} (hG : TgW (Zb T own ix σ) gg G)
    (r1 : RH T φ1 h1 H1) (rs : RS T φ1 H1 ρ σ) (it : ItOk T φ1 H1 J ws (srcP none ws)) (q : xBlkN G cc el (ρC own.length ix ρ) h1.length ws (h1 ++ [.lst []]) = some out) (acc : Addr) (ha : H1 acc = none) {Q : Hp → Prop}
    (k : ∀ φ' H', Step φ1 H1 φ' H' → RH T φ' out H' → φ'[h1.length]? = some acc → Q H') :
    tBlock J (σC own ix σ) acc gg (tHT (Zb T own ix σ) cc) (tH (Zb T own ix σ) el) Q (upd H1 acc (.lst [])) := by
  have s0 := step_new (φ := φ1) (ho := .lst []) ha
  have rb := r1.new (o := .lst []) ha (by unfold RO; exact ⟨[], rfl, by unfold RWs; rfl⟩)
  have hn0 : (φ1 ++ [acc])[h1.length]? = some acc := by rw [← r1.len]; simp
  refine ⟨fun i m H => m = ws.length - i ∧ i ≤ ws.length ∧ ∃ φ h, Step (φ1 ++ [acc]) (upd H1 acc (.lst [])) φ H ∧ RH T φ h H ∧ xBlkN G cc el (ρC own.length ix ρ) h1.length (ws.drop i) h = some out,
    ⟨ws.length, by simp, Nat.zero_le _, _, _, Step.refl _ _, rb, q⟩, ?_⟩
  rintro i m H ⟨rfl, hi, φ, h, sH, rH, q⟩
  have hn := sH.get hn0
  by_cases hlt : i < ws.length
  · have ed : ws.drop i = ws[i] :: ws.drop (i + 1) := List.drop_eq_getElem_cons hlt
    have ei : ws[i]? = some ws[i] := by simp [hlt]
    refine .inr ⟨it.go _ H _ i _ (s0.trans sH) rH trivial ei, fun x H' yl => ?_⟩
    obtain ⟨rfl, rwx⟩ := it.yld _ H _ i _ x H' (s0.trans sH) rH trivial ei yl
    rw [ed] at q
    unfold xBlkN at q
    cases e2 : G ws[i] (ρC own.length ix ρ) with
    | none => rw [e2] at q; cases q
    | some ρ' =>
      rw [e2] at q
      simp only at q
      have x0 : Here (Zb T own ix σ) (σC own ix σ) H' φ h (ρC own.length ix ρ) := ⟨leS_refl _, step_nil, rH, rs_C (rs.step (s0.trans sH))⟩
      refine hG _ _ _ _ _ _ x ρ' _ x0 rwx e2 fun σ' rs' le => ⟨le, ?_⟩
      have x1 : Here (Zb T own ix σ) σ' H' φ h ρ' := ⟨le, step_nil, rH, rs'⟩
      refine ⟨_, _, ρ', x1, ?_⟩
      cases e3 : cc ρ' h with
      | no => rw [e3] at q; cases q
      | ex w h2 => rw [e3] at q; cases q
      | ok w h2 =>
        rw [e3] at q
        cases w with
        | bl b =>
          refine ⟨b, rfl, fun φ3 H3 s3 r3 => ?_⟩
          cases b with
          | false =>
            exact iteF ⟨ws.length - (i + 1), by omega, rfl, hlt, φ3, h2, sH.trans s3, r3, q⟩
          | true =>
            refine iteT ⟨_, _, ρ', x1.step s3 r3, ?_⟩
            simp only at q
            cases e5 : el ρ' h2 with
            | no => rw [e5] at q; cases q
            | ex w h3 => rw [e5] at q; cases q
            | ok y h3 =>
              rw [e5] at q
              simp only at q
              cases e6 : h3[h1.length]? with
              | none => rw [e6] at q; cases q
              | some ob =>
                rw [e6] at q
                cases ob with
                | lst aw =>
                  simp only at q
                  cases hz : decide (aw.length < sizeLine) with
                  | false => rw [hz] at q; cases q
                  | true =>
                    rw [hz] at q
                    intro φ4 H4 v s4 r4 rw4
                    have hn4 := s4.get (s3.get hn)
                    obtain ⟨ho, y1, ys, rfl, y2⟩ := r4.obj h1.length (.lst aw) acc e6 hn4
                    have lw := y2.length
                    have s5 := step_set (H := H4) (ho := .lst (ys ++ [v])) (List.mem_of_getElem? hn4)
                    have r5 := r4.set (o := .lst (aw ++ [y])) (ho := .lst (ys ++ [v])) hn4 (by unfold RO; exact ⟨_, rfl, rws_snoc y2 rw4⟩)
                    exact ⟨ys, y1, by rw [← lw]; exact of_decide_eq_true hz, ws.length - (i + 1), by omega, rfl, hlt, φ4, _, (sH.trans s3).trans (s4.trans s5), r5, q⟩
                | _ => cases q
        | _ => cases q
  · have e : i = ws.length := by omega
    subst e
    rw [List.drop_length] at q
    unfold xBlkN at q
    have q := Option.some.inj q
    subst q
    exact .inl ⟨it.stop _ H _ (s0.trans sH) rH trivial, k φ H (s0.trans sH) rH hn⟩
theorem qs_setcN {gg : TG} {G : Tg} {cc el : Ex} {i : Nat} {x : Str} {px spos : Pos} (hnd : X.N.Nodup) (hi' : X.N[i]? = some x) (hl : X.env.scope.names.lookup x = some .local) (hsg : ∀ σ v, Z.sg σ → Z.sg (σ.set i (some v))) (hcalm : X.calm = true) (ho : X.env.scope = osc) (hN : X.N = N)
    (hk : compOk osc N own fr ix scope = true) (hi : QI X Z tg iter fi) (hG : ∀ σ, TgW (Zb Z.T own ix σ) gg G)
    (hg : InC X own fr scope fun Y => QG Y tg gg) (ht : ∀ σ, InC X own fr scope fun Y => QC Y (Zb Z.T own ix σ) ifs cc) (hel : ∀ σ, InC X own fr scope fun Y => QE Y (Zb Z.T own ix σ) elt el) (hs : ∀ x, foldedSetIterable iter X.env x = pure x := by intro _; rfl)
    (hsw : swapsWith (.ListComp elt [⟨tg, iter, ifs, 0⟩] scope pos) (some (.Name x px)) spos.line X.env = pure true := by rfl) :
    QS X Z (.Assign [.Name x px] (.ListComp elt [⟨tg, iter, ifs, 0⟩] scope pos) spos) (xAsg (gN i) (xCompN fi own.length ix G cc el)) := ⟨by
  intro pins s σ H D I q
  refine ps_setc hnd hi' hl hcalm ho hN hk hi.pi (fun a b c d e => (hg a b c d e).pg) (fun a b c d e => (ht σ a b c d e).pc) (fun a b c d e => (hel σ a b c d e).pe) hs hsw pins s σ H D I ?_
  obtain ⟨φ, h, ρ, x, q⟩ := q
  refine ⟨φ, h, ρ, x, ?_⟩
  unfold xAsg xCompN at q
  cases e : fi ρ h with
  | no => rw [e] at q; exact q.elim
  | ex w h' => rw [e] at q; exact q
  | ok src ws h1 =>
    rw [e] at q
    cases src with
    | some n => exact q.elim
    | none =>
      simp only at q
      cases e2 : xBlkN G cc el (ρC own.length ix ρ) h1.length ws (h1 ++ [.lst []]) with
      | none => rw [e2] at q; exact q.elim
      | some out =>
        rw [e2] at q
        intro φ1 H1 J s1 r1 sp it acc ha
        exact blkN_ok (hG σ) r1 (x.rs.step s1) it e2 acc ha fun φ' H' s2 r2 hn => q φ' H' _ (s1.trans s2) r2 ((x.rs.step (s1.trans s2)).set (by unfold RW; exact ⟨acc, hn, rfl⟩)) (hsg _ _ x.sg)⟩
end
/-! items set -/
def setM (h : Mem) (o i v : W) : Option Mem := match o, i with
  | .ref n, .int k => (match h[n]? with
    | some (.lst xs) => (ixN xs.length k).map fun j => h.set n (.lst (xs.set j v))
    | _ => none)
  | _, _ => none
def xSetI (fo fi fv : Ex) : Sm := fun ρ h => match fv ρ h with
  | .ok v h1 => (match fo ρ h1 with
    | .ok o h2 => (match fi ρ h2 with
      | .ok i h3 => (match setM h3 o i v with
        | some h4 => .nx ρ h4
        | none => .no)
      | .ex w h3 => .ex w h3
      | .no => .no)
    | .ex w h2 => .ex w h2
    | .no => .no)
  | .ex w h1 => .ex w h1
  | .no => .no
theorem rws_set {T : CTb} {φ : List Addr} {H : Hp} {w : W} {v : V} (x : RW T φ H w v) : ∀ {ws : List W} {vs : List V} {j : Nat}, RWs T φ H ws vs → RWs T φ H (ws.set j w) (vs.set j v)
  | [], vs, j, r => by unfold RWs at r; subst r; simp; unfold RWs; rfl
  | a :: ws, vs, j, r => by
    unfold RWs at r
    obtain ⟨u, s, rfl, p, q⟩ := r
    cases j with
    | zero => rw [List.set_cons_zero, List.set_cons_zero]; unfold RWs; exact ⟨_, _, rfl, x, q⟩
    | succ j => rw [List.set_cons_succ, List.set_cons_succ]; unfold RWs; exact ⟨_, _, rfl, p, rws_set x q⟩
section
variable {X : Cx} {Z : Zc} {f g k : Ex} {o i v : Expr} {pos pos' : Pos}
theorem qs_seti (ho : QE X Z o f) (hi : QE X Z i g) (hv : QE X Z v k)
    (ha : ∀ w, assign (.Subscript o i pos') X.env w = (do
      let ov ← holding [w] (eval o X.env)
      let iv ← holding [w, ov] (eval i X.env)
      standAt pos'
      holding [w, ov, iv] (setItem ov iv w)
      release [w, ov, iv] []) := by intro _; rfl)
    (hs : swapsWithSole [.Subscript o i pos'] v pos.line X.env = pure false := by rfl) (hw : swappedStores [.Subscript o i pos'] v X.env = pure none := by rfl)
    (h1 : (assignEach [.Subscript o i pos'] X.env).map (·.2) = [assign (.Subscript o i pos') X.env] := by rfl) : QS X Z (.Assign [.Subscript o i pos'] v pos) (xSetI f g k) :=
  ⟨(ps_asg hv.pe (pg_sub ho.pe hi.pe set_list ha) hs hw h1).imp fun D σ H ⟨φ, m, ρ, x, q⟩ => ⟨φ, m, ρ, x, by
    unfold xSetI at q
    cases e1 : k ρ m with
    | no => rw [e1] at q; exact q.elim
    | ex w h1 => rw [e1] at q; exact q
    | ok y h1 =>
      rw [e1] at q
      intro φ1 H1 vy s1 r1 ry
      refine ⟨φ1, h1, ρ, x.step s1 r1, ?_⟩
      dsimp only at q
      cases e2 : f ρ h1 with
      | no => rw [e2] at q; exact q.elim
      | ex w h2 => rw [e2] at q; exact q
      | ok a h2 =>
        rw [e2] at q
        intro φ2 H2 va s2 r2 ra
        refine ⟨φ2, h2, ρ, (x.step s1 r1).step s2 r2, ?_⟩
        dsimp only at q
        cases e3 : g ρ h2 with
        | no => rw [e3] at q; exact q.elim
        | ex w h3 => rw [e3] at q; exact q
        | ok b h3 =>
          rw [e3] at q
          intro φ3 H3 vb s3 r3 rb
          dsimp only at q
          cases e4 : setM h3 a b y with
          | none => rw [e4] at q; exact q.elim
          | some h4 =>
            rw [e4] at q
            unfold setM at e4
            split at e4
            · rename_i n j
              split at e4
              · rename_i xs e5
                rw [Option.map_eq_some_iff] at e4
                obtain ⟨jj, e6, rfl⟩ := e4
                obtain ⟨p, us, rfl, ep, yp, rx⟩ := ref_lst r3 (ra.step s3) e5
                have ry3 := ry.step (s2.trans s3)
                have s4 := step_set (H := H3) (ho := .lst (us.set jj vy)) (List.mem_of_getElem? ep)
                have r4 := r3.set (o := .lst (xs.set jj y)) (ho := .lst (us.set jj vy)) ep ⟨_, rfl, rws_set ry3 rx⟩
                exact ⟨p, us, j, jj, rfl, int_rw rb, yp, by rw [← rx.length]; exact e6, q φ3 _ σ (s1.trans (s2.trans (s3.trans s4))) r4 (x.rs.step (s1.trans (s2.trans (s3.trans s4)))) x.sg⟩
              · cases e4
            · cases e4⟩⟩
end
/-! dicts shown -/
def xPairs : List (Ex × Ex) → Sg → Mem → Option (List (W × W) × Mem)
  | [], _, h => some ([], h)
  | (k, v) :: r, ρ, h => match k ρ h with
    | .ok a h1 => (match v ρ h1 with
      | .ok b h2 => (match xPairs r ρ h2 with
        | some (ps, h3) => some ((a, b) :: ps, h3)
        | none => none)
      | _ => none)
    | _ => none
def keysW : List (W × W) → Option (List (Key × W))
  | [] => some []
  | (k, w) :: r => match keyW k, keysW r with
    | some a, some l => some ((a, w) :: l)
    | _, _ => none
def ndK (l : List Key) : Bool := decide l.Nodup
def xDisp (gs : List (Ex × Ex)) : Ex := fun ρ h => match xPairs gs ρ (h ++ [.dic []]) with
  | some (ps, h2) => (match keysW ps, h2[h.length]? with
    | some kvs, some (.dic []) => bif (decide (kvs.length ≤ 15) && ndK (kvs.map (·.1))) then .ok (.ref h.length) (h2.set h.length (.dic kvs)) else .no
    | _, _ => .no)
  | none => .no
structure QP (X : Cx) (Z : Zc) (pos : Pos) (keys : List (Option Expr)) (values : List Expr) (gs : List (Ex × Ex)) : Prop where
  pp : PPs X pos keys values (gs.map fun p => (tH Z p.1, tH Z p.2))
abbrev R2W (T : CTb) (φ : List Addr) (H : Hp) : List (W × W) → List (V × V) → Prop := Paired fun p q => RW T φ H p.1 q.1 ∧ RW T φ H p.2 q.2
section
variable {X : Cx} {Z : Zc} {f g : Ex} {k v : Expr} {pos : Pos} {keys : List (Option Expr)} {values : List Expr} {gs : List (Ex × Ex)}
theorem qp_nil : QP X Z pos [] [] [] := ⟨pps_nil⟩
theorem qp_cons (hk : QE X Z k f) (hv : QE X Z v g) (hr : QP X Z pos keys values gs) : QP X Z pos (some k :: keys) (v :: values) ((f, g) :: gs) := ⟨pps_cons hk.pe hv.pe hr.pp⟩
theorem pairs_ok {σ : St} {ρ : Sg} : ∀ {gs : List (Ex × Ex)} {φ : List Addr} {H : Hp} {h h' : Mem} {ps : List (W × W)} {Q : List (V × V) → Hp → Prop}, Here Z σ H φ h ρ → xPairs gs ρ h = some (ps, h') →
    (∀ φ' H' vs, Step φ H φ' H' → RH Z.T φ' h' H' → R2W Z.T φ' H' ps vs → Q vs H') → tPairs (gs.map fun p => (tH Z p.1, tH Z p.2)) σ H Q
  | [], φ, H, h, h', ps, Q, x, e, k => by
    cases e
    exact k φ H [] (Step.refl _ _) x.rh .nil
  | (f, g) :: gs, φ, H, h, h', ps, Q, x, e, k => by
    unfold xPairs at e
    refine ⟨φ, h, ρ, x, ?_⟩
    show (f ρ h).post _ _
    cases e1 : f ρ h with
    | no => rw [e1] at e; cases e
    | ex w h1 => rw [e1] at e; cases e
    | ok a h1 =>
      rw [e1] at e
      dsimp only at e
      intro φ1 H1 va s1 r1 ra
      refine ⟨φ1, h1, ρ, x.step s1 r1, ?_⟩
      show (g ρ h1).post _ _
      cases e2 : g ρ h1 with
      | no => rw [e2] at e; cases e
      | ex w h2 => rw [e2] at e; cases e
      | ok b h2 =>
        rw [e2] at e
        dsimp only at e
        intro φ2 H2 vb s2 r2 rb
        cases e3 : xPairs gs ρ h2 with
        | none => rw [e3] at e; cases e
        | some pr =>
          obtain ⟨ps', h3⟩ := pr
          rw [e3] at e
          cases e
          exact pairs_ok ((x.step s1 r1).step s2 r2) e3 fun φ3 H3 vs s3 r3 rr => k φ3 H3 _ (s1.trans (s2.trans s3)) r3 (.cons ⟨ra.step (s2.trans s3), rb.step s3⟩ rr)
theorem keysW_ok {T : CTb} {φ : List Addr} {H : Hp} : ∀ {ps : List (W × W)} {kvs : List (Key × W)} {vs : List (V × V)}, keysW ps = some kvs → R2W T φ H ps vs → ∃ kv : List (Key × V), vs = kv.map (fun p => (kV p.1, p.2)) ∧ RP T φ H kvs kv
  | [], kvs, vs, e, r => by
    cases e
    cases r
    exact ⟨[], rfl, .nil⟩
  | (a, b) :: ps, kvs, vs, e, r => by
    cases r with
    | cons p q =>
      rename_i z l
      obtain ⟨u, w⟩ := z
      unfold keysW at e
      cases e1 : keyW a with
      | none => rw [e1] at e; cases e
      | some k =>
        cases e2 : keysW ps with
        | none => rw [e1, e2] at e; cases e
        | some l' =>
          rw [e1, e2] at e
          cases e
          obtain ⟨kv, rfl, rr⟩ := keysW_ok e2 q
          refine ⟨(k, w) :: kv, ?_, .cons ⟨rfl, p.2⟩ rr⟩
          rw [List.map_cons]
          have := keyW_ok p.1 e1
          dsimp only at this
          rw [this]
theorem mergeK_nd : ∀ (more kvs : List (Key × V)), ((kvs ++ more).map (·.1)).Nodup → mergeK kvs more = kvs ++ more
  | [], kvs, h => by simp [mergeK]
  | p :: r, kvs, h => by
    have e : putK kvs p.1 p.2 = kvs ++ [p] := by
      unfold putK
      rw [if_neg]
      intro z
      rw [List.any_eq_true] at z
      obtain ⟨q, m, z⟩ := z
      have z := of_decide_eq_true z
      rw [List.map_append, List.nodup_append] at h
      exact h.2.2 q.1 (List.mem_map.mpr ⟨q, m, rfl⟩) p.1 (by simp) z
    show mergeK (putK kvs p.1 p.2) r = _
    rw [e, mergeK_nd r (kvs ++ [p]) (by simpa using h)]
    simp
theorem rp_keys {T : CTb} {φ : List Addr} {H : Hp} {κ : Type} : ∀ {a : List (κ × W)} {b : List (κ × V)}, RP T φ H a b → a.map (·.1) = b.map (·.1)
  | [], b, r => by cases r; rfl
  | p :: a, b, r => by
    cases r with
    | cons h q => rw [List.map_cons, List.map_cons, h.1, rp_keys q]
theorem q_disp (h : QP X Z pos keys values gs) (hall : keys.all (·.isSome) = true := by rfl) (hl : keys.length = values.length := by rfl) (h0 : keys ≠ [] := by simp) (h15 : keys.length ≤ 15 := by decide) : QE X Z (.Dict keys values pos) (xDisp gs) :=
  ⟨(pe_disp h.pp hall hl h0 h15).imp fun σ H Q ⟨φ, m, ρ, x, q⟩ => by
    intro p hp
    unfold xDisp at q
    cases e1 : xPairs gs ρ (m ++ [.dic []]) with
    | none => rw [e1] at q; exact q.elim
    | some pr =>
      obtain ⟨ps, h2⟩ := pr
      rw [e1] at q
      dsimp only at q
      have s0 := step_new (φ := φ) (ho := .dK []) hp
      have r0 := x.rh.new (o := .dic []) (ho := .dK []) hp ⟨[], rfl, .nil⟩
      have hn0 : (φ ++ [p])[m.length]? = some p := by rw [← x.rh.len]; simp
      refine pairs_ok (x.step s0 r0) e1 fun φ1 H1 vs s1 r1 rr => ?_
      cases e2 : keysW ps with
      | none => rw [e2] at q; exact q.elim
      | some kvs =>
        cases e3 : h2[m.length]? with
        | none => rw [e2, e3] at q; exact q.elim
        | some ob =>
          rw [e2, e3] at q
          cases ob with
          | dic l =>
            cases l with
            | cons _ _ => exact q.elim
            | nil =>
              dsimp only at q
              cases hz : (decide (kvs.length ≤ 15) && ndK (kvs.map (·.1))) with
              | false => rw [hz] at q; exact q.elim
              | true =>
                rw [hz] at q
                rw [Bool.and_eq_true] at hz
                obtain ⟨kv, rfl, rk⟩ := keysW_ok e2 rr
                have hn1 := s1.get hn0
                obtain ⟨ho, y, kv0, rfl, z⟩ := r1.obj _ _ p e3 hn1
                cases z
                have nd : ((([] : List (Key × V)) ++ kv).map (·.1)).Nodup := by rw [List.nil_append, ← rp_keys rk]; exact of_decide_eq_true hz.2
                refine ⟨y, kv, rfl, by rw [← rp_length rk]; exact of_decide_eq_true hz.1, ?_⟩
                rw [mergeK_nd kv [] nd, List.nil_append]
                have s2 := step_set (H := H1) (ho := .dK kv) (List.mem_of_getElem? hn1)
                have r2 := r1.set (o := .dic kvs) (ho := .dK kv) hn1 ⟨kv, rfl, rk⟩
                exact q φ1 _ _ (s0.trans (s1.trans s2)) r2 (by unfold RW; exact ⟨p, hn1, rfl⟩)
          | _ => exact q.elim⟩
end
/-! dicts read -/
def dgetM (h : Mem) (a b : W) : Option W := match dicts h a, keyW b with
  | some kvs, some k => getK kvs k
  | _, _ => none
section
variable {X : Cx} {Z : Zc} {f g : Ex} {o i : Expr} {pos : Pos}
theorem q_dget {j : Nat} (hr : Room j X.A) (ho : QE X Z o f) (hi : QE X Z i g) (hs : NoSl i) : QE X Z (.Subscript o i pos) (xBin dgetM f g) :=
  ⟨(pe_dget (hu_of hr) ho.pe hi.pe hs).imp fun σ H Q ⟨φ, m, ρ, x, q⟩ => two x q fun φ2 H2 h2 u v a b s y ra rb q2 => by
    obtain ⟨w, e, k⟩ := ofP q2
    unfold dgetM at e
    cases e1 : dicts h2 a with
    | none => rw [e1] at e; cases e
    | some kvs =>
      cases e2 : keyW b with
      | none => rw [e1, e2] at e; cases e
      | some kk =>
        rw [e1, e2] at e
        dsimp only at e
        obtain ⟨p, kv, rfl, hp, rp⟩ := dicts_ok y.rh ra e1
        have hk := keyW_ok rb e2
        subst hk
        have g := rp_getK rp kk
        rw [e] at g
        cases ev : valV kv kk with
        | none => rw [ev] at g; exact g.elim
        | some z =>
          rw [ev] at g
          exact ⟨p, z, rfl, by rw [← ev]; exact DGet.k hp, k φ2 H2 z (Step.refl _ _) y.rh g⟩⟩
end
end M

set_option Elab.async false
set_option linter.all false
set_option maxRecDepth 100000
set_option maxHeartbeats 1000000
namespace M
open PySem PySem.Spec PyProof.Rows L2
/-! ## MR: what the top has written of classes -/
section
variable {K : PySem.W.Frag} {C : Addr}
theorem ins_mk (pg : PySem.W.plainGet K C Str.empty = true) (hd : PySem.W.hasDictIn K C = true) (po : PySem.W.plainOver K C = true) (sa : PySem.W.findIn K (.ref C) "__setattr__" = some (some (.builtin "object.__setattr__")))
    (ha : PySem.W.findIn K (.ref C) "__class__" = some (some (.builtin "object.__class__"))) (hn : PySem.W.specialIn K (.builtin "object.__class__") "__get__" = some (some (.builtin "getset_descriptor.__get__"))) (htk : PySem.W.takesIn K (.builtin "object.__class__") = some true) (hm : PySem.W.mroIn K C (.type "object") = some true) : InsTy K C := ⟨⟨pg, hd, po, sa⟩, ha, hn, htk, hm⟩
/-- a method of instances of a class, as the text has it -/
def MthX (K : PySem.W.Frag) (C : Addr) (m qual : Str) (st : Stmt) : Prop := ∃ f fd, Meth K C m f ∧ Fun K m qual st f fd
theorem mthx {m qual : Str} {st : Stmt} {f : Addr} {oc : Value} {od an : Option Addr} {osl : Array (Option Value)} {kV doc pm cdv ct : Value} (a : PySem.W.findIn K (.ref C) m = some (some (.ref f))) (i : PySem.W.isFn K (.ref f) = true)
    (l : K.lookup f = some ⟨oc, od, .func (PySem.W.fnOf m qual (defArgs st) (defBody st) (defScope st) .none kV doc pm an cdv ct), osl⟩) (c : PySem.W.codeIn K cdv qual = true) (k : PySem.W.keepIn K (.ref f) = true) : MthX K C m qual st := ⟨f, _, ⟨a, i, k⟩, fun_mk l c k⟩
def MkX (K : PySem.W.Frag) (C : Addr) (qual : Str) (st : Stmt) : Prop := ∃ f fd, Mk K C f ∧ Fun K "__init__" qual st f fd
theorem mkx {qual : Str} {st : Stmt} {f : Addr} {oc : Value} {od an : Option Addr} {osl : Array (Option Value)} {kV doc pm cdv ct : Value} (m : PySem.W.makesIn K C = true) (kc : PySem.W.keepIn K (.ref C) = true) (a : PySem.W.findIn K (.ref C) "__init__" = some (some (.ref f))) (i : PySem.W.isFn K (.ref f) = true)
    (l : K.lookup f = some ⟨oc, od, .func (PySem.W.fnOf "__init__" qual (defArgs st) (defBody st) (defScope st) .none kV doc pm an cdv ct), osl⟩) (c : PySem.W.codeIn K cdv qual = true) (k : PySem.W.keepIn K (.ref f) = true) : MkX K C qual st := ⟨f, _, ⟨m, a, i, kc⟩, fun_mk l c k⟩
def ClX (K : PySem.W.Frag) (C : Addr) (m qual : Str) (st : Stmt) : Prop := ∃ f fd, ClsFn K C m f ∧ Fun K m qual st f fd
theorem clx {m qual : Str} {st : Stmt} {f : Addr} {mc oc : Value} {od an : Option Addr} {osl : Array (Option Value)} {kV doc pm cdv ct : Value} (g1 : PySem.W.specialIn K (.ref C) "__getattribute__" = some (some (.builtin "type.__getattribute__"))) (g0 : PySem.W.typeIn K (.ref C) = some mc) (g2 : PySem.W.readsIn K C mc = true)
    (g3 : PySem.W.findCls K (.ref C) mc m = some (.val (.ref f))) (l : K.lookup f = some ⟨oc, od, .func (PySem.W.fnOf m qual (defArgs st) (defBody st) (defScope st) .none kV doc pm an cdv ct), osl⟩) (c : PySem.W.codeIn K cdv qual = true) (k : PySem.W.keepIn K (.ref f) = true) : ClX K C m qual st := ⟨f, _, ⟨⟨mc, g1, g2, g3⟩, k⟩, fun_mk l c k⟩
end
/-- a loop with a count that goes down -/
theorem xLoop_dn {G : Tg} {B : Sm} (I : Nat → Sg → Mem → Prop) : ∀ (ws : List W) (ρ : Sg) (h : Mem), I ws.length ρ h →
    (∀ f, ∀ w ∈ ws, ∀ ρ h, I (f + 1) ρ h → ∃ ρ1, G w ρ = some ρ1 ∧ ∃ ρ' h', B ρ1 h = .nx ρ' h' ∧ I f ρ' h') → ∃ ρ' h', xLoop G B ws ρ h = .nx ρ' h' ∧ I 0 ρ' h'
  | [], ρ, h, i, _ => ⟨ρ, h, rfl, i⟩
  | w :: r, ρ, h, i, hb => by
    obtain ⟨ρ1, e1, ρ', h', e2, i2⟩ := hb r.length w List.mem_cons_self ρ h i
    obtain ⟨ρ2, h2, e3, i3⟩ := xLoop_dn I r ρ' h' i2 fun f w m => hb f w (List.mem_cons_of_mem _ m)
    refine ⟨ρ2, h2, ?_, i3⟩
    unfold xLoop
    rw [e1]
    simp only [e2]
    exact e3
end M

set_option Elab.async false
set_option linter.all false
set_option maxRecDepth 100000
set_option maxHeartbeats 1000000
namespace M
open PySem PySem.Spec PyProof.Rows L2
/-! ## MS: tuples of lists, tuples joined -/
section
variable {T : CTb}
def tupleM (h : Mem) : List W → Option W
  | [.tup ws] => some (.tup ws)
  | [w] => (items h w).map .tup
  | _ => none
theorem new_tup {φ : List Addr} {h : Mem} {H : Hp} {ws : List W} {p : Addr} {vs : List V} {Q : VK} (r : RH T φ h H) (hp : H p = none) (x : RWs T φ H ws vs) (k : ∀ H' u, Step φ H φ H' → RH T φ h H' → RW T φ H' (.tup ws) u → Q u H') : Q (.ref p) (upd H p (.tup vs)) := by
  have s := step_tmp (φ := φ) (ho := .tup vs) hp
  refine k _ _ s (r.tmp hp) ?_
  unfold RW
  exact ⟨p, vs, rfl, r.fresh hp, upd_same, x.step s⟩
theorem tupleM_ok {K : PySem.W.Frag} : CbW T tupleM (fun xs H Q => ∃ p ys, xs = [.ref p] ∧ ((SqL K H p ys ∧ ∀ l, H l = none → Q (.ref l) (upd H l (.tup ys))) ∨ (SqT K H p ys ∧ Q (.ref p) H))) := by
  intro φ h H ws vs w Q r x e k
  unfold tupleM at e
  split at e
  · cases e
    obtain ⟨v, rfl, y0⟩ := rws_one x
    have y1 := y0
    unfold RW at y0
    obtain ⟨p, us, rfl, _, c, d⟩ := y0
    exact ⟨p, us, rfl, .inr ⟨SqT.of c, here_k r y1 k⟩⟩
  · obtain ⟨v, rfl, y0⟩ := rws_one x
    rw [Option.map_eq_some_iff] at e
    obtain ⟨us, e, rfl⟩ := e
    obtain ⟨p, vs, rfl, q1, q2⟩ := items_ok r y0 e
    exact ⟨p, vs, rfl, .inl ⟨lstAt_sq q1, fun l hl => new_tup r hl q2 k⟩⟩
  · cases e
def catTM (_ : Mem) (a b : W) : Option W := match a, b with
  | .tup (x :: xs), .tup ys => bif decide (xs.length + 1 + ys.length ≤ sizeLine) then some (.tup (x :: xs ++ ys)) else none
  | _, _ => none
theorem catTM_ok {K : PySem.W.Frag} : OpW T catTM (rCatT K) := by
  intro φ h H a b u v w Q r ra rb e k
  unfold catTM at e
  split at e
  · rename_i x xs ys
    cases hz : decide (xs.length + 1 + ys.length ≤ sizeLine) with
    | false => rw [hz] at e; cases e
    | true =>
      rw [hz] at e
      cases e
      have ra' := ra
      unfold RW at ra rb
      obtain ⟨p, us, rfl, _, c, d⟩ := ra
      obtain ⟨p2, us2, rfl, _, c2, d2⟩ := rb
      have l1 := d.length
      have l2 := d2.length
      have hz := of_decide_eq_true hz
      refine ⟨p, p2, us, us2, rfl, rfl, SqT.of c, SqT.of c2, ?_, ?_, fun z => ?_, fun z l hl => new_tup r hl (rws_append d d2) k⟩
      · rintro rfl; simp at l1
      · simp at l1; omega
      · have : ys = [] := by subst z; exact List.length_eq_zero_iff.mp l2
        subst this
        rw [List.append_nil] at k
        exact here_k r ra' k
  · cases e
end
end M

set_option Elab.async false
set_option linter.all false
set_option maxRecDepth 100000
set_option maxHeartbeats 1000000
namespace M
open PySem PySem.Spec PyProof.Rows L2
/-! ## MT: exceptions: how one lies, how it passes -/
/-- an exception's record: its class, its dict, where the last frame that it passed is noted -/
def XRec (h : Heap) (e : Addr) (cv : Value) (da T : Option Addr) : Prop := ∃ oe vs, h.get? e = some oe ∧ oe.cls = cv ∧ oe.dict = da ∧ oe.data = .fields vs ∧ match T with
  | none => vs[1]? = some Value.none
  | some t => t ≠ e ∧ vs[1]? = some (.ref t) ∧ ∃ ot ts x, h.get? t = some ot ∧ ot.data = .fields ts ∧ ts[3]? = some x
/-- what changed: at ch anything, at S the slots -/
structure Ch (S ch : List Addr) (h h' : Heap) : Prop where
  keep : ∀ b o, b ∉ S → b ∉ ch → h.get? b = some o → h'.get? b = some o
  slot : ∀ b o, b ∉ ch → h.get? b = some o → ∃ sl, h'.get? b = some { o with slots := sl }
  old : ∀ b o, h.get? b = some o → ∃ o', h'.get? b = some o'
theorem Ch.refl (S ch : List Addr) (h : Heap) : Ch S ch h h := ⟨fun _ _ _ _ e => e, fun _ o _ e => ⟨o.slots, e⟩, fun _ o e => ⟨o, e⟩⟩
theorem Ch.mono {S S' ch ch' : List Addr} {h h' : Heap} (c : Ch S ch h h') (a : ∀ b ∈ S, b ∈ S') (d : ∀ b ∈ ch, b ∈ ch') : Ch S' ch' h h' :=
  ⟨fun b o h1 h2 e => c.keep b o (fun z => h1 (a b z)) (fun z => h2 (d b z)) e, fun b o h2 e => c.slot b o (fun z => h2 (d b z)) e, c.old⟩
theorem Ch.trans {S ch : List Addr} {h h1 h2 : Heap} (a : Ch S ch h h1) (b : Ch S ch h1 h2) : Ch S ch h h2 :=
  ⟨fun x o p q e => b.keep x o p q (a.keep x o p q e), fun x o q e => by
    obtain ⟨sl, e1⟩ := a.slot x o q e
    obtain ⟨sl2, e2⟩ := b.slot x _ q e1
    exact ⟨sl2, e2⟩, fun x o e => by
    obtain ⟨o1, e1⟩ := a.old x o e
    exact b.old x o1 e1⟩
theorem dict_map (o : Obj) (f : Array Value → Array Value) : (o.mapFields f).dict = o.dict := by
  obtain ⟨c, d, dt, sl⟩ := o
  cases dt <;> rfl
section
variable {Md : Model} {A : Around} {E : Value → Shared → Prop} {s : Shared} {base : Heap} {env : Env} {outer : List Env} {L e : Addr} {cv : Value} {da : Option Addr} {Q : Unit → Shared → Prop}
theorem upd_ch {h : Heap} {t : Addr} {ot : Obj} {ts : Array Value} (ht : h.get? t = some ot) (hd : ot.data = .fields ts) (f : Array Value → Array Value) : Ch [] [t] h (h.update t (Obj.mapFields f)) := by
  have self := Heap.get?_update_self (Obj.mapFields f) ht (Obj.isFreed_of_fields (Obj.data_mapFields hd _))
  have other : ∀ b, b ≠ t → (h.update t (Obj.mapFields f)).get? b = h.get? b := fun b n => Heap.get?_update_other _ _ (Ne.symm n)
  refine ⟨fun b o _ n e => ?_, fun b o n e => ⟨o.slots, ?_⟩, fun b o e => ?_⟩
  · rw [other b (by simpa using n)]; exact e
  · rw [other b (by simpa using n)]; exact e
  · by_cases z : b = t
    · subst z; exact ⟨_, self⟩
    · exact ⟨o, by rw [other b z]; exact e⟩
/-- a new note of a frame -/
theorem entry_ok {oe : Obj} {vs : Array Value} {head : Value} {hadNext : Bool} (hfr : A.frames = some (env :: outer)) (hl : s.heap.FunFrames base (env :: outer)) (hf : env.frame = some L) (he : s.heap.get? e = some oe) (hd : oe.data = .fields vs) (hsz : 1 < vs.size)
    (k : ∀ h' T', XRec h' e oe.cls oe.dict (some T') → Ch (frs (env :: outer)) [e] s.heap h' → s.heap.objs.size ≤ T' → Q () { s with heap := h' }) :
    wpAny Md A (do let a ← frameOf env; let pl ← entryPlaceOf L hadNext; let b ← EntryCells.newEntry head a .none (rawInt L) .none pl; setField (.ref e) 1 b) Q E s := by
  have nS : e ∉ frs (env :: outer) := fun m => by
    obtain ⟨_, o, ho, hnf⟩ := hl.mem m
    rw [he] at ho
    cases ho
    exact hnf vs hd
  refine wpAny_bind (wpAny_frameOf_fun hfr hl hf fun g hg => wpAny_bind (wpAny_entryPlaceOf fun pl hpl => ?_))
  unfold EntryCells.newEntry newFields
  have e1 : g.get? e = some oe := (hg.2.1 e nS).trans he
  refine wpAny_bind (wpAny_newObj_type (wpAny_setField (Heap.get?_push_of_some (h := g) _ e1) hd hsz ?_) (hpl.sizeOk5 _ _ _ _ _))
  have e2 := Heap.get?_push_of_some (h := g) { cls := .type "traceback", dict := none, data := .fields ([head, .ref L, .none, rawInt L, .none] ++ (if pl.isEmpty then List.replicate 6 Value.none else pl)).toArray } e1
  have d3 := Obj.data_mapFields hd fun u => u.setIfInBounds 1 (Value.ref g.objs.size)
  have e3 := Heap.get?_update_self (Obj.mapFields fun u => u.setIfInBounds 1 (Value.ref g.objs.size)) e2 (Obj.isFreed_of_fields d3)
  have hne : g.objs.size ≠ e := Nat.ne_of_gt (Heap.lt_size e1)
  have oth : ∀ b, b ≠ e → ∀ tb : Obj, ((g.push tb).update e (Obj.mapFields fun u => u.setIfInBounds 1 (Value.ref g.objs.size))).get? b = (g.push tb).get? b := fun b n tb => Heap.get?_update_other _ _ (Ne.symm n)
  refine k _ g.objs.size ⟨_, _, e3, Obj.cls_mapFields _ _, dict_map _ _, d3, hne, by simp [hsz], _, _, rawInt L, (oth _ hne _).trans (Heap.get?_push_size g rfl), rfl, ?_⟩ ⟨fun b o h1 h2 q => ?_, fun b o h2 q => ?_, fun b o q => ?_⟩ (Nat.le_of_eq hg.1.symm)
  · first | (simp; done) | (rcases hpl with rfl | ⟨_, _, _, _, _, _, _, rfl⟩ <;> simp)
  · rw [oth b (by simpa using h2)]
    exact Heap.get?_push_of_some _ ((hg.2.1 b h1).trans q)
  · obtain ⟨sl, q1⟩ := hg.2.2 b o q
    exact ⟨sl, (oth b (by simpa using h2) _).trans (Heap.get?_push_of_some _ q1)⟩
  · obtain ⟨sl, q1⟩ := hg.2.2 b o q
    by_cases z : b = e
    · subst z; exact ⟨_, e3⟩
    · exact ⟨_, (oth b z _).trans (Heap.get?_push_of_some _ q1)⟩
theorem note_ok {T : Option Addr} (hfr : A.frames = some (env :: outer)) (hl : s.heap.FunFrames base (env :: outer)) (hf : env.frame = some L) (R : XRec s.heap e cv da T)
    (k : ∀ h' T', XRec h' e cv da (some T') → Ch (frs (env :: outer)) (e :: T.toList) s.heap h' → (T = some T' ∨ s.heap.objs.size ≤ T') → Q () { s with heap := h' }) : wpAny Md A (noteFrame (.ref e) env) Q E s := by
  obtain ⟨oe, vs, he, rfl, rfl, hd, hT⟩ := R
  unfold noteFrame
  simp only [hf]
  cases T with
  | none =>
    refine wpAny_bind (wpAny_field he hd hT ?_)
    rw [if_neg (by decide)]
    exact entry_ok hfr hl hf he hd (Array.getElem?_eq_some_iff.mp hT).1 fun h' T' r c n => k h' T' r c (.inr n)
  | some t =>
    obtain ⟨hte, h1, ot, ts, x, ht, hdt, h3⟩ := hT
    refine wpAny_bind (wpAny_field he hd h1 ?_)
    rw [if_pos (by simp)]
    refine wpAny_bind (wpAny_field ht hdt h3 ?_)
    by_cases hx : (x == rawInt L) = true
    · rw [if_pos hx]
      obtain ⟨hh, gg, dd, tk, os⟩ := s
      exact wpAny_pure (k hh t ⟨oe, vs, he, rfl, rfl, hd, hte, h1, ot, ts, x, ht, hdt, h3⟩ (Ch.refl _ _ _) (.inl rfl))
    · rw [if_neg hx]
      refine wpAny_bind (wpAny_setField ht hdt (Array.getElem?_eq_some_iff.mp h3).1 ?_)
      have c1 := upd_ch ht hdt fun u => u.setIfInBounds 3 Value.none
      have oth : ∀ b, b ≠ t → (s.heap.update t (Obj.mapFields fun u => u.setIfInBounds 3 Value.none)).get? b = s.heap.get? b := fun b n => Heap.get?_update_other _ _ (Ne.symm n)
      have hl2 : (s.heap.update t (Obj.mapFields fun u => u.setIfInBounds 3 Value.none)).FunFrames base (env :: outer) := hl.of_keeps fun b o hb hnf => ⟨o, (oth b fun z => by subst z; rw [ht] at hb; cases hb; exact hnf ts hdt).trans hb, rfl⟩
      refine entry_ok (s := { s with heap := s.heap.update t (Obj.mapFields fun u => u.setIfInBounds 3 Value.none) }) hfr hl2 hf ((oth e (Ne.symm hte)).trans he) hd (Array.getElem?_eq_some_iff.mp h1).1 fun h' T' r c n => ?_
      refine k h' T' r ((c1.mono (fun b z => by cases z) fun b z => by simp at z; subst z; simp).trans (c.mono (fun b z => z) fun b z => by simp at z; subst z; simp)) (.inr ?_)
      rw [← Heap.size_after_update s.heap t (Obj.mapFields fun u => u.setIfInBounds 3 Value.none)]
      exact n
theorem flight_ok {T : Addr} (R : XRec s.heap e cv da (some T)) (k : ∀ h', XRec h' e cv da (some T) → Ch [] [T] s.heap h' → Q () { s with heap := h' }) : wpAny Md A (setFlight (.ref e) none) Q E s := by
  obtain ⟨oe, vs, he, rfl, rfl, hd, hte, h1, ot, ts, x, ht, hdt, h3⟩ := R
  have hsz := (Array.getElem?_eq_some_iff.mp h3).1
  have d2 := Obj.data_mapFields hdt fun u => u.setIfInBounds 3 Value.none
  refine wpAny_setFlight_none he hd h1 ht hdt hsz (k _ ⟨oe, vs, ?_, rfl, rfl, hd, hte, h1, _, _, Value.none, Heap.get?_update_self _ ht (Obj.isFreed_of_fields d2), d2, by simp [hsz]⟩ (upd_ch ht hdt _))
  exact (Heap.get?_update_other _ _ hte).trans he
end
end M

set_option Elab.async false
set_option linter.all false
set_option maxRecDepth 100000
set_option maxHeartbeats 1000000
namespace M
open PySem PySem.Spec PyProof.Rows L2
/-! ## MU: an exception leaves a def, reaches a caller -/
/-- a record of ours: nobody knew it at the entry -/
def Outs (X : Cx) (pins : List (Addr × Obj)) (b : Addr) : Prop := (X.s₀.heap.get? b = none ∨ b ∈ X.ex) ∧ b ≠ X.env.locals ∧ (∀ x c, X.env.cells.lookup x = some c → c ≠ b) ∧ ∀ p ∈ X.pn ++ pins, p.1 ≠ b
section
variable {X : Cx} {pins : List (Addr × Obj)} {σ : St} {H : Hp} {s : Shared} {h' : Heap} {ch : List Addr}
theorem hok_there {P : Program} {w : World} {hp : Heap} {a : Addr} {o : HO} (x : HOk P w H hp) (e : H a = some o) : ∃ ob, hp.get? a = some ob := by
  have go : ∀ (o : HO), ObjOk P w H hp a o → ∃ ob, hp.get? a = some ob := by
    intro o
    induction o with
    | lst xs => intro x; obtain ⟨_, _, _, _, q⟩ := x; exact ⟨_, q⟩
    | tup xs => intro x; obtain ⟨_, _, _, p⟩ := x; obtain ⟨o, q, _⟩ := p; exact ⟨_, q⟩
    | dK kvs => intro x; obtain ⟨_, _, _, _, p⟩ := x; obtain ⟨o, es, ep, q, _⟩ := p; exact ⟨_, q⟩
    | dT kvs => intro x; obtain ⟨_, _, _, _, o, _, _, q, _⟩ := x; exact ⟨_, q⟩
    | set S n => intro x; obtain ⟨o, _, _, _, q, _⟩ := x; exact ⟨_, q⟩
    | ins C dx fs => intro x; obtain ⟨_, _, _, q, _⟩ := x; exact ⟨_, q⟩
    | own y => intro x; exact x
    | xd fs => intro x; obtain ⟨_, ⟨_, _, _, q, _⟩, _⟩ := x; exact ⟨_, q⟩
    | rng lo hi => intro x; obtain ⟨_, _, _, q⟩ := x; exact ⟨_, q⟩
    | frz ob u _ => intro x; exact ⟨_, x.1⟩
    | tbl ps => intro x; exact ⟨_, x⟩
    | met f y => intro x; exact ⟨_, x⟩
    | ext φ => intro x; exact x.2.1
  exact go o (x a o e)
theorem untracked {P : Program} {w : World} {hp : Heap} {a : Addr} (x : HOk P w H hp) (n : hp.get? a = none) : H a = none := by
  cases q : H a with
  | none => rfl
  | some o => obtain ⟨ob, e⟩ := hok_there x q; rw [n] at e; cases e
theorem outs_new {b : Addr} (I : Inv X pins σ H s) (n : s.heap.get? b = none) : Outs X pins b := by
  refine ⟨?_, fun z => ?_, fun x c e z => ?_, fun p hp z => ?_⟩
  · by_cases hx : b ∈ X.ex
    · exact .inr hx
    · cases q : X.s₀.heap.get? b with
      | none => exact .inl rfl
      | some o => obtain ⟨o', e⟩ := I.base.there b o q hx; rw [n] at e; cases e
  · obtain ⟨m, ⟨o, _, _, ho, _⟩, _⟩ := I.loc
    subst z; rw [n] at ho; cases ho
  · obtain ⟨v, o, ho, _⟩ := I.cell x c e
    subst z; rw [n] at ho; cases ho
  · have := (I.pin p hp).1
    rw [z, n] at this; cases this
theorem chg (I : Inv X pins σ H s) (c : Ch (frs X.stack) ch s.heap h') (hc : ∀ b ∈ ch, H b = none ∧ Outs X pins b) : Inv X pins σ H { s with heap := h' } := by
  have nS : ∀ b, b ≠ X.env.locals → b ∉ X.fs → b ∉ frs X.stack := fun b h1 h2 z => (List.mem_cons.mp (I.stkSub b z)).elim h1 h2
  have n0 : ∀ b o, X.s₀.heap.get? b = some o → b ∉ X.ex → b ∉ ch := fun b o e hx z => by
    rcases (hc b z).2.1 with q | q
    · rw [e] at q; cases q
    · exact hx q
  have cellK : ∀ x c', X.env.cells.lookup x = some c' → ∀ v, s.heap.IsCell c' v → h'.IsCell c' v := fun x c' e v ⟨o, ho, hd⟩ => by
    obtain ⟨sl, q⟩ := c.slot c' o (fun z => (hc c' z).2.2.2.1 x c' e rfl) ho
    exact ⟨_, q, hd⟩
  refine ⟨I.ok, I.os, I.bare, ⟨fun b o e n hb hx => ?_, fun b o e n hb hx => ?_, I.base.free, fun b o e hx => ?_, I.base.tups, I.base.frzs, I.base.tbls⟩, ?_, fun x c' e => ?_, I.free, I.freeC, fun p hp => ?_, fun b u e => ?_, I.len⟩
  · exact c.keep b o (nS b (Nat.ne_of_lt (Nat.lt_of_lt_of_le (Heap.lt_size e) I.ok.above)) hb) (n0 b o e hx) (I.base.keep b o e n hb hx)
  · obtain ⟨sl, e1⟩ := I.base.slot b o e n hb hx
    obtain ⟨sl2, e2⟩ := c.slot b _ (n0 b o e hx) e1
    exact ⟨sl2, e2⟩
  · obtain ⟨o1, e1⟩ := I.base.there b o e hx
    exact c.old b o1 e1
  · obtain ⟨m, ⟨o, es, ep, ho, r⟩, hl⟩ := I.loc
    obtain ⟨sl, q⟩ := c.slot X.env.locals o (fun z => (hc _ z).2.2.1 rfl) ho
    refine ⟨m, ⟨_, es, ep, q, r⟩, fun i x v e1 e2 e3 => ?_⟩
    obtain ⟨u, rv, l⟩ := hl i x v e1 e2 e3
    refine ⟨u, rv, ?_⟩
    rcases l with l | ⟨k, c', e, z⟩
    · exact .inl l
    · exact .inr ⟨k, c', e, cellK x c' e _ z⟩
  · obtain ⟨v, z⟩ := I.cell x c' e
    exact ⟨v, cellK x c' e v z⟩
  · obtain ⟨e, n, ne, nf, d⟩ := I.pin p hp
    exact ⟨c.keep p.1 p.2 (nS _ ne nf) (fun z => (hc _ z).2.2.2.2 p hp rfl) e, n, ne, nf, d⟩
  · refine (I.hok b u e).stay (fun c' v hb q => ?_) (fun _ q => q) fun _ _ q => q
    have tr : H c' ≠ none := by
      rcases hb with rfl | hb
      · rw [e]; simp
      · rw [hb]; simp
    exact c.keep c' v (fun z => tr (I.stkFree c' z)) (fun z => tr (hc c' z).1) q
end
/-- an exception on its way through the frame of X -/
structure XIs (X : Cx) (pins : List (Addr × Obj)) (σ : St) (H : Hp) (s : Shared) (e : Addr) (cv : Value) (da T : Option Addr) : Prop where
  inv : Inv X pins σ H s
  rc : XRec s.heap e cv da T
  own : ∀ b ∈ e :: T.toList, H b = none ∧ Outs X pins b
def XLies (X : Cx) (Z : Zc) (v : Value) (s : Shared) : Prop := ∃ pins σ H e cv da T φ h w, v = .ref e ∧ XIs X pins σ H s e cv da T ∧ Z.sg σ ∧ Step Z.φ Z.H φ H ∧ RH Z.T φ h H ∧ RX Z.T φ H w cv da ∧ Z.xw w h
/-- what is wanted of an exception, in the machine's words, is what the body wants -/
def XOk (X : Cx) (Z : Zc) : Prop := ∀ v s, XLies X Z v s → X.xe v s
theorem xok_no {X : Cx} {Z : Zc} (h : ∀ w m, ¬ Z.xw w m) : XOk X Z := fun _ _ ⟨_, _, _, _, _, _, _, _, _, _, _, _, _, _, _, _, x⟩ => absurd x (h _ _)
/-- how an exception lies behind a call -/
def CXe (q : Bool) (P : Program) (w : World) : CXT := ⟨fun outer H s E v s' => ∃ e cv da T H', v = .ref e ∧ s'.os = s.os ∧ AllBare s'.gens ∧ Un (frs outer) [] H H' s.heap s'.heap ∧ HOk P w H' s'.heap ∧ XRec s'.heap e cv da (some T) ∧
  (H' e = none ∧ s.heap.get? e = none) ∧ (H' T = none ∧ s.heap.get? T = none) ∧ E cv da H', q⟩
/-- the machine's place in a def that may raise -/
def Zx (T : CTb) (φ : List Addr) (H : Hp) (E : XK) : Zc := ⟨T, φ, H, fun _ => True, fun w h' => ∀ φ' H' cv da, Step φ H φ' H' → RH T φ' h' H' → RX T φ' H' w cv da → E cv da H'⟩
section
variable {P : Program} {w : World} {K : PySem.W.Frag} {mg : Str → Option Value} {base : Heap} {T : CTb}
theorem xok_def {q : Bool} {N : List Str} {qual : Str} {scope : Scope} {f : Addr} {cd : Value} {A : Around} {outer : List Env} {s : Shared} {H : Hp} {E : XK} {φ : List Addr} :
    XOk (cxOf (CXe q P w) P w K mg base N qual scope f cd A outer s H E) (Zx T φ H E) := by
  rintro v s' ⟨pins, σ, H', e, cv, da, T1, φ', h', w', rfl, ⟨I, R, own⟩, _, st, rh, rx, xw⟩
  show wpAny _ _ (leaving (envOfC qual scope s.heap.objs.size f cd) (.ref e)) _ _ s'
  unfold leaving
  refine wpAny_bind (note_ok (base := base) I.ok.frames I.stack rfl R fun g T2 r c n => ?_)
  have I1 := chg I c own
  have own1 : ∀ b ∈ [e, T2], H' b = none ∧ Outs (cxOf (CXe q P w) P w K mg base N qual scope f cd A outer s H E) pins b := fun b hb => by
    rcases List.mem_cons.mp hb with rfl | hb
    · exact own b List.mem_cons_self
    · have hb : b = T2 := by simpa using hb
      subst hb
      rcases n with n | n
      · exact own b (by rw [n]; simp)
      · exact ⟨I.hok.fresh n, outs_new I (Heap.get?_none_of_le n)⟩
  refine flight_ok r fun g2 r2 c2 => ?_
  have I2 := chg I1 (c2.mono (fun b z => by cases z) fun b z => z) fun b hb => own1 b (List.mem_cons_of_mem _ hb)
  have new : ∀ b, Outs (cxOf (CXe q P w) P w K mg base N qual scope f cd A outer s H E) pins b → s.heap.get? b = none := fun b o => by
    rcases o.1 with z | z
    · exact z
    · cases z
  have o1 := own1 e (by simp)
  have o2 := own1 T2 (by simp)
  exact ⟨e, cv, da, T2, H', rfl, I2.os, I2.bare, I2.base, I2.hok, r2, ⟨o1.1, new _ o1.2⟩, ⟨o2.1, new _ o2.2⟩, xw φ' H' cv da st rh rx⟩
theorem body_okX {φ : List Addr} {H : Hp} {h : Mem} {o : Out} {r : Res} {Q : VK} {E : XK} (hl : φ.length = h.length) (ft : Fits h.length r o.res) (q : r.post (Kv T φ H Q) (fun w h' => ∀ φ' H' cv da, Step φ H φ' H' → RH T φ' h' H' → RX T φ' H' w cv da → E cv da H')) :
    o.post (Zx T φ H E) φ H { nx := fun _ H' => Q .non H', rt := Q } := by
  cases r with
  | no => exact q.elim
  | ex w m =>
    cases o with
    | ex w' m' =>
      intro φ' H' cv da s r x
      obtain ⟨φ1, p1, l1, r1, x1⟩ := ft T φ' H' cv da r x
      exact q φ1 H' cv da (step_fits s p1 (by rw [hl]; exact l1)) r1 x1
    | _ => exact ft.elim
  | ok w m =>
    cases o with
    | rt w' m' =>
      intro φ' H' v s r x
      obtain ⟨φ1, p1, l1, r1, x1⟩ := ft T φ' H' v r x
      exact q φ1 H' v (step_fits s p1 (by rw [hl]; exact l1)) r1 x1
    | nx ρ' m' =>
      intro φ' H' σ' s r rs _
      obtain ⟨φ1, p1, l1, r1, x1⟩ := ft T φ' H' .non r (by unfold RW; rfl)
      exact q φ1 H' .non (step_fits s p1 (by rw [hl]; exact l1)) r1 x1
    | _ => exact ft.elim
/-- a def (or a method) that may raise -/
theorem funX {qc : Bool} {x qual : Str} {st : Stmt} {N ps : List Str} {k : Nat} {F : Fm} {f : Addr} {fd : FuncData} {B : Sm} (R : Fun K x qual st f fd) (S : FnScope N ps (defScope st))
    (hB : ∀ (cdv : Value) (A : Around) (outer : List Env) (s : Shared) (H : Hp) (E : XK) (φ0 : List Addr), Room k (A.deeper (envOfC qual (defScope st) s.heap.objs.size f cdv)) →
      XOk (cxOf (CXe qc P w) P w K mg base N qual (defScope st) f cdv A outer s H E) (Zx T φ0 H E) → QB (cxOf (CXe qc P w) P w K mg base N qual (defScope st) f cdv A outer s H E) (Zx T φ0 H E) (defBody st) B)
    (hF : Told ps.length N.length B F) : FnOk P w K mg base (CXe qc P w) (k + 1) f fd ps (spH T F) := by
  obtain ⟨oc, od, kV, doc, pm, an, cdv, ct, osl, rfl, lk, hcd⟩ := R.ex
  refine fn_of lk hcd S (fun vs H Q E h => ?_) fun A outer s H vs Q E hr h => ?_
  · obtain ⟨φ, h, ws, r, rv, q⟩ := h
    rcases hF ws h r.wf (by rw [← r.len]; exact rv.lt) with e | ⟨e, _⟩
    · rw [e] at q; exact q.elim
    · rw [← rv.length]; exact e
  · obtain ⟨φ, h, ws, r, rv, q⟩ := h
    refine ⟨_, (hB cdv A outer s H E φ hr xok_def).ps, φ, h, startW N.length ws, ⟨trivial, Step.refl _ _, r, rs_start rv⟩, ?_⟩
    rcases hF ws h r.wf (by rw [← r.len]; exact rv.lt) with e | ⟨e, ft⟩
    · rw [e] at q; exact q.elim
    · exact body_okX r.len ft q
theorem defX {qc : Bool} {x : Str} {st : Stmt} {N ps : List Str} {k : Nat} {F : Fm} {B : Sm} (R : DefAt K mg x st) (S : FnScope N ps (defScope st)) (hb : BindsAll x x st ps)
    (hB : ∀ (f : Addr) (cdv : Value) (A : Around) (outer : List Env) (s : Shared) (H : Hp) (E : XK) (φ0 : List Addr), Room k (A.deeper (envOfC x (defScope st) s.heap.objs.size f cdv)) →
      XOk (cxOf (CXe qc P w) P w K mg base N x (defScope st) f cdv A outer s H E) (Zx T φ0 H E) → QB (cxOf (CXe qc P w) P w K mg base N x (defScope st) f cdv A outer s H E) (Zx T φ0 H E) (defBody st) B)
    (hF : Told ps.length N.length B F) : FnAt P w K mg base (CXe qc P w) (k + 1) x (spH T F) := by
  obtain ⟨f, fd, R, hm⟩ := R
  exact ⟨f, fd, ps, funX R S (hB f) hF, hm, R.kp, R.binds hb⟩
/-- where nothing is raised, a def is one without exceptions -/
theorem FnOk.calm {k : Nat} {f : Addr} {fd : FuncData} {ps : List Str} {F : Fm} {qc : Bool} (G : FnOk P w K mg base (CXe qc P w) k f fd ps (spH T F)) (hx : ∀ ws h w m, F ws h ≠ .ex w m) : FnOk P w K mg base CX0 k f fd ps (spH T F) := by
  have nx : ∀ vs H Q E, spH T F vs H Q E → spH T F vs H Q E0 := by
    rintro vs H Q E ⟨φ, h, ws, r, rv, q⟩
    refine ⟨φ, h, ws, r, rv, ?_⟩
    cases e : F ws h with
    | ok w m => rw [e] at q; exact q
    | ex w m => exact absurd e (hx _ _ _ _)
    | no => rw [e] at q; exact q
  refine ⟨G.len, fun A outer s H args us vs Q E hr hq he hb hv hs => ?_⟩
  refine codeAny_mono (G.run A outer s H args us vs Q E0 hr (fun _ => hq rfl) he hb hv (nx _ _ _ _ hs)) fun r s' z => ?_
  cases r with
  | ok fl =>
    cases fl with
    | ret u => exact z
    | next => exact z
    | brk => exact z
    | cont => exact z
  | error v => obtain ⟨_, _, _, _, _, _, _, _, _, _, _, _, _, z⟩ := z; exact z.elim
end
section
variable {X : Cx} {Z : Zc} {qc : Bool} {k j : Nat} {F : Fm} {fa : Exs} {fo : Ex} {x m : Str} {p pos apos : Pos} {e o : Expr} {es : List Expr}
theorem run_fnX {CX : CXT} {f : Addr} {fd : FuncData} {ps : List Str} {sp : Sp} {E : XK} {pins : List (Addr × Obj)} {σ : St} {H : Hp} {s : Shared} {Q : VK} {us : List Value} {vs : List V} (Fk : FnOk X.prog X.w X.K X.mg X.base CX k f fd ps sp) (hr : Room k X.A) (hq : CX.q = true → X.calm = true) (hb : Binds X.K fd ps [])
    (I : Inv X pins σ H s) (r : Vals vs us) (h : sp vs H Q E) (hx : ∀ v s', CX X.stack H s E v s' → X.xe v s') : wpAny (model X.prog X.w) X.A (call (.ref f) us) (EP X pins σ Q) X.xe s := by
  have hl : us.length = ps.length := by rw [← r.length]; exact Fk.len _ _ _ _ h
  have hb2 := hb s us I.kIn (by rw [List.append_nil]; exact hl)
  rw [List.append_nil] at hb2
  refine wpAny_call (codeAny_mono (Fk.run X.A X.stack s H ⟨us, []⟩ us vs Q E hr (fun z => I.ok.hd (hq z)) I.env0 hb2 r h) fun r s' q => ?_)
  cases r with
  | error v => exact hx v s' q
  | ok fl =>
    cases fl with
    | ret u => exact I.after q
    | next => exact False.elim q
    | brk => exact False.elim q
    | cont => exact False.elim q
/-- the callee's end, in the machine's words -/
theorem run_mX {f : Addr} {fd : FuncData} {ps : List Str} {pins : List (Addr × Obj)} {σ : St} {H : Hp} {s : Shared} {Q : VK} {us : List Value} {vs : List V} {φ : List Addr} {h : Mem} {ws : List W} (Fk : FnOk X.prog X.w X.K X.mg X.base (CXe qc X.prog X.w) k f fd ps (spH Z.T F)) (hx : XOk X Z) (hr : Room k X.A) (hq : qc = true → X.calm = true)
    (hb : Binds X.K fd ps []) (I : Inv X pins σ H s) (r : Vals vs us) (sg : Z.sg σ) (st : Step Z.φ Z.H φ H) (rh : RH Z.T φ h H) (rw : RWs Z.T φ H ws vs) (q : (F ws h).post (Kv Z.T φ H Q) Z.xw) : wpAny (model X.prog X.w) X.A (call (.ref f) us) (EP X pins σ Q) X.xe s := by
  refine run_fnX (E := fun cv da H' => ∃ φ' h' w, Step φ H φ' H' ∧ RH Z.T φ' h' H' ∧ RX Z.T φ' H' w cv da ∧ Z.xw w h') Fk hr hq hb I r ⟨φ, h, ws, rh, rw, ?_⟩ ?_
  · cases e : F ws h with
    | ok w m => rw [e] at q; exact q
    | no => rw [e] at q; exact q
    | ex w m => rw [e] at q; exact fun φ' H' cv da s r x => ⟨φ', m, w, s, r, x, q⟩
  · rintro v s' ⟨e, cv, da, T, H', rfl, os, bare, un, hok, R, ⟨h1, h2⟩, ⟨h3, h4⟩, φ', h', w, st', rh', rx, xw⟩
    refine hx _ _ ⟨pins, σ, H', e, cv, da, some T, φ', h', w, rfl, ⟨I.call' os un hok bare (fun b z => by cases z), R, fun b hb => ?_⟩, sg, st.trans st', rh', rx, xw⟩
    rcases List.mem_cons.mp hb with rfl | hb
    · exact ⟨h1, outs_new I h2⟩
    · have hb : b = T := by simpa using hb
      subst hb
      exact ⟨h3, outs_new I h4⟩
def xCallX (F : Fm) (f : Exs) : Ex := fun ρ h => match f ρ h with
  | .ok ws h1 => F ws h1
  | .ex w h1 => .ex w h1
  | .no => .no
theorem args_X {Q : VK} {pins : List (Addr × Obj)} {s : Shared} {σ : St} {H : Hp} (ha : QA X Z es fa) (I : Inv X pins σ H s) {φ : List Addr} {h : Mem} {ρ : Sg} (x : Here Z σ H φ h ρ) (q : (xCallX F fa ρ h).post (Kv Z.T φ H Q) Z.xw) :
    wpAny (model X.prog X.w) X.A (spliced (backTo pos (starEach es X.env))) (AP X pins σ fun vs H1 => ∃ φ1 h1 ws, Step φ H φ1 H1 ∧ Here Z σ H1 φ1 h1 ρ ∧ RWs Z.T φ1 H1 ws vs ∧ (F ws h1).post (Kv Z.T φ1 H1 Q) Z.xw) X.xe s := by
  refine ha.pa pos pins s σ H _ I ⟨φ, h, ρ, x, ?_⟩
  unfold xCallX at q
  cases e : fa ρ h with
  | no => rw [e] at q; exact q.elim
  | ex w h' => rw [e] at q; exact q
  | ok ws h1 =>
    rw [e] at q
    intro φ1 H1 vs s1 r1 rw1
    refine ⟨φ1, h1, ws, s1, x.step s1 r1, rw1, ?_⟩
    exact q.mono fun w m k => k.step s1
theorem q_fnX (G : FnAt X.prog X.w X.K X.mg X.base (CXe qc X.prog X.w) k x (spH Z.T F)) (hx : XOk X Z) (hr : Room j X.A) (hkj : k ≤ j) (hg : Gl X x) (ha : QA X Z (e :: es) fa) (hdb : (x == ("__debug__" : Str)) = false := by decide)
    (he : starEach (e :: es) X.env = (false, eval e X.env) :: starEach es X.env := by rfl) (hpl : (backTo pos (starEach es X.env)).any (·.1) = false := by rfl) (hq : qc = true → X.calm = true := by first | exact fun _ => rfl | (intro h; cases h)) : QE X Z (.Call (.Name x p) (e :: es) [] pos) (xCallX F fa) := by
  obtain ⟨f, fd, ps, Fk, hm, kp, hb⟩ := G
  refine ⟨fun pins s σ H Q I ⟨φ, h, ρ, x0, q⟩ => ?_⟩
  refine wpAny_Call_Name_kw (ld_glob I hg hm ?_ hdb)
  refine PySem.W.callWith_K (h₀ := X.base) I.ok.mod.kin kp (thn (args_X (F := F) ha I x0 q) fun us s1 ⟨vs, H1, I1, r, φ1, h1, ws, _, x1, rw1, q1⟩ => ⟨I1.kIn, ?_⟩) he hpl
  exact run_mX Fk hx (hr.mono hkj) hq hb I1 r x1.sg x1.st x1.rh rw1 q1
/-! methods -/
def MtX (P : Program) (w : World) (K : PySem.W.Frag) (mg : Str → Option Value) (base : Heap) (T : CTb) (qc : Bool) (k : Nat) (c m : Str) (F : Fm) : Prop :=
  ∃ C f fd ps, T c = some C ∧ Meth K C m f ∧ FnOk P w K mg base (CXe qc P w) k f fd ps (spH T F) ∧ Binds K fd ps []
def TabX (P : Program) (w : World) (K : PySem.W.Frag) (mg : Str → Option Value) (base : Heap) (T : CTb) (qc : Bool) (k : Nat) (m : Str) (tab : Tab) : Prop := ∀ c F, tab c = some F → MtX P w K mg base T qc k c m F
def xMethX (m : Str) (tab : Tab) (f : Ex) (g : Exs) : Ex := fun ρ h => (f ρ h).bind fun a h1 => match a with
  | .ref n => (match h1[n]? with
    | some (.ins c fs) => (match tab c, fs.lookup m with
      | some F, none => xCallX (fun ws => F (.ref n :: ws)) g ρ h1
      | _, _ => .no)
    | _ => .no)
  | _ => .no
theorem methX_ok {m : Str} {tab : Tab} (hI : InsOk X.K Z.T) (ht : TabX X.prog X.w X.K X.mg X.base Z.T qc k m tab) {pins : List (Addr × Obj)} {s : Shared} {σ : St} {H : Hp} {Q : VK} {φ : List Addr} {h : Mem} {ρ : Sg} (ho : QE X Z o fo) (I : Inv X pins σ H s) (x : Here Z σ H φ h ρ) (q : (xMethX m tab fo fa ρ h).post (Kv Z.T φ H Q) Z.xw) :
    wpAny (model X.prog X.w) X.A (eval o X.env) (EP X pins σ fun v H1 => ∃ a C dx fs f fd ps F φ1 h1 n, v = .ref a ∧ H1 a = some (.ins C dx fs) ∧ Cls X.K C ∧ Meth X.K C m f ∧ FnOk X.prog X.w X.K X.mg X.base (CXe qc X.prog X.w) k f fd ps (spH Z.T F) ∧ Binds X.K fd ps [] ∧ fs.lookup m = none ∧
      Here Z σ H1 φ1 h1 ρ ∧ RW Z.T φ1 H1 (.ref n) v ∧ (xCallX (fun ws => F (.ref n :: ws)) fa ρ h1).post (Kv Z.T φ1 H1 Q) Z.xw) X.xe s := by
  refine ho.pe pins s σ H _ I ⟨φ, h, ρ, x, ?_⟩
  unfold xMethX at q
  rw [bindP] at q
  refine q.mono fun a h1 q1 => fun φ1 H1 u s1 r1 ra => ?_
  cases a with
  | ref n =>
    dsimp only at q1
    cases e1 : h1[n]? with
    | none => rw [e1] at q1; exact q1.elim
    | some ob =>
      rw [e1] at q1
      cases ob with
      | ins c fs =>
        dsimp only at q1
        obtain ⟨a, C, dx, fv, rfl, ea, y, hc, rp⟩ := ref_ins r1 ra e1
        cases et : tab c with
        | none => rw [et] at q1; exact q1.elim
        | some F =>
          cases el : fs.lookup m with
          | some w => rw [et, el] at q1; exact q1.elim
          | none =>
            rw [et, el] at q1
            obtain ⟨C', f', fd, ps, hc', hm, Fk, hb⟩ := ht c F et
            rw [hc] at hc'; cases hc'
            exact ⟨a, C, dx, fv, f', fd, ps, F, φ1, h1, n, rfl, y, (hI c C hc).cl, hm, Fk, hb, (rp_lookup rp).2 el, x.step s1 r1, ra, q1.mono fun w m k => k.step s1⟩
      | _ => exact q1.elim
  | _ => exact q1.elim
theorem q_methX {m : Str} {tab : Tab} {pl : Sem Bool} (hI : InsOk X.K Z.T) (ht : TabX X.prog X.w X.K X.mg X.base Z.T qc k m tab) (hx : XOk X Z) (hr : Room j X.A) (hkj : k ≤ j) (ho : QE X Z o fo) (ha : QA X Z (e :: es) fa)
    (hst : starEach (e :: es) X.env = (false, eval e X.env) :: starEach es X.env := by rfl) (hpl : (backTo pos (starEach es X.env)).any (·.1) = false := by rfl)
    (hev : eval (.Call (.Attribute o m apos) (e :: es) [] pos) X.env = (do
      let ov ← eval o X.env
      standAt apos.atName
      let (f, first) ← holding [ov] (getMethod ov m pl)
      callWith pos f first (backTo pos (starEach (e :: es) X.env)) (backToKw pos (keywordEach [] X.env))) := by rfl)
    (hq : qc = true → X.calm = true := by first | exact fun _ => rfl | (intro h; cases h)) : QE X Z (.Call (.Attribute o m apos) (e :: es) [] pos) (xMethX m tab fo fa) := by
  refine ⟨fun pins s σ H Q I ⟨φ, h, ρ, x0, q⟩ => ?_⟩
  refine PySem.W.methodCall_KW (pl := pl) (thn (methX_ok hI ht ho I x0 q) fun u s1 ⟨v, H1, I1, rx, a, C, dx, fs, f, fd, ps, F, φ1, h1, n, ex, ea, c, hm, Fk, hb, l, x1, ra, q1⟩ => ?_) hev
  subst ex
  obtain rfl : u = Value.ref a := rx
  refine getmeth_ok I1 ea c hm l ?_
  refine PySem.W.callWith_K (first := [.ref a]) (h₀ := X.base) I.ok.mod.kin hm.kp (thn (args_X (F := fun ws => F (.ref n :: ws)) ha I1 x1 q1) fun us s2 ⟨vs, H2, I2, r, φ2, h2, ws, s2', x2, rw2, q2⟩ => ⟨I2.kIn, ?_⟩) hst hpl
  exact run_mX (us := .ref a :: us) (vs := .ref a :: vs) Fk hx (hr.mono hkj) hq hb I2 (.cons rfl r) x2.sg x2.st x2.rh (by unfold RWs; exact ⟨_, _, rfl, ra.step s2', rw2⟩) q2
end
end M

set_option Elab.async false
set_option linter.all false
set_option maxRecDepth 100000
set_option maxHeartbeats 1000000
namespace M
open PySem PySem.Spec PyProof.Rows L2
/-! ## MV: raise, try -/
def bmV : List Value := [.type "ValueError", .type "Exception", .type "BaseException", .type "object"]
/-- the class at C is an exception's, as the text has it -/
def excSh (K : PySem.W.Frag) (C : Addr) (newId : String) : Bool := match K.lookup C with
  | some ⟨.type "type", _, .cls cd, sl⟩ => (match cd.mro, sl.toList with
    | .ref C' :: _, [_, _, _, _, some (.builtin n), _] => C' == C && (n == newId && !cd.hasDel)
    | _, _ => false)
  | _ => false
theorem excSh_of {K : PySem.W.Frag} {C : Addr} {newId : String} (q : excSh K C newId = true) : ∃ nm qn N bs bm hd sn sub ab col dd k0 k1 k2 k3 k5, K.lookup C = some (excClassObj nm qn C N bs bm hd sn sub ab col dd k0 k1 k2 k3 k5 newId) := by
  unfold excSh at q
  split at q
  · rename_i dd cd sl ho
    split at q
    · rename_i C' bm k0 k1 k2 k3 n k5 hm hs
      simp only [Bool.and_eq_true, beq_iff_eq, Bool.not_eq_true'] at q
      obtain ⟨rfl, rfl, hdel⟩ := q
      obtain ⟨nm, bs, mro, ns, qn, hd, sn, sub, ab, col, del⟩ := cd
      dsimp only at hm hdel
      subst hm hdel
      obtain ⟨l⟩ := sl
      dsimp only at hs
      subst hs
      exact ⟨nm, qn, ns, bs, bm, hd, sn, sub, ab, col, dd, k0, k1, k2, k3, k5, ho⟩
    · cases q
  · cases q
theorem mro_of {K : PySem.W.Frag} {C : Addr} {nm qn : Str} {N : Addr} {bs bm : List Value} {hd : Bool} {sn : List Str} {sub : List Value} {ab : Bool} {col : Option Bool} {dd : Option Addr} {k0 k1 k2 k3 k5 : Option Value} {newId : String} {v : Value} {b : Bool}
    (ho : K.lookup C = some (excClassObj nm qn C N bs bm hd sn sub ab col dd k0 k1 k2 k3 k5 newId)) (q : PySem.W.mroIn K C v = some b) : (Value.ref C :: bm).contains v = b := by
  unfold PySem.W.mroIn PySem.W.clsIn at q
  rw [ho] at q
  exact Option.some.inj q
section
variable {K : PySem.W.Frag} {h : Heap} {C : Addr} {newId : String}
/-- a class that is raised as it stands: without an __init__ of its own -/
def rzIn (K : PySem.W.Frag) (C : Addr) : Bool := PySem.W.excIn K C bmV "ValueError.__new__"
theorem rz_of (X : K.In h) (q : rzIn K C = true) : ∃ bm N nm qn bs hd sn sub ab col dd k0 k1 k2 k3 k5 mN, h.get? C = some (excClassObj nm qn C N bs bm hd sn sub ab col dd k0 k1 k2 k3 k5 "ValueError.__new__") ∧ h.Ns N mN ∧ mN "__init__" = none ∧ OwnTail h bmV bm := by
  unfold rzIn PySem.W.excIn at q
  split at q
  · rename_i dd cd sl ho
    split at q
    · rename_i C' bm k0 k1 k2 k3 n k5 hm hs
      simp only [Bool.and_eq_true, beq_iff_eq, Bool.not_eq_true'] at q
      obtain ⟨⟨⟨⟨⟨rfl, rfl⟩, hdel⟩, ht⟩, hok⟩, hni⟩ := q
      obtain ⟨nm, bs, mro, ns, qn, hd, sn, sub, ab, col, del⟩ := cd
      dsimp only at hm hdel hok hni
      subst hm hdel
      obtain ⟨l⟩ := sl
      dsimp only at hs
      subst hs
      have i1 := PySem.W.isNs_of_in X hok
      exact ⟨bm, ns, nm, qn, bs, hd, sn, sub, ab, col, dd, k0, k1, k2, k3, k5, h.nsMap ns, X _ _ ho, .of_isNs i1, PySem.W.nsMap_none_of_in X hok hni, PySem.W.tail_of_in X ht⟩
    · cases q
  · cases q
end
def RzAt (K : PySem.W.Frag) (mg : Str → Option Value) (T : CTb) (c : Str) : Prop := ∃ C, T.x c = some C ∧ mg c = some (.ref C) ∧ rzIn K C = true
def xRaise (c : Str) (f : Exs) : Sm := fun ρ h => match f ρ h with
  | .ok ws h1 => bif decide (ws.length ≤ sizeLine) then .ex (.exc c [] []) h1 else .no
  | .ex w h1 => .ex w h1
  | .no => .no
section
variable {X : Cx} {Z : Zc} {fa : Exs} {c : Str} {np cpos pos : Pos} {e : Expr} {es : List Expr}
theorem qs_raise (Rz : RzAt X.K X.mg Z.T c) (hx : XOk X Z) (hg : Gl X c) (ha : QA X Z (e :: es) fa) (hdb : (c == ("__debug__" : Str)) = false := by decide) (he : starEach (e :: es) X.env = (false, eval e X.env) :: starEach es X.env := by rfl)
    (hpl : (backTo cpos (starEach es X.env)).any (·.1) = false := by rfl) (hcl : X.calm = true := by rfl) : QS X Z (.Raise (some (.Call (.Name c np) (e :: es) [] cpos)) none pos) (xRaise c fa) := by
  obtain ⟨C, hT, hm, hq⟩ := Rz
  refine ⟨fun pins s σ H D I ⟨φ, h, ρ, x, q⟩ => ?_⟩
  obtain ⟨bm, N, nm, qn, bs, hd, sn, sub, ab, col, dd, k0, k1, k2, k3, k5, mN, hC, hN, hni, Tl⟩ := rz_of I.ok.mod.kin hq
  have hps := ha.pa cpos pins s σ H (fun vs H1 => ∃ φ1 h1, Here Z σ H1 φ1 h1 ρ ∧ vs.length ≤ sizeLine ∧ Z.xw (.exc c [] []) h1) I ⟨φ, h, ρ, x, by
    unfold xRaise at q
    cases e1 : fa ρ h with
    | no => rw [e1] at q; exact q.elim
    | ex w h1 => rw [e1] at q; exact q
    | ok ws h1 =>
      rw [e1] at q
      dsimp only at q
      cases hz : decide (ws.length ≤ sizeLine) with
      | false => rw [hz] at q; exact q.elim
      | true =>
        rw [hz] at q
        intro φ1 H1 vs s1 r1 rw1
        exact ⟨φ1, h1, x.step s1 r1, by rw [← rw1.length]; exact of_decide_eq_true hz, q⟩⟩
  refine wpAny_Raise_call_subT (nm := nm) (q := qn) (N := N) (bs := bs) (hdct := hd) (sn := sn) (sub := sub) (ab := ab) (col := col) (dd := dd) (k0 := k0) (k1 := k1) (k2 := k2) (k3 := k3) (k5 := k5) PySem.F.excBase_ValueError (Tl.hasType PySem.F.excBase_ValueError.hasBase) (I.ok.hd hcl) (by rw [he]; show (false || (backTo cpos (starEach es X.env)).any (·.1)) = false; rw [hpl]; rfl) hni (ld_glob I hg hm ⟨rfl, ?_⟩ hdb)
  rw [he] at hps ⊢
  refine Calls.evalArgs_plain (thn hps fun us s2 ⟨vs, H2, I2, r, φ2, h2, x2, hl, xw⟩ => ⟨rfl, by rw [← r.length]; exact hl, I2.bk _ _ hC, hN.keeps I2.bk, Tl.keeps I2.bk, fun h' a hm' => ?_⟩)
  obtain ⟨t, ht, _, _⟩ := hm'.there
  refine hx _ _ ⟨pins, σ, H2, a, .ref C, none, none, φ2, h2, .exc c [] [], rfl, ⟨I2.kept (t' := s2.toks) hm'.keeps, ⟨_, _, ht, rfl, rfl, rfl, rfl⟩, fun b hb => ?_⟩, x2.sg, x2.st, x2.rh, ⟨C, [], hT, rfl, rfl, by unfold RWs; rfl, rfl⟩, xw⟩
  have hb : b = a := by simpa using hb
  subst hb
  exact ⟨untracked I2.hok hm'.new, outs_new I2 hm'.new⟩
end
end M

set_option Elab.async false
set_option linter.all false
set_option maxRecDepth 100000
set_option maxHeartbeats 1000000
namespace M
open PySem PySem.Spec PyProof.Rows L2
/-! ## MW: try, except .. as -/
abbrev _root_.L2.Cx.tr (X : Cx) (E : Value → Shared → Prop) (pn : List (Addr × Obj)) : Cx := { X with xe := E, pn := pn }
abbrev _root_.L2.Cx.loud (X : Cx) (e : Addr) : Cx := { X with A := X.A.mark (some (.ref e)), calm := false, xe := fun _ _ => False }
theorem _root_.L2.Room.mark {k : Nat} {A : Around} (r : Room k A) (v : Option Value) : Room k (A.mark v) := ⟨r.dp, r.un⟩
section
variable {X : Cx} {pins : List (Addr × Obj)} {σ : St} {H : Hp} {s : Shared}
theorem inv_tr (I : Inv X pins σ H s) (E : Value → Shared → Prop) : Inv (X.tr E (X.pn ++ pins)) [] σ H s :=
  ⟨⟨I.ok.mod, I.ok.kind, I.ok.glob, I.ok.blt, I.ok.above, I.ok.inj, I.ok.has, I.ok.cab, I.ok.hd, I.ok.frames, I.ok.stk, I.ok.exf, I.ok.bs, I.ok.bsz, I.ok.noex, I.ok.exfs, I.ok.funs, I.ok.frf⟩, I.os, I.bare, I.base, I.loc, I.cell, I.free, I.freeC, fun p hp => I.pin p (by simpa using hp), I.hok, I.len⟩
theorem inv_untr {E : Value → Shared → Prop} {pins1 : List (Addr × Obj)} (ok : X.Ok) (I : Inv (X.tr E (X.pn ++ pins)) pins1 σ H s) : Inv X pins σ H s :=
  ⟨ok, I.os, I.bare, I.base, I.loc, I.cell, I.free, I.freeC, fun p hp => I.pin p (List.mem_append_left _ hp), I.hok, I.len⟩
theorem inv_loud (I : Inv X pins σ H s) (e : Addr) : Inv (X.loud e) pins σ H s :=
  ⟨⟨I.ok.mod, I.ok.kind, I.ok.glob, I.ok.blt, I.ok.above, I.ok.inj, I.ok.has, I.ok.cab, fun z => (by cases z), I.ok.frames, I.ok.stk, I.ok.exf, I.ok.bs, I.ok.bsz, I.ok.noex, I.ok.exfs, I.ok.funs, I.ok.frf⟩, I.os, I.bare, I.base, I.loc, I.cell, I.free, I.freeC, I.pin, I.hok, I.len⟩
theorem inv_unloud {e : Addr} (ok : X.Ok) (I : Inv (X.loud e) pins σ H s) : Inv X pins σ H s := ⟨ok, I.os, I.bare, I.base, I.loc, I.cell, I.free, I.freeC, I.pin, I.hok, I.len⟩
end
theorem exm {Md : Model} {A : Around} {E : Value → Shared → Prop} {s : Shared} {e C D : Addr} {oe : Obj} {Q : Bool → Shared → Prop} {nm qn nm' qn' : Str} {N N' : Addr} {bs bm bs' bm' : List Value} {hd hd' : Bool} {sn sn' : List Str} {sub sub' : List Value} {ab ab' : Bool} {col col' : Option Bool} {dd dd' : Option Addr} {k0 k1 k2 k3 k5 k0' k1' k2' k3' k5' : Option Value} {nw nw' : String}
    (hC : s.heap.get? C = some (excClassObj nm qn C N bs bm hd sn sub ab col dd k0 k1 k2 k3 k5 nw)) (hD : s.heap.get? D = some (excClassObj nm' qn' D N' bs' bm' hd' sn' sub' ab' col' dd' k0' k1' k2' k3' k5' nw')) (he : s.heap.get? e = some oe) (hcls : oe.cls = .ref C)
    (hDB : (Value.ref D :: bm').contains (.type "BaseException") = true) (hCD : (Value.ref C :: bm).contains (.ref D) = true) (hq : Q true s) : wpAny Md A (excMatches (.ref e) (.ref D)) Q E s := by
  obtain ⟨hp, g, d, t, os⟩ := s
  have f := tc_notTuple
  unfold excMatches
  repeat (first | (with_reducible refine wpAny_loadPart_at he ?_; rw [hcls]) | with_reducible refine wpAny_loadPart_at hD ?_ | (with_reducible refine wpAny_isSubtype_exc hD ?_; rw [hDB]) | (with_reducible refine wpAny_isSubtype_exc hC ?_; rw [hCD]) | wp_step)
  exact hq
def fgt : List Nat → Sg → Sg
  | [], ρ => ρ
  | i :: r, ρ => fgt r (ρ.set i none)
theorem fgt_get {j : Nat} {w : W} : ∀ {asg : List Nat} {ρ : Sg}, (fgt asg ρ)[j]? = some (some w) → j ∉ asg ∧ ρ[j]? = some (some w)
  | [], ρ, e => ⟨by simp, e⟩
  | i :: r, ρ, e => by
    obtain ⟨n, q⟩ := fgt_get (asg := r) e
    rw [List.getElem?_set] at q
    split at q
    · split at q <;> cases q
    · rename_i hij
      exact ⟨by simp only [List.mem_cons, not_or]; exact ⟨fun z => hij z.symm, n⟩, q⟩
theorem fgt_len : ∀ {asg : List Nat} {ρ : Sg}, (fgt asg ρ).length = ρ.length
  | [], _ => rfl
  | i :: r, ρ => by unfold fgt; rw [fgt_len]; simp
/-- behind an except suite with a name: it is gone -/
def endX (i : Nat) : Out → Out
  | .nx ρ h => .nx (ρ.set i none) h
  | .bk ρ h => .bk (ρ.set i none) h
  | .ct ρ h => .ct (ρ.set i none) h
  | .rt w h => .rt w h
  | _ => .no
def xTry (sub : Str → Bool) (i : Nat) (asg : List Nat) (B Hn : Sm) : Sm := fun ρ h => match B ρ h with
  | .ex w h' => (match w with
    | .exc c fs ws => bif sub c then endX i (Hn ((fgt asg ρ).set i (some (.exc c fs ws))) h') else .no
    | _ => .no)
  | o => o
/-- what a class that is caught must have -/
structure CatAt (K : PySem.W.Frag) (mg : Str → Option Value) (T : CTb) (d : Str) (sub : Str → Bool) : Prop where
  ex : ∃ D, mg d = some (.ref D) ∧ excSh K D "ValueError.__new__" = true ∧ PySem.W.mroIn K D (.type "BaseException") = some true ∧ ∀ c C, sub c = true → T.x c = some C → excSh K C "ValueError.__new__" = true ∧ PySem.W.mroIn K C (.ref D) = some true
section
variable {X : Cx} {Z : Zc} {sub : Str → Bool} {i : Nat} {asg : List Nat} {B Hn : Sm} {n d : Str} {np hpos pos : Pos} {body suite : List Stmt} {b₀ : Stmt}
end
end M

set_option Elab.async false
set_option linter.all false
set_option maxRecDepth 100000
set_option maxHeartbeats 1000000
namespace M
open PySem PySem.Spec PyProof.Rows L2
/-! ## MX: what a caught exception tells: isinstance, attributes -/
/-- what the class of an exception must have for its attributes -/
structure ExcTy (K : PySem.W.Frag) (C : Addr) : Prop where
  ga : PySem.W.findIn K (.ref C) "__getattribute__" = some (some (.builtin "BaseException.__getattribute__"))
  gh : PySem.W.findIn K (.ref C) "__getattr__" = some none
  bx : PySem.W.mroIn K C (.type "BaseException") = some true
  ha : PySem.W.findIn K (.ref C) "__class__" = some (some (.builtin "object.__class__"))
  hn : PySem.W.specialIn K (.builtin "object.__class__") "__get__" = some (some (.builtin "getset_descriptor.__get__"))
  htk : PySem.W.takesIn K (.builtin "object.__class__") = some true
  hm : PySem.W.mroIn K C (.type "object") = some true
section
variable {prog : Program} {w : World} {A : Around} {E : Value → Shared → Prop} {s : Shared} {K : PySem.W.Frag} {x C : Addr} {ox : Obj} {odo : Option Obj} {name : Str}
/-- what is found: a value of its own dict, or something that binds -/
def FndQ (prog : Program) (w : World) (A : Around) (x C : Addr) (Q : Value → Shared → Prop) (s : Shared) : Builtin.ObjectAttr.Found → Prop
  | .value v => wpAny (model prog w) A (handedOut v) Q (fun _ _ => False) s
  | .bind g a => wpAny (model prog w) A.in1 (call g [a, .ref x, .ref C]) (fun v s' => wpAny (model prog w) A (handedOut v) Q (fun _ _ => False) s') (fun _ _ => False) s
  | .missing => False
theorem exc_by {fill expr : Bool} {tk : Tok} {Q : Value → Shared → Prop} {r : Builtin.ObjectAttr.Found} (X : K.In s.heap) (I : PySem.W.InstAt s.heap x ox C odo) (Z : ExcTy K C) (hf : PySem.W.findObj K C odo name = some r) (h : FndQ prog w A x C Q s r) :
    wpAny (model prog w) A (getAttrBy (.ref x) (.str name tk) fill expr) Q E s := by
  obtain ⟨hh, g, d, t, os⟩ := s
  have L0 := I.type (M := model prog w)
  have L1 := PySem.W.looks_findIn (M := model prog w) X Z.ga
  have L2 := PySem.W.looks_findIn (M := model prog w) X Z.gh
  have L3 := PySem.W.looks_mroIn (M := model prog w) X Z.bx
  unfold getAttrBy
  refine wpAny_holding (wpAny_bind (L0.at (wpAny_bind (L1.at ?_))))
  have hne : (Value.builtin "BaseException.__getattribute__" == Value.builtin "object.__getattribute__") = false := by decide +kernel
  simp only [hne, Bool.and_false, Bool.false_eq_true, if_false]
  unfold getAttrByItsOwn hookBefore
  have ht : onTheHeap (Value.ref C) = true := rfl
  simp only [ht, if_true]
  refine wpAny_bind (L2.at (wpAny_bind (wpAny_attempt (wpAny_holding ?_))))
  unfold callGetattribute
  have hfe : (expr && onTheHeap (Value.builtin "BaseException.__getattribute__")) = false := by cases expr <;> rfl
  simp only [hfe, Bool.false_eq_true, if_false]
  unfold boundAndCalled
  rw [PySem.F.attr_ValueError.ga.bind]
  refine wpAny_bind (wpAny_pure (wpAny_call (codeAny_call_builtin PySem.F.attr_ValueError.ga.plain PySem.F.entry_bexc_ga ?_)))
  have hk : builtinKind "BaseException.__getattribute__" = some .slot := by decide +kernel
  have hsplit : splitId "BaseException.__getattribute__" = some ("BaseException", "__getattribute__") := by decide +kernel
  have ha := PySem.F.args_bexc_ga (.ref x) (.str name tk)
  simp only [checkBuiltinCall, hk, hsplit]
  refine wpAny_bind ((L0.andThen L3).at ?_)
  have L4 := PySem.W.looks_find (M := model prog w) X I hf
  have e1 := I.at_
  have e2 := I.cls
  dsimp only at e1
  repeat (any_goals (first | assumption | (with_reducible refine wpAny_loadPart_at e1 ?_; rw [e2]; refine wpAny_pure ?_; refine wpAny_bind (L4.at ?_)) | wp_step))
  cases r with
  | value v => exact wpAny_pure (wpAny_mono h (fun _ _ z => z) fun _ _ z => z.elim)
  | missing => exact h.elim
  | bind g a =>
    show wpAny _ _ (holding [a] (call g [a, .ref x, .ref C]) >>= ret) _ _ _
    exact wpAny_bind (wpAny_holding (wpAny_mono h (fun v s' z => wpAny_pure (wpAny_mono z (fun _ _ q => q) fun _ _ q => q.elim)) fun _ _ z => z.elim))
theorem exc_class {Q : Option Value → Shared → Prop} (X : K.In s.heap) (I : PySem.W.InstAt s.heap x ox C odo) (Z : ExcTy K C) (h : Q (some (.ref C)) { s with toks := s.toks + 1 }) : wpAny (model prog w) A (getAttr? (.ref x) "__class__") Q E s := by
  obtain ⟨hh, g, d, t, os⟩ := s
  have hc : (PySem.W.clsIn K C).isSome = true := by
    cases q : PySem.W.clsIn K C with
    | some cd => rfl
    | none => have := Z.hm; unfold PySem.W.mroIn at this; rw [q] at this; cases this
  obtain ⟨cd, hc⟩ := Option.isSome_iff_exists.mp hc
  have hf : PySem.W.findObj K C odo "__class__" = some (.bind (.builtin "getset_descriptor.__get__") (.builtin "object.__class__")) := by
    unfold PySem.W.findObj
    rw [hc, Option.bind_some, Z.ha, Option.bind_some]
    simp [Z.hn, Z.htk]
  unfold getAttr? getAttrBy?
  refine wpAny_bind (wpAny_mkText (wpAny_bind (wpAny_attempt (exc_by (s := ⟨hh, g, d, t + 1, os⟩) X I Z hf (wpAny_call (PySem.W.class_get (s := ⟨hh, g, d, t + 1, os⟩) (od := odo) X I Z.hm ?_))))))
  exact PySem.W.handed_on rfl (wpAny_pure h)
def XAtI (e C : Addr) (odo : Option Obj) (h : Heap) : Prop := ∃ ox, PySem.W.InstAt h e ox C odo
theorem kitx_exc {odo : Option Obj} (Z : ExcTy K C) : PySem.W.KitX K (.ref x) (.ref C) (XAtI x C odo) where
  ty := fun _ _ _ ⟨_, I⟩ => I.type
  it := fun _ _ X _ => by
    cases q : K.lookup C with
    | none => have := Z.hm; unfold PySem.W.mroIn PySem.W.clsIn at this; rw [q] at this; cases this
    | some o =>
      obtain ⟨oc, od, dt, sl⟩ := o
      cases dt with
      | cls cd =>
        intro A' Q' E' s' k z
        unfold isType loadHead
        exact wpAny_bind (wpAny_loadPart (k _ _ (X _ _ q)) (wpAny_pure z))
      | _ => have := Z.hm; unfold PySem.W.mroIn PySem.W.clsIn at this; rw [q] at this; cases this
  ne := fun h tp dd its n sl X htp => by
    refine Bool.eq_false_iff.mpr fun z => ?_
    have e : C = tp := Value.ref.inj (beq_iff_eq.mp z)
    subst e
    cases q : K.lookup C with
    | none => have := Z.hm; unfold PySem.W.mroIn PySem.W.clsIn at this; rw [q] at this; cases this
    | some o =>
      have e2 := (X _ _ q).symm.trans htp
      cases e2
      have := Z.hm; unfold PySem.W.mroIn PySem.W.clsIn at this; rw [q] at this; cases this
  ca := fun X ⟨_, I⟩ k => exc_class X I Z k
end
end M

set_option Elab.async false
set_option linter.all false
set_option maxRecDepth 100000
set_option maxHeartbeats 1000000
namespace M
open PySem PySem.Spec PyProof.Rows L2
/-! ## MY: isinstance of anything, caught exceptions too, with a class or a tuple of classes -/
inductive TyX (K : PySem.W.Frag) (H : Hp) : V → Value → Prop where
  | of {v : V} {t : Value} (h : TyOf K H v t) : TyX K H v t
  | exc {e C : Addr} {d : Option Addr} (h : H e = some (.ext (XShape e C d))) (hd : ∀ da, d = some da → ∃ o, H da = some o) (Z : ExcTy K C) : TyX K H (.ref e) (.ref C)
/-- the second argument: a class, or a tuple of classes -/
def CAny (K : PySem.W.Frag) (H : Hp) (t : Value) (b : Bool) (c : V) : Prop := (∃ cv, clsV c cv ∧ PySem.W.kitOne K t cv = some b) ∨ ∃ p vs cvs, c = .ref p ∧ H p = some (.tup vs) ∧ Paired clsV vs cvs ∧ PySem.W.kitAny K t cvs = some b
def rIsiX (K : PySem.W.Frag) : List V → Hp → VK → Prop := fun xs H Q => ∃ y c t b, xs = [y, c] ∧ TyX K H y t ∧ CAny K H t b c ∧ Q (.bl b) H
section
variable {X : Cx}
theorem clsV_rel {c : V} {cv u : Value} (h : clsV c cv) (r : RelV c u) : u = cv := by
  cases c <;> simp only [clsV] at h <;> first | (subst h; exact r) | exact h.elim
theorem clsV_all : ∀ {vs : List V} {cvs us : List Value}, Paired clsV vs cvs → Vals vs us → us = cvs
  | _, _, _, .nil, .nil => rfl
  | _, _, _, .cons h t, .cons r q => by rw [clsV_rel h r, clsV_all t q]
theorem inst_of {pins : List (Addr × Obj)} {σ : St} {H : Hp} {s : Shared} (I : Inv X pins σ H s) {e C : Addr} {d : Option Addr} (h : H e = some (.ext (XShape e C d))) (hd : ∀ da, d = some da → ∃ o, H da = some o) : ∃ odo, XAtI e C odo s.heap := by
  obtain ⟨⟨o, vs, a, b, c, dd⟩, _⟩ := (show ObjOk X.prog X.w H s.heap e (.ext (XShape e C d)) from I.hok e _ h)
  have no : PySem.W.notCls o = true := by unfold PySem.W.notCls; rw [c]
  cases d with
  | none => exact ⟨none, o, a, b, no, by rw [dd]; trivial⟩
  | some da =>
    obtain ⟨ho, q⟩ := hd da rfl
    obtain ⟨ob, q2⟩ := hok_there I.hok q
    exact ⟨some ob, o, a, b, no, by rw [dd]; exact q2⟩
theorem call_isiX (K : PySem.W.Frag) (hK : X.K = K) : CallR X (.builtin "isinstance") (rIsiX K) := by
  subst hK
  intro pins s σ H xs us Q I r h
  obtain ⟨y, c, t, b, rfl, ty, ca, q⟩ := h
  cases r with
  | cons r1 r2 =>
    cases r2 with
    | cons r2 r3 =>
      cases r3
      rename_i u1 u2
      have fin : ∀ tk, EP X pins σ Q (.bool b) { s with toks := tk } := fun tk => ⟨.bl b, H, I.tok tk, rfl, q⟩
      have go : ∀ (T : Value) (Hx : Heap → Prop), PySem.W.KitX X.K u1 T Hx → Hx s.heap → T = t → u1 ≠ .builtin "__main__.__loader__#opaque" → wpAny (model X.prog X.w) X.A (call (.builtin "isinstance") [u1, u2]) (EP X pins σ Q) X.xe s := by
        intro T Hx kx hx et ne
        subst et
        rcases ca with ⟨cv, hc, hk⟩ | ⟨p, vs, cvs, rfl, hp, hv, hk⟩
        · rw [clsV_rel hc r2]
          exact PySem.W.kia_one kx I.kIn hx hk ne fin
        · obtain rfl : u2 = Value.ref p := r2
          obtain ⟨_, its, rv, ⟨o, h1, h2, n, h3⟩⟩ := (show ObjOk X.prog X.w H s.heap p (.tup vs) from I.hok p _ hp)
          obtain ⟨oc, od, dt, sl⟩ := o
          dsimp only at h2 h3
          subst h2 h3
          have := clsV_all hv rv
          subst this
          exact PySem.W.kia_tup kx I.kIn hx h1 hk ne fin
      cases ty with
      | exc h hd Z =>
        rename_i e C d
        obtain ⟨odo, hx⟩ := inst_of I h hd
        cases (show u1 = Value.ref e from r1)
        exact go _ _ (kitx_exc Z) hx rfl (fun z => nomatch z)
      | of h =>
        cases h with
        | non => cases (show u1 = Value.none from r1); exact go _ _ PySem.W.kitx_none True.intro rfl (fun z => nomatch z)
        | bl y => cases (show u1 = Value.bool y from r1); exact go _ _ PySem.W.kitx_bool True.intro rfl (fun z => nomatch z)
        | int i => obtain ⟨t, q⟩ := (show ∃ t, u1 = Value.int i t from r1); cases q; exact go _ _ PySem.W.kitx_int True.intro rfl (fun z => nomatch z)
        | str y => obtain ⟨t, q⟩ := (show ∃ t, u1 = Value.str y t from r1); cases q; exact go _ _ PySem.W.kitx_str True.intro rfl (fun z => nomatch z)
        | flt y => obtain ⟨t, q⟩ := (show ∃ t, u1 = Value.float y t from r1); cases q; exact go _ _ PySem.W.kitx_float True.intro rfl (fun z => nomatch z)
        | @lst a xs ea =>
          cases (show u1 = Value.ref a from r1)
          obtain ⟨_, _, n, _, h1⟩ := (show ObjOk X.prog X.w H s.heap a (.lst xs) from I.hok a _ ea)
          exact go _ _ PySem.W.kitx_list ⟨_, h1, rfl⟩ rfl (fun z => nomatch z)
        | @frz a ob xs ea =>
          cases (show u1 = Value.ref a from r1)
          obtain ⟨_, _, _, n, _, h1⟩ := (show ObjOk X.prog X.w H s.heap a (.frz ob (.lst xs)) from I.hok a _ ea)
          exact go _ _ PySem.W.kitx_list ⟨_, h1, rfl⟩ rfl (fun z => nomatch z)
        | @tup a xs ea =>
          cases (show u1 = Value.ref a from r1)
          obtain ⟨_, _, _, p⟩ := (show ObjOk X.prog X.w H s.heap a (.tup xs) from I.hok a _ ea)
          obtain ⟨o, h1, h2, _⟩ := p
          exact go _ _ PySem.W.kitx_tuple ⟨o, h1, h2⟩ rfl (fun z => nomatch z)
        | @dK a kvs ea =>
          cases (show u1 = Value.ref a from r1)
          obtain ⟨_, _, vs, _, p⟩ := (show ObjOk X.prog X.w H s.heap a (.dK kvs) from I.hok a _ ea)
          obtain ⟨o, es, ep, h1, h2, _⟩ := p
          exact go _ _ PySem.W.kitx_dict ⟨o, h1, h2.1⟩ rfl (fun z => nomatch z)
        | @dT a kvs ea =>
          cases (show u1 = Value.ref a from r1)
          obtain ⟨_, _, xs, _, o, es, ep, h1, h2, _⟩ := (show ObjOk X.prog X.w H s.heap a (.dT kvs) from I.hok a _ ea)
          exact go _ _ PySem.W.kitx_dict ⟨o, h1, h2.1⟩ rfl (fun z => nomatch z)
        | @ins a C dx fs ea cl ha hn htk hm =>
          cases (show u1 = Value.ref a from r1)
          obtain ⟨mA, O, _⟩ := ins_get I.hok ea
          obtain ⟨od, J, _⟩ := O.look
          exact go _ _ (PySem.W.kitx_own (cl.get _) cl.hd ha hn htk hm) J rfl (fun z => nomatch z)
end
/-! the machine's isinstance -/
def tyX (h : Mem) : W → Option Ty
  | .exc c _ _ => some (.inr c)
  | w => tyN h w
def clTy : W → Option Ty
  | .cls c => some (.inr c)
  | .ty n => some (.inl n)
  | _ => none
def kitA (kit : Kit) (t : Ty) : List W → Option Bool
  | [] => some false
  | w :: r => (clTy w).bind fun cn => (kit.get t cn).bind fun b => (kitA kit t r).bind fun b2 => some (b || b2)
def isiX (kit : Kit) (h : Mem) : List W → Option W
  | [w, .ty n] => (tyX h w).bind fun t => (kit.get t (.inl n)).map .bl
  | [w, .cls c] => (tyX h w).bind fun t => (kit.get t (.inr c)).map .bl
  | [w, .tup (c :: cs)] => (tyX h w).bind fun t => (kitA kit t (c :: cs)).map .bl
  | _ => none
def ExcOk (K : PySem.W.Frag) (T : CTb) : Prop := ∀ c C, T.x c = some C → T c = none ∧ ExcTy K C
theorem cls_rw {T : CTb} {φ : List Addr} {H : Hp} {w : W} {v : V} {cn : Ty} (e : clTy w = some cn) (r : RW T φ H w v) {cv : Value} (h : TV T cn cv) : clsV v cv := by
  cases w with
  | cls c =>
    cases e
    unfold RW at r
    obtain ⟨C, a, rfl⟩ := r
    obtain ⟨C', b, rfl⟩ := h
    rw [a] at b; cases b; rfl
  | ty n =>
    cases e
    unfold RW at r
    subst r
    exact h
  | _ => cases e
theorem kitA_ok {K : PySem.W.Frag} {T : CTb} {kit : Kit} (hk : KitOk K T kit) {t : Ty} {tv : Value} (ht : ∀ tv', TV T t tv' → tv' = tv) {φ : List Addr} {H : Hp} : ∀ {ws : List W} {vs : List V} {b : Bool}, kitA kit t ws = some b → RWs T φ H ws vs → ∃ cvs, Paired clsV vs cvs ∧ PySem.W.kitAny K tv cvs = some b
  | [], vs, b, e, r => by
    unfold RWs at r
    subst r
    cases e
    exact ⟨[], .nil, rfl⟩
  | w :: ws, vs, b, e, r => by
    unfold RWs at r
    obtain ⟨v, vr, rfl, r1, r2⟩ := r
    unfold kitA at e
    rw [Option.bind_eq_some_iff] at e
    obtain ⟨cn, hw, e⟩ := e
    rw [Option.bind_eq_some_iff] at e
    obtain ⟨b0, g, e⟩ := e
    rw [Option.bind_eq_some_iff] at e
    obtain ⟨b2, g2, e⟩ := e
    cases e
    obtain ⟨tv', cv, h1, h2, h3⟩ := hk _ (Kit.mem g)
    rw [ht tv' h1] at h3
    obtain ⟨cvs, p, q⟩ := kitA_ok hk ht (ws := ws) g2 r2
    refine ⟨cv :: cvs, .cons (cls_rw hw r1 h2) p, ?_⟩
    unfold PySem.W.kitAny
    rw [h3]
    cases b0 with
    | true => rfl
    | false => simpa using q
theorem tyX_ok {K : PySem.W.Frag} {T : CTb} (hI : InsOk K T) (hE : ExcOk K T) {φ : List Addr} {H : Hp} {h : Mem} {w : W} {v : V} {t : Ty} (r : RH T φ h H) (x : RW T φ H w v) (e : tyX h w = some t) {tv : Value} (ht : TV T t tv) : TyX K H v tv := by
  cases w with
  | exc c fs ws =>
    cases e
    unfold RW at x
    obtain ⟨p, C, d, vs, rfl, _, c1, c2, _, c3, _⟩ := x
    obtain ⟨C', c4, rfl⟩ := ht
    obtain ⟨n1, Z⟩ := hE c C c1
    have : T.any c = some C := by unfold CTb.any; rw [show T.t c = none from n1]; dsimp only; rw [c1]
    rw [this] at c4; cases c4
    refine .exc c2 (fun da z => ?_) Z
    subst z
    exact ⟨_, c3.2⟩
  | _ => exact .of (tyN_ok hI r x e ht)
theorem tv_inj {T : CTb} {t : Ty} {a b : Value} (h : TV T t a) (k : TV T t b) : b = a := by
  cases t with
  | inl n => rw [show a = .type n from h, show b = .type n from k]
  | inr c =>
    obtain ⟨C, x, rfl⟩ := h
    obtain ⟨C', y, rfl⟩ := k
    rw [x] at y; cases y; rfl
theorem isiX_ok {K : PySem.W.Frag} {T : CTb} {kit : Kit} (hI : InsOk K T) (hE : ExcOk K T) (hk : KitOk K T kit) : CbW T (isiX kit) (rIsiX K) := by
  intro φ h H ws vs w Q r x e k
  have one : ∀ (a : W) (u cv0 : V) (cn : Ty), (tyX h a).bind (fun t => (kit.get t cn).map W.bl) = some w → RW T φ H a u → (∀ cv, TV T cn cv → clsV cv0 cv) → rIsiX K [u, cv0] H Q := by
    intro a u cv0 cn e ra hc
    rw [Option.bind_eq_some_iff] at e
    obtain ⟨t, q, e⟩ := e
    rw [Option.map_eq_some_iff] at e
    obtain ⟨b, e1, rfl⟩ := e
    obtain ⟨tv, cv, h1, h2, h3⟩ := hk _ (Kit.mem e1)
    exact ⟨u, cv0, tv, b, rfl, tyX_ok hI hE r ra q h1, .inl ⟨cv, hc cv h2, h3⟩, here_k r rw_b k⟩
  unfold isiX at e
  split at e
  · rename_i w1 n
    unfold RWs at x
    obtain ⟨v1, r1, rfl, x1, x2⟩ := x
    unfold RWs at x2
    obtain ⟨v2, r2, rfl, x3, x4⟩ := x2
    unfold RWs at x4; subst x4
    exact one _ _ _ (.inl n) e x1 fun cv h => cls_rw rfl x3 h
  · rename_i w1 n
    unfold RWs at x
    obtain ⟨v1, r1, rfl, x1, x2⟩ := x
    unfold RWs at x2
    obtain ⟨v2, r2, rfl, x3, x4⟩ := x2
    unfold RWs at x4; subst x4
    exact one _ _ _ (.inr n) e x1 fun cv h => cls_rw rfl x3 h
  · rename_i w1 c0 cs
    unfold RWs at x
    obtain ⟨v1, r1, rfl, x1, x2⟩ := x
    unfold RWs at x2
    obtain ⟨v2, r2, rfl, x3, x4⟩ := x2
    unfold RWs at x4; subst x4
    rw [Option.bind_eq_some_iff] at e
    obtain ⟨t, q, e⟩ := e
    rw [Option.map_eq_some_iff] at e
    obtain ⟨b, e1, rfl⟩ := e
    have e1' := e1
    unfold kitA at e1
    rw [Option.bind_eq_some_iff] at e1
    obtain ⟨cn, hw, e1⟩ := e1
    rw [Option.bind_eq_some_iff] at e1
    obtain ⟨b0, g, _⟩ := e1
    obtain ⟨tv, cv, h1, _, _⟩ := hk _ (Kit.mem g)
    unfold RW at x3
    obtain ⟨p, us, rfl, _, hp, hrw⟩ := x3
    obtain ⟨cvs, pr, ka⟩ := kitA_ok hk (fun tv' z => tv_inj h1 z) e1' hrw
    exact ⟨v1, _, tv, b, rfl, tyX_ok hI hE r x1 q h1, .inr ⟨p, us, cvs, rfl, hp, pr, ka⟩, here_k r rw_b k⟩
  · cases e
end M

set_option Elab.async false
set_option linter.all false
set_option maxRecDepth 100000
set_option maxHeartbeats 1000000
namespace M
open PySem PySem.Spec PyProof.Rows L2
/-! ## MZ: count of a list of truths; slices of tuples -/
section
variable {X : Cx}
end
def xBmL (op : Mem → W → List W → Option W) (f : Ex) (g : Exs) : Ex := fun ρ h => (f ρ h).bind fun a h1 => match items h1 a with
  | some _ => (match g ρ h1 with
    | .ok ws h2 => .of (op h2 a ws) h2
    | .ex w h2 => .ex w h2
    | .no => .no)
  | none => .no
def countM (h : Mem) (a : W) (ws : List W) : Option W := match ws with
  | [.bl k] => ((items h a).bind bolW).map fun bs => .int (bs.count k : Nat)
  | _ => none
section
variable {X : Cx} {Z : Zc} {f : Ex} {fa : Exs} {o e : Expr} {apos cpos : Pos} {T : CTb}
/-! slices of tuples -/
def slTM (_ : Mem) (a : W) (lo hi : Option Int) : Option W := match a with
  | .tup ws => bif (decide (HT.sIx ws.length 0 lo = 0) && decide (HT.sIx ws.length ws.length hi = ws.length)) then none else some (.tup (cutW ws lo hi))
  | _ => none
end
/-- the body's own run, exceptions too -/
def selfX (n m : Nat) (B : Sm) : Fm := fun ws h => bif decide (ws.length = n) then (match runB m B ws h with
  | .ok w h' => bif decide (h.length ≤ h'.length) then .ok w h' else .no
  | .ex w h' => bif decide (h.length ≤ h'.length) then .ex w h' else .no
  | .no => .no) else .no
theorem selfX_told {n m : Nat} {B : Sm} : Told n m B (selfX n m B) := fun ws h wf lt => by
  unfold selfX
  cases hz : decide (ws.length = n) with
  | false => exact .inl rfl
  | true =>
    dsimp only [cond_true]
    cases e : runB m B ws h with
    | no => exact .inl rfl
    | ok w h' =>
      dsimp only
      cases hl : decide (h.length ≤ h'.length) with
      | false => exact .inl rfl
      | true => exact .inr ⟨of_decide_eq_true hz, fits_ok (of_decide_eq_true hl)⟩
    | ex w h' =>
      dsimp only
      cases hl : decide (h.length ≤ h'.length) with
      | false => exact .inl rfl
      | true => exact .inr ⟨of_decide_eq_true hz, fits_ex (of_decide_eq_true hl)⟩
theorem selfX_ok {n m : Nat} {B : Sm} {ws : List W} {h h' : Mem} {w : W} (hl : ws.length = n) (e : runB m B ws h = .ok w h') (hk : h.length ≤ h'.length) : selfX n m B ws h = .ok w h' := by
  unfold selfX
  rw [decide_eq_true hl, e]
  simp [hk]
theorem selfX_exc {n m : Nat} {B : Sm} {ws : List W} {h h' : Mem} {w : W} (hl : ws.length = n) (e : runB m B ws h = .ex w h') (hk : h.length ≤ h'.length) : selfX n m B ws h = .ex w h' := by
  unfold selfX
  rw [decide_eq_true hl, e]
  simp [hk]
end M

set_option Elab.async false
set_option linter.all false
set_option maxRecDepth 100000
set_option maxHeartbeats 1000000
namespace M
open PySem PySem.Spec PyProof.Rows L2
/-! ## NA: pop(0), a list times a number, equal sequences -/
section
variable {T : CTb}
def popM : List W → List W → Option (W × List W) := fun xs ws => match xs, ws with
  | x :: r, [.int i] => bif decide (i = 0) then some (x, r) else none
  | _, _ => none
theorem popM_ok : LmW T popM rPopAt := by
  intro φ h H n ws vs u xs ys w Q r ru rv e1 e2 k
  obtain ⟨a, us, rfl, ea, y, rx⟩ := ref_lst r ru e1
  unfold popM at e2
  split at e2
  · rename_i x0 r0 i
    cases hz : decide (i = 0) with
    | false => rw [hz] at e2; cases e2
    | true =>
      rw [hz] at e2
      obtain ⟨rfl, rfl⟩ : x0 = w ∧ r0 = ys := by simpa using e2
      have hi := of_decide_eq_true hz
      subst hi
      obtain ⟨v, rfl, rv1⟩ := rws_one rv
      rw [int_rw rv1]
      unfold RWs at rx
      obtain ⟨v0, vr, rfl, rx0, rxr⟩ := rx
      have ro : RO T φ H (.lst r0) (.lst vr) := ⟨_, rfl, rxr⟩
      have s3 := step_set (H := H) (ho := .lst vr) (List.mem_of_getElem? ea)
      refine ⟨a, v0 :: vr, 0, 0, v0, rfl, rfl, y, by decide, by decide, ?_, rfl, ?_⟩
      · simp [seqIndex?]
      · exact k _ _ s3 (r.set ea ro) (rx0.step s3)
  · cases e2
end
section
variable {X : Cx} {Z : Zc} {f g : Ex} {fa : Exs} {o e a b : Expr} {apos cpos pos : Pos}
theorem q_popAt (ho : QE X Z o f) (ha : QA X Z [e] fa) (hbase : attributeBase o "pop" X.env (eval o X.env) = eval o X.env := by rfl)
    (hfew : ((backTo cpos (starEach [e] X.env)).all (fun x => !x.1) && (backToKw cpos (keywordEach [] X.env)).all (fun x => x.1.isSome)
      && decide (([e] : List Expr).length + ([] : List Keyword).length + (if ([] : List Keyword).isEmpty then 0 else 1) < 30)) = true := by rfl)
    (hline : (apos.endLine == cpos.line) = true := by rfl) (hs : starEach [e] X.env = (false, eval e X.env) :: starEach [] X.env := by rfl) (hplain : (backTo cpos (starEach [] X.env)).any (·.1) = false := by rfl) :
    QE X Z (.Call (.Attribute o "pop" apos) [e] [] cpos) (xLm popM f fa) :=
  ⟨(pe_bm PySem.F.plainAttrs_list PySem.F.slot_list_pop PySem.F.type_list_pop mt_popAt ho.pe ha.pa hbase hfew hline hs hplain).imp fun σ H Q q => lm_ok popM_ok q⟩
end
section
variable {X : Cx} {Z : Zc} {g : Ex} {fa : Exs} {es : List Expr} {b : Expr} {pos pos' : Pos}
end
theorem eqM_flat {h : Mem} {n : Nat} {w : W} (f : flatW w = true) (e : eqFl w w = true) : eqM h n w w = some true := by
  cases n <;> simp [eqM, f, e]
theorem allM_self {f : W → W → Option Bool} : ∀ {ws : List W}, (∀ w ∈ ws, f w w = some true) → allM f ws ws = some true
  | [], _ => rfl
  | w :: r, h => by
    unfold allM
    rw [h w List.mem_cons_self, allM_self fun u m => h u (List.mem_cons_of_mem _ m)]
    rfl
theorem eqFl_self : ∀ {w : W}, flatW w = true → eqFl w w = true := by
  intro w h
  cases w <;> simp_all [flatW, eqFl]
/-- two equal tuples (lists) of flat things -/
theorem eqM_tup {h : Mem} {n : Nat} {ws : List W} (hf : ∀ w ∈ ws, flatW w = true) : eqM h (n + 1) (.tup ws) (.tup ws) = some true := by
  have : allM (eqM h n) ws ws = some true := allM_self fun w m => eqM_flat (hf w m) (eqFl_self (hf w m))
  simp [eqM, flatW, sq, this]
end M

set_option Elab.async false
set_option linter.all false
set_option maxRecDepth 100000
set_option maxHeartbeats 1000000
namespace M
open PySem PySem.Spec PyProof.Rows L2
/-! ## NB: list(..) that is written to later; a def without changes -/
section
variable {X : Cx} {Z : Zc} {fa : Exs} {x : Str} {e : Expr} {es : List Expr} {p pos : Pos}
end
instance puf_self {n m : Nat} {f : Ex} [hf : Pu f] : PuF (selfF n m (xRet f)) := ⟨fun ws h w h' e => by
  unfold selfF runB xRet at e
  by_cases hl : ws.length = n
  · rw [if_pos hl] at e
    cases e2 : f (startW m ws) h with
    | no => rw [e2] at e; simp [Out.res] at e
    | ex w1 h1 => rw [e2] at e; simp [Out.res] at e
    | ok w1 h1 =>
      have := hf.pu _ _ _ _ e2
      subst this
      rw [e2] at e
      simp [Out.res] at e
      exact e.2.symm
  · rw [if_neg hl] at e; cases e⟩
end M

set_option Elab.async false
set_option linter.all false
set_option maxRecDepth 100000
set_option maxHeartbeats 1000000
namespace M
open PySem PySem.Spec PyProof.Rows L2
/-! ## NC: count and index of a list of texts -/
section
variable {X : Cx}
end
def countSM (h : Mem) (a : W) (ws : List W) : Option W := match ws with
  | [.str k] => ((items h a).bind strW).map fun bs => .int (bs.count k : Nat)
  | _ => none
def indexSM (h : Mem) (a : W) (ws : List W) : Option W := match ws with
  | [.str k] => ((items h a).bind strW).bind fun bs => if k ∈ bs ∧ bs.length ≤ sizeLine then some (.int (bs.idxOf k : Nat)) else none
  | _ => none
section
variable {X : Cx} {Z : Zc} {f : Ex} {fa : Exs} {o e : Expr} {apos cpos : Pos} {T : CTb}
instance pu_bml {o' : Mem → W → List W → Option W} {f : Ex} {g : Exs} [hf : Pu f] [hg : PuS g] : Pu (xBmL o' f g) := ⟨fun ρ h w h' e => by
  unfold xBmL at e
  cases e1 : f ρ h with
  | ok a h1 =>
    have := hf.pu _ _ _ _ e1; subst this
    rw [e1] at e
    dsimp only [Res.bind] at e
    cases e2 : items h1 a with
    | none => rw [e2] at e; cases e
    | some us =>
      rw [e2] at e
      dsimp only at e
      cases e3 : g ρ h1 with
      | ok ws h2 =>
        have := hg.pu _ _ _ _ e3; subst this
        rw [e3] at e
        dsimp only at e
        unfold Res.of at e
        split at e
        · cases e; rfl
        · cases e
      | ex w h2 => rw [e3] at e; cases e
      | no => rw [e3] at e; cases e
  | ex w h2 => rw [e1] at e; cases e
  | no => rw [e1] at e; cases e⟩
end
end M

set_option Elab.async false
set_option linter.all false
set_option maxRecDepth 100000
set_option maxHeartbeats 1000000
namespace M
open PySem PySem.Spec PyProof.Rows L2
/-! ## ND: exceptions whose class has an __init__ of its own -/
/-- the class at C is an exception's, below ValueError, as the text has it -/
def excI (K : PySem.W.Frag) (C : Addr) : Bool := match K.lookup C with
  | some ⟨.type "type", _, .cls cd, sl⟩ => (match cd.mro, sl.toList with
    | .ref C' :: bm, [_, _, _, _, some (.builtin n), _] => C' == C && (n == "ValueError.__new__" && (!cd.hasDel && PySem.W.tailIn K bmV bm))
    | _, _ => false)
  | _ => false
section
variable {prog : Program} {w : World} {A : Around} {K : PySem.W.Frag} {C f : Addr} {R : Result → Shared → Prop} {h : Heap} {g : Array GenState} {d : Drawn} {t : Nat} {os : OsState}
end
section
variable {M : Model} {A : Around} {E : Value → Shared → Prop} {C : Addr} {env : Env} {nm q : Str} {N : Addr} {bs bm : List Value} {hdct : Bool} {sn : List Str} {sub : List Value} {ab : Bool} {col : Option Bool} {dd : Option Addr} {k0 k1 k2 k3 k5 : Option Value} {newId : String}
end
section
variable {prog : Program} {w : World} {A : Around} {E : Value → Shared → Prop} {K : PySem.W.Frag} {C e t0 : Addr} {h : Heap} {g : Array GenState} {d : Drawn} {t : Nat} {os : OsState}
end
end M

set_option Elab.async false
set_option linter.all false
set_option maxRecDepth 100000
set_option maxHeartbeats 1000000
namespace M
open PySem PySem.Spec PyProof.Rows L2 PySem.Builtin.ObjectAttr
/-! ## NE: a field of an exception -/
def exOnly : List Value → Bool
  | .ref _ :: r => exOnly r
  | l => l == bmV
def exOver (K : PySem.W.Frag) (C : Addr) : Bool := (PySem.W.clsIn K C).any fun cd => exOnly cd.mro
section
variable {prog : Program} {w : World} {A : Around} {E : Value → Shared → Prop} {K : PySem.W.Frag} {C e t0 : Addr} {s : Shared} {name : Str} {v : Value}
end
end M

set_option Elab.async false
set_option linter.all false
set_option maxRecDepth 100000
set_option maxHeartbeats 1000000
namespace M
open PySem PySem.Spec PyProof.Rows L2
/-! ## NF: raise C(x) where C has an __init__ of its own -/
section
variable {X : Cx} {pins : List (Addr × Obj)} {σ : St} {H : Hp} {s : Shared} {e : Addr}
end
/-- what such a class must have -/
structure IniOk (K : PySem.W.Frag) (C : Addr) (F : Str) : Prop where
  ei : excI K C = true
  sa : PySem.W.findIn K (.ref C) "__setattr__" = some (some (.builtin "object.__setattr__"))
  ov : exOver K C = true
  tk : PySem.W.takerIn K C F = some none
  hd : PySem.W.hasDictIn K C = true
/-- the class above it, by whose __init__ it is begun -/
structure BaseOk (K : PySem.W.Frag) (D : Addr) : Prop where
  ex : ∃ mc, PySem.W.specialIn K (.ref D) "__getattribute__" = some (some (.builtin "type.__getattribute__")) ∧ PySem.W.readsIn K D mc = true ∧ PySem.W.findCls K (.ref D) mc "__init__" = some (.val (.builtin "ValueError.__init__"))
section
variable {X : Cx} {C D : Addr} {F c : Str} {e0 : Expr} {es : List Expr} {t : TA} {ta tv : TE} {o value : Expr} {pos pos' apos p : Pos}
end
section
variable {P : Program} {w : World} {K : PySem.W.Frag} {mg : Str → Option Value} {base : Heap}
end
section
variable {prog : Program} {w : World} {A : Around} {E : Value → Shared → Prop} {s : Shared} {env : Env} {C : Addr} {nm q : Str} {N : Addr} {bs bm : List Value} {hdct : Bool} {sn : List Str} {sub : List Value} {ab : Bool} {col : Option Bool} {dd : Option Addr} {k0 k1 k2 k3 k5 : Option Value} {newId : String}
end
def xRaiseI (c F : Str) (f : Exs) : Sm := fun ρ h => match f ρ h with
  | .ok [w] h1 => .ex (.exc c [F] [w]) h1
  | .ok _ _ => .no
  | .ex w h1 => .ex w h1
  | .no => .no
section
variable {X : Cx} {Z : Zc} {fa : Exs} {c F : Str} {np cpos pos : Pos} {e : Expr} {es : List Expr} {kk j : Nat}
end
end M

set_option Elab.async false
set_option linter.all false
set_option maxRecDepth 100000
set_option maxHeartbeats 1000000
namespace M
open PySem PySem.Spec PyProof.Rows L2
/-! ## NG: a field of an exception, read -/
def xXf (c0 nm : Str) (f : Ex) : Ex := fun ρ h => (f ρ h).bind fun a h1 => match a with
  | .exc c fs ws => bif decide (c = c0) then (match (fs.zip ws).lookup nm with
    | some w => .ok w h1
    | none => .no) else .no
  | _ => .no
instance pu_xf {c0 nm : Str} {f : Ex} [hf : Pu f] : Pu (xXf c0 nm f) := ⟨fun ρ h w h' e => by
  unfold xXf at e
  cases e1 : f ρ h with
  | ok a h1 =>
    have := hf.pu _ _ _ _ e1; subst this
    rw [e1] at e
    cases a with
    | exc c fs ws =>
      dsimp only [Res.bind] at e
      cases hc : decide (c = c0) with
      | false => rw [hc] at e; cases e
      | true =>
        rw [hc] at e
        dsimp only [cond] at e
        split at e
        · cases e; rfl
        · cases e
    | _ => cases e
  | ex w h2 => rw [e1] at e; cases e
  | no => rw [e1] at e; cases e⟩
section
variable {X : Cx} {Z : Zc} {f : Ex} {o : Expr} {c0 nm : Str} {pos : Pos} {ta : TE}
end
end M

set_option Elab.async false
set_option linter.all false
set_option maxRecDepth 100000
set_option maxHeartbeats 1000000
namespace M
open PySem PySem.Spec PyProof.Rows L2
/-! ## NH: what the top wrote of many exception classes, looked at together -/
def excTyB (K : PySem.W.Frag) (C : Addr) : Bool :=
  PySem.W.findIn K (.ref C) "__getattribute__" == some (some (.builtin "BaseException.__getattribute__")) && (PySem.W.findIn K (.ref C) "__getattr__" == some none && (PySem.W.mroIn K C (.type "BaseException") == some true &&
  (PySem.W.findIn K (.ref C) "__class__" == some (some (.builtin "object.__class__")) && (PySem.W.specialIn K (.builtin "object.__class__") "__get__" == some (some (.builtin "getset_descriptor.__get__")) && (PySem.W.takesIn K (.builtin "object.__class__") == some true && PySem.W.mroIn K C (.type "object") == some true)))))
theorem excTy_of {K : PySem.W.Frag} {C : Addr} (h : excTyB K C = true) : ExcTy K C := by
  unfold excTyB at h
  simp only [Bool.and_eq_true, beq_iff_eq] at h
  obtain ⟨a, b, c, d, e, f, g⟩ := h
  exact ⟨a, b, c, d, e, f, g⟩
def excAll (K : PySem.W.Frag) (l : List Addr) : Bool := l.all (excTyB K)
theorem excAll_of {K : PySem.W.Frag} {l : List Addr} (h : excAll K l = true) {C : Addr} (m : C ∈ l) : ExcTy K C := excTy_of (List.all_eq_true.mp h C m)
/-- each stands under the class D -/
def capAll (K : PySem.W.Frag) (D : Addr) (l : List Addr) : Bool := excSh K D "ValueError.__new__" && (PySem.W.mroIn K D (.type "BaseException") == some true && l.all fun a => excSh K a "ValueError.__new__" && PySem.W.mroIn K a (.ref D) == some true)
theorem cap_of {K : PySem.W.Frag} {mg : Str → Option Value} {T : CTb} {d : Str} {sub : Str → Bool} {D : Addr} {l : List Addr} (h : capAll K D l = true) (hm : mg d = some (.ref D)) (hT : ∀ c C, sub c = true → T.x c = some C → C ∈ l) : CatAt K mg T d sub := by
  unfold capAll at h
  simp only [Bool.and_eq_true, beq_iff_eq] at h
  refine ⟨D, hm, h.1, h.2.1, fun c C hs e => ?_⟩
  have := List.all_eq_true.mp h.2.2 C (hT c C hs e)
  simp only [Bool.and_eq_true, beq_iff_eq] at this
  exact this
def rzAll (K : PySem.W.Frag) (l : List Addr) : Bool := l.all (rzIn K)
theorem rzAll_of {K : PySem.W.Frag} {l : List Addr} (h : rzAll K l = true) {C : Addr} (m : C ∈ l) : rzIn K C = true := List.all_eq_true.mp h C m
section
variable {K : PySem.W.Frag} {C : Addr}
end
end M

set_option Elab.async false
set_option linter.all false
set_option maxRecDepth 100000
set_option maxHeartbeats 1000000
namespace M
open PySem PySem.Spec PyProof.Rows L2
/-! ## NI: == where both may be empty dicts -/
section
variable {X : Cx} {T : CTb}
end
end M

set_option Elab.async false
set_option linter.all false
set_option maxRecDepth 100000
set_option maxHeartbeats 1000000
namespace M
open PySem PySem.Spec PyProof.Rows L2
/-! ## NJ: dicts that are written to: new, an item set, one taken out, their keys as a list; loops over lists that stand in the store -/
section
variable {X : Cx} {Z : Zc} {f g k : Ex} {o i v : Expr} {pos pos' : Pos}
end
section
variable {T : CTb} {φ : List Addr} {H : Hp}
end
/-! an item set -/
section
variable {X : Cx} {Z : Zc} {f g k : Ex} {o i v : Expr} {pos pos' : Pos}
end
/-! list(d) -/
section
variable {X : Cx} {Z : Zc} {f : Ex} {e : Expr} {x : Str} {p pos : Pos}
end
/-! for, over a list that stands in the store and stays as it is -/
open Classical in
noncomputable def xLoopS (G : Tg) (B : Sm) (n : Nat) (all : List W) : List W → Sm
  | [], ρ, h => if h[n]? = some (.lst all) then .nx ρ h else .no
  | w :: r, ρ, h => if h[n]? = some (.lst all) then (match G w ρ with
    | none => .no
    | some ρ1 => (match B ρ1 h with
      | .nx ρ' h' => xLoopS G B n all r ρ' h'
      | .ct ρ' h' => xLoopS G B n all r ρ' h'
      | .bk ρ' h' => .nx ρ' h'
      | o => o)) else .no
noncomputable def xForS (f : Ei) (G : Tg) (B : Sm) : Sm := fun ρ h => match f ρ h with
  | .ok none ws h' => xLoop G B ws ρ h'
  | .ok (some n) ws h' => xLoopS G B n ws ws ρ h'
  | .ex w h' => .ex w h'
  | .no => .no
section
variable {X : Cx} {Z : Zc} {B : Sm} {fi : Ei} {tg iter : Expr} {sts : List Stmt} {pos : Pos}
theorem loopS_ok {gg : TG} {Gt : Tg} (hw : TgW Z gg Gt) {J : It} {D : Ends} {n : Nat} {ws : List W} {φ1 : List Addr} {H1 : Hp} {h1 : Mem} {σ : St} {ρ : Sg} (x : Here Z σ H1 φ1 h1 ρ) (it : ItOk Z.T φ1 H1 J ws (srcP (some n) ws)) (q : (xLoopS Gt B n ws ws ρ h1).post Z φ1 H1 D) :
    ∃ Wd : Nat → Nat → St → Hp → Prop, (∃ m, Wd 0 m σ H1) ∧ ∀ i m σ H, Wd i m σ H → (J.stop i H ∧ D.nx σ H) ∨ (J.go i H ∧ ∃ N : St → Hp → Prop, (∀ σ' H', N σ' H' → ∃ m', m' < m ∧ Wd (i + 1) m' σ' H') ∧
      ∀ v H', J.yld i H v H' → gg v σ H' fun σ2 H2 => tHS Z B { D with nx := N, ct := N, bk := D.nx } σ2 H2) := by
  refine ⟨fun i m σ H => m = ws.length - i ∧ i ≤ ws.length ∧ ∃ φ h ρ, Step φ1 H1 φ H ∧ Here Z σ H φ h ρ ∧ (xLoopS Gt B n ws (ws.drop i) ρ h).post Z φ H D, ⟨ws.length, by simp, Nat.zero_le _, φ1, h1, ρ, Step.refl _ _, x, q⟩, ?_⟩
  rintro i m σ H ⟨rfl, hi, φ, h, ρ, s, y, q⟩
  by_cases hlt : i < ws.length
  · have ed : ws.drop i = ws[i] :: ws.drop (i + 1) := List.drop_eq_getElem_cons hlt
    have ei : ws[i]? = some ws[i] := by simp [hlt]
    rw [ed] at q
    unfold xLoopS at q
    by_cases hP : h[n]? = some (.lst ws)
    · rw [if_pos hP] at q
      refine .inr ⟨it.go φ H h i _ s y.rh hP ei, fun σ' H' => i + 1 ≤ ws.length ∧ ∃ φ h ρ, Step φ1 H1 φ H' ∧ Here Z σ' H' φ h ρ ∧ (xLoopS Gt B n ws (ws.drop (i + 1)) ρ h).post Z φ H' D, fun σ' H' p => ⟨ws.length - (i + 1), by omega, rfl, p⟩, fun v H' yl => ?_⟩
      obtain ⟨rfl, rw1⟩ := it.yld φ H h i _ v H' s y.rh hP ei yl
      cases e2 : Gt ws[i] ρ with
      | none => rw [e2] at q; exact q.elim
      | some ρ' =>
        rw [e2] at q
        simp only at q
        refine hw σ H' φ h ρ _ v ρ' _ y rw1 e2 fun σ' rs g => ⟨φ, h, ρ', ⟨g, y.st, y.rh, rs⟩, ?_⟩
        cases e3 : B ρ' h with
        | nx ρ2 h2 =>
          rw [e3] at q
          exact fun φ2 H2 σ2 s2 r2 rs2 g2 => ⟨hlt, φ2, h2, ρ2, s.trans s2, ⟨g2, y.st.trans s2, r2, rs2⟩, post_step q s2⟩
        | ct ρ2 h2 =>
          rw [e3] at q
          exact fun φ2 H2 σ2 s2 r2 rs2 g2 => ⟨hlt, φ2, h2, ρ2, s.trans s2, ⟨g2, y.st.trans s2, r2, rs2⟩, post_step q s2⟩
        | bk ρ2 h2 => rw [e3] at q; exact q
        | rt w2 h2 => rw [e3] at q; exact q
        | ex w2 h2 => rw [e3] at q; exact q
        | no => rw [e3] at q; exact q.elim
    · rw [if_neg hP] at q; exact q.elim
  · have e : i = ws.length := by omega
    subst e
    rw [List.drop_length] at q
    unfold xLoopS at q
    by_cases hP : h[n]? = some (.lst ws)
    · rw [if_pos hP] at q; exact .inl ⟨it.stop φ H h s y.rh hP, y.nx q⟩
    · rw [if_neg hP] at q; exact q.elim
theorem forS_ok {gg : TG} {Gt : Tg} (hw : TgW Z gg Gt) {D : Ends} {σ : St} {H : Hp} (h : tHS Z (xForS fi Gt B) D σ H) : tFor (tHI Z fi) gg (tHS Z B) D σ H := by
  obtain ⟨φ, h, ρ, x, q⟩ := h
  refine ⟨φ, h, ρ, x, ?_⟩
  unfold xForS at q
  cases e : fi ρ h with
  | no => rw [e] at q; exact q.elim
  | ex w h' => rw [e] at q; exact q
  | ok src ws h' =>
    rw [e] at q
    cases src with
    | some n => exact fun φ1 H1 J s1 r1 _ it => loopS_ok hw (x.step s1 r1) it (post_step q s1)
    | none => exact fun φ1 H1 J s1 r1 _ it => loop_ok hw (x.step s1 r1) it (post_step q s1)
theorem qs_forS {gg : TG} {Gt : Tg} (hw : TgW Z gg Gt) (hp : PassesOwn (model X.prog X.w) X.A X.env X.xe) (hc : X.calm = true) (hi : QI X Z tg iter fi) (hg : QG X tg gg) (hb : QB X Z sts B) (hs : ∀ x, foldedSetIterable iter X.env x = pure x := by intro _; rfl) :
    QS X Z (.For tg iter sts [] pos) (xForS fi Gt B) := ⟨(ps_for hp hc hi.pi hg.pg hb.ps hs).imp fun D σ H q => forS_ok hw q⟩
end
end M

set_option Elab.async false
set_option linter.all false
set_option maxRecDepth 100000
set_option maxHeartbeats 1000000
namespace M
open PySem PySem.Spec PyProof.Rows L2
open PySem.SeqAt (RcAt RcNeAt EqAt rc_eq_decline_or rc_ne_decline_or)
/-! ## NK: a text beside a dict; the place of a truth in a list; a text repeated -/
section
variable {A : Around} {s : Shared} {a : Addr} {es : Array DictEntry} {ep : Nat} {b : Str} {t : Tok}
/-- an object that is a dict -/
def DictO (h : Heap) (a : Addr) : Prop := ∃ es ep dd sl, h.get? a = some ⟨.type "dict", dd, .dict es ep, sl⟩
theorem DictO.ty (d : DictO s.heap a) : s.TypeIs (.ref a) "dict" := by obtain ⟨es, ep, dd, sl, e⟩ := d; exact ⟨_, e, rfl⟩
end

section
variable {X : Cx} {T : CTb}
end
/-! the place of a truth in a list -/
section
variable {X : Cx} {Z : Zc} {f : Ex} {fa : Exs} {o e : Expr} {apos cpos : Pos} {T : CTb}
end
/-! a text repeated -/
section
variable {X : Cx} {T : CTb}
end
/-! C() -/
section
variable {X : Cx} {Z : Zc} {p pos : Pos}
end
end M

set_option Elab.async false
set_option linter.all false
set_option maxRecDepth 100000
set_option maxHeartbeats 1000000
namespace M
open PySem PySem.Spec PyProof.Rows L2
/-! ## NL: except without a name; a comprehension over a list in the store, its list in the store -/
def endX0 : Out → Out
  | .nx ρ h => .nx ρ h
  | .bk ρ h => .bk ρ h
  | .ct ρ h => .ct ρ h
  | .rt w h => .rt w h
  | _ => .no
def xTry0 (sub : Str → Bool) (asg : List Nat) (B Hn : Sm) : Sm := fun ρ h => match B ρ h with
  | .ex w h' => (match w with
    | .exc c fs ws => bif sub c then endX0 (Hn (fgt asg ρ) h') else .no
    | _ => .no)
  | o => o
section
variable {X : Cx} {Z : Zc} {sub : Str → Bool} {asg : List Nat} {B Hn : Sm} {n d : Str} {np hpos pos : Pos} {body suite : List Stmt} {b₀ : Stmt}
theorem qs_try0 (hK : CatAt X.K X.mg Z.T d sub) (hg : Gl X d) (hsg : ∀ σ, Z.sg σ) (hst : X.stack = X.env :: X.outer) (hfr : X.env.frame = some X.env.locals)
    (hB : ∀ E' pn φ' H' sg' xw', (∀ j ∈ asg, ∀ σ v, sg' σ → sg' (σ.set j (some v))) → XOk (X.tr E' pn) ⟨Z.T, φ', H', sg', xw'⟩ → QB (X.tr E' pn) ⟨Z.T, φ', H', sg', xw'⟩ body B)
    (hH : ∀ e φ' H', QB (X.loud e) (Zf Z.T φ' H') (b₀ :: suite) Hn) (hdb : (d == ("__debug__" : Str)) = false := by decide) :
    QS X Z (.Try body [.ExceptHandler (some (.Name d np)) none (b₀ :: suite) hpos] [] [] pos) (xTry0 sub asg B Hn) := by
  obtain ⟨D, hd, hD, hDB, hsub⟩ := hK.ex
  refine ⟨fun pins s σ H Dn I ⟨φ, h, ρ, x, q⟩ => wpAny_Try_except ?_⟩
  obtain ⟨nmD, qnD, ND, bsD, bmD, hdD, snD, subD, abD, colD, ddD, a0, a1, a2, a3, a5, lkD⟩ := excSh_of hD
  refine wpAny_mono ((hB (fun v s₁ => wpAny (model X.prog X.w) X.A (noteFrame v X.env) (fun _ s₂ => wpAny (model X.prog X.w) X.A (setFlight v none) (fun _ s₃ => wpAny (model X.prog X.w) X.A (handleBy v X.env [.ExceptHandler (some (.Name d np)) none (b₀ :: suite) hpos]) (SP X pins Dn) X.xe s₃) X.xe s₂) X.xe s₁) (X.pn ++ pins) φ H
    (fun σ' => ∀ j, j ∉ asg → σ'[j]? = σ[j]?) (fun w h1 => ∃ c fs ws, w = .exc c fs ws ∧ sub c = true ∧ (endX0 (Hn (fgt asg ρ) h1)).post Z φ H Dn) (fun j hj σ' v z j' hj' => ?_) ?_).ps [] s σ H Dn (inv_tr I _) ⟨φ, h, ρ, ⟨fun _ _ => rfl, Step.refl _ _, x.rh, x.rs⟩, ?_⟩) (fun f s1 sp => ?_) fun v s1 z => z
  · rw [List.getElem?_set_ne (fun z' => hj' (by rw [← z']; exact hj))]; exact z j' hj'
  · rintro v s1 ⟨pins1, σ1, H1, e, cv, da, T1, φ1, h1, w, rfl, ⟨I1, R, own⟩, sg1, st1, rh1, rx1, c, fs, ws, rfl, hs1, qp⟩
    replace I1 := inv_untr I.ok I1
    replace own : ∀ b ∈ e :: T1.toList, H1 b = none ∧ Outs X pins b := fun b hb => ⟨(own b hb).1, (own b hb).2.1, (own b hb).2.2.1, (own b hb).2.2.2.1, fun p hp => (own b hb).2.2.2.2 p (List.mem_append_left _ hp)⟩
    obtain ⟨C, vs, hTc, rfl, hfl, hrw, hda⟩ := rx1
    obtain ⟨hC, hCD⟩ := hsub c C hs1 hTc
    obtain ⟨nm, qn, N, bs, bm, hdc, sn, sb, ab, col, dd, k0, k1, k2, k3, k5, lkC⟩ := excSh_of hC
    show wpAny _ _ (noteFrame (.ref e) X.env) _ _ s1
    refine note_ok (base := X.base) (by rw [← hst]; exact I1.ok.frames) (by rw [← hst]; exact I1.stack) hfr R fun g T2 r c1 nw => ?_
    have I2 := chg I1 (by rw [hst]; exact c1) own
    have own2 : ∀ b ∈ [e, T2], H1 b = none ∧ Outs X pins b := fun b hb => by
      rcases List.mem_cons.mp hb with rfl | hb
      · exact own b List.mem_cons_self
      · have hb : b = T2 := by simpa using hb
        subst hb
        rcases nw with nw | nw
        · exact own b (by rw [nw]; simp)
        · exact ⟨I1.hok.fresh nw, outs_new I1 (Heap.get?_none_of_le nw)⟩
    have ownT : ∀ b ∈ [T2], H1 b = none ∧ Outs X pins b := fun b hb => own2 b (List.mem_cons_of_mem _ hb)
    refine flight_ok r fun g2 r2 c2 => ?_
    have I3 := chg I2 (c2.mono (fun b z => by cases z) fun b z => z) ownT
    obtain ⟨oe, vv, he, hcls, hdi, hfd, hT2⟩ := id r2
    refine wpAny_handleBy_cons (codeAny_handlers_test (ld_glob (X := X.loud e) (inv_loud I3 e) hg hd ?_ hdb)) (by intro z; cases z)
    refine exm (I3.kIn _ _ lkC) (I3.kIn _ _ lkD) he hcls (mro_of lkD hDB) (mro_of lkC hCD) ?_
    refine codeAny_handlers_suite (flight_ok r2 fun g3 r3 c3 => ?_)
    have I4 := chg I3 (c3.mono (fun b z => by cases z) fun b z => z) ownT
    have rs4 : RS Z.T φ1 H1 (fgt asg ρ) σ1 := by
      refine ⟨?_, fun j w e1 => ?_⟩
      · rw [fgt_len, x.rs.len, I.len, I1.len]
      · obtain ⟨nj, e2⟩ := fgt_get e1
        obtain ⟨v, a, b⟩ := x.rs.var j w e2
        exact ⟨v, by rw [sg1 j nj]; exact a, b.step st1⟩
    refine wpAny_mono ((hH e φ1 H1).ps pins _ _ _ Dn (inv_loud I4 e) ⟨φ1, h1, _, ⟨trivial, Step.refl _ _, rh1, rs4⟩, ?_⟩) (fun f s7 sp => ?_) fun _ _ z => z.elim
    · cases e6 : Hn (fgt asg ρ) h1 with
      | nx ρ' h2 => rw [e6] at qp; exact fun φ' H' σ' s r rs _ => qp φ' H' _ (st1.trans s) r rs (hsg _)
      | bk ρ' h2 => rw [e6] at qp; exact fun φ' H' σ' s r rs _ => qp φ' H' _ (st1.trans s) r rs (hsg _)
      | ct ρ' h2 => rw [e6] at qp; exact fun φ' H' σ' s r rs _ => qp φ' H' _ (st1.trans s) r rs (hsg _)
      | rt w h2 => rw [e6] at qp; exact Kv.step qp st1
      | ex w h2 => rw [e6] at qp; exact qp.elim
      | no => rw [e6] at qp; exact qp.elim
    · cases f with
      | next => obtain ⟨σ', H', J, z⟩ := sp; exact ⟨_, H', inv_unloud I.ok J, z⟩
      | brk => obtain ⟨σ', H', J, z⟩ := sp; exact ⟨_, H', inv_unloud I.ok J, z⟩
      | cont => obtain ⟨σ', H', J, z⟩ := sp; exact ⟨_, H', inv_unloud I.ok J, z⟩
      | ret u => obtain ⟨v, σ', H', J, rv, z⟩ := sp; exact ⟨v, _, H', inv_unloud I.ok J, rv, z⟩
  · unfold xTry0 at q
    cases e1 : B ρ h with
    | nx ρ' h' => rw [e1] at q; exact fun φ' H' σ' s r rs _ => q φ' H' σ' s r rs (hsg _)
    | bk ρ' h' => rw [e1] at q; exact fun φ' H' σ' s r rs _ => q φ' H' σ' s r rs (hsg _)
    | ct ρ' h' => rw [e1] at q; exact fun φ' H' σ' s r rs _ => q φ' H' σ' s r rs (hsg _)
    | rt w h' => rw [e1] at q; exact q
    | no => rw [e1] at q; exact q
    | ex w h' =>
      rw [e1] at q
      dsimp only at q
      cases w with
      | exc c fs ws =>
        dsimp only at q
        cases hs : sub c with
        | false => rw [hs] at q; exact q.elim
        | true => rw [hs] at q; exact ⟨c, fs, ws, rfl, hs, q⟩
      | _ => exact q.elim
  · cases f with
    | next => obtain ⟨σ', H', J, z⟩ := sp; exact wpAny_execs_nil ⟨σ', H', inv_untr I.ok J, z⟩
    | brk => obtain ⟨σ', H', J, z⟩ := sp; exact ⟨σ', H', inv_untr I.ok J, z⟩
    | cont => obtain ⟨σ', H', J, z⟩ := sp; exact ⟨σ', H', inv_untr I.ok J, z⟩
    | ret u => obtain ⟨v, σ', H', J, rv, z⟩ := sp; exact ⟨v, σ', H', inv_untr I.ok J, rv, z⟩
end
open Classical in
noncomputable def xBlkS (src : Option Nat) (all : List W) (G : Tg) (c el : Ex) (ρ0 : Sg) (n0 : Nat) : List W → Mem → Option Mem
  | [], h => if srcP src all h then some h else none
  | w :: r, h => if srcP src all h then (match G w ρ0 with
    | none => none
    | some ρ => (match c ρ h with
      | .ok (.bl true) h1 => (match el ρ h1 with
        | .ok x h2 => (match h2[n0]? with
          | some (.lst acc) => bif decide (acc.length < sizeLine) then xBlkS src all G c el ρ0 n0 r (h2.set n0 (.lst (acc ++ [x]))) else none
          | _ => none)
        | _ => none)
      | .ok (.bl false) h1 => xBlkS src all G c el ρ0 n0 r h1
      | _ => none)) else none
noncomputable def xCompS (fi : Ei) (own : Nat) (ix : List Nat) (G : Tg) (c el : Ex) : Ex := fun ρ h => match fi ρ h with
  | .ok src ws h1 => (match xBlkS src ws G c el (ρC own ix ρ) h1.length ws (h1 ++ [.lst []]) with
    | some h2 => .ok (.ref h1.length) h2
    | none => .no)
  | .ex w h1 => .ex w h1
  | .no => .no
section
variable {X : Cx} {Z : Zc} {f g k : Ex} {fa : Exs} {fi : Ei} {osc : Scope} {N own fr : List Str} {ix : List Nat} {scope : Scope} {tg iter elt : Expr} {ifs : List Expr} {pos : Pos} {e c : Expr}
theorem blkS_ok {gg : TG} {G : Tg} {cc el : Ex} {T : CTb} {σ : St} {ρ : Sg} {φ1 : List Addr} {H1 : Hp} {h1 out : Mem} {J : It} {src : Option Nat} {ws : List W} (hG : TgW (Zb T own ix σ) gg G)
    (r1 : RH T φ1 h1 H1) (rs : RS T φ1 H1 ρ σ) (it : ItOk T φ1 H1 J ws (srcP src ws)) (q : xBlkS src ws G cc el (ρC own.length ix ρ) h1.length ws (h1 ++ [.lst []]) = some out) (acc : Addr) (ha : H1 acc = none) {Q : Hp → Prop}
    (k : ∀ φ' H', Step φ1 H1 φ' H' → RH T φ' out H' → φ'[h1.length]? = some acc → Q H') :
    tBlock J (σC own ix σ) acc gg (tHT (Zb T own ix σ) cc) (tH (Zb T own ix σ) el) Q (upd H1 acc (.lst [])) := by
  have s0 := step_new (φ := φ1) (ho := .lst []) ha
  have rb := r1.new (o := .lst []) ha (by unfold RO; exact ⟨[], rfl, by unfold RWs; rfl⟩)
  have hn0 : (φ1 ++ [acc])[h1.length]? = some acc := by rw [← r1.len]; simp
  refine ⟨fun i m H => m = ws.length - i ∧ i ≤ ws.length ∧ ∃ φ h, Step (φ1 ++ [acc]) (upd H1 acc (.lst [])) φ H ∧ RH T φ h H ∧ xBlkS src ws G cc el (ρC own.length ix ρ) h1.length (ws.drop i) h = some out,
    ⟨ws.length, by simp, Nat.zero_le _, _, _, Step.refl _ _, rb, q⟩, ?_⟩
  rintro i m H ⟨rfl, hi, φ, h, sH, rH, q⟩
  have hn := sH.get hn0
  by_cases hlt : i < ws.length
  · have ed : ws.drop i = ws[i] :: ws.drop (i + 1) := List.drop_eq_getElem_cons hlt
    have ei : ws[i]? = some ws[i] := by simp [hlt]
    rw [ed] at q
    unfold xBlkS at q
    by_cases hP : srcP src ws h
    case neg => rw [if_neg hP] at q; cases q
    rw [if_pos hP] at q
    refine .inr ⟨it.go _ H _ i _ (s0.trans sH) rH hP ei, fun x H' yl => ?_⟩
    obtain ⟨rfl, rwx⟩ := it.yld _ H _ i _ x H' (s0.trans sH) rH hP ei yl
    cases e2 : G ws[i] (ρC own.length ix ρ) with
    | none => rw [e2] at q; cases q
    | some ρ' =>
      rw [e2] at q
      simp only at q
      have x0 : Here (Zb T own ix σ) (σC own ix σ) H' φ h (ρC own.length ix ρ) := ⟨leS_refl _, step_nil, rH, rs_C (rs.step (s0.trans sH))⟩
      refine hG _ _ _ _ _ _ x ρ' _ x0 rwx e2 fun σ' rs' le => ⟨le, ?_⟩
      have x1 : Here (Zb T own ix σ) σ' H' φ h ρ' := ⟨le, step_nil, rH, rs'⟩
      refine ⟨_, _, ρ', x1, ?_⟩
      cases e3 : cc ρ' h with
      | no => rw [e3] at q; cases q
      | ex w h2 => rw [e3] at q; cases q
      | ok w h2 =>
        rw [e3] at q
        cases w with
        | bl b =>
          refine ⟨b, rfl, fun φ3 H3 s3 r3 => ?_⟩
          cases b with
          | false =>
            exact iteF ⟨ws.length - (i + 1), by omega, rfl, hlt, φ3, h2, sH.trans s3, r3, q⟩
          | true =>
            refine iteT ⟨_, _, ρ', x1.step s3 r3, ?_⟩
            simp only at q
            cases e5 : el ρ' h2 with
            | no => rw [e5] at q; cases q
            | ex w h3 => rw [e5] at q; cases q
            | ok y h3 =>
              rw [e5] at q
              simp only at q
              cases e6 : h3[h1.length]? with
              | none => rw [e6] at q; cases q
              | some ob =>
                rw [e6] at q
                cases ob with
                | lst aw =>
                  simp only at q
                  cases hz : decide (aw.length < sizeLine) with
                  | false => rw [hz] at q; cases q
                  | true =>
                    rw [hz] at q
                    intro φ4 H4 v s4 r4 rw4
                    have hn4 := s4.get (s3.get hn)
                    obtain ⟨ho, y1, ys, rfl, y2⟩ := r4.obj h1.length (.lst aw) acc e6 hn4
                    have lw := y2.length
                    have s5 := step_set (H := H4) (ho := .lst (ys ++ [v])) (List.mem_of_getElem? hn4)
                    have r5 := r4.set (o := .lst (aw ++ [y])) (ho := .lst (ys ++ [v])) hn4 (by unfold RO; exact ⟨_, rfl, rws_snoc y2 rw4⟩)
                    exact ⟨ys, y1, by rw [← lw]; exact of_decide_eq_true hz, ws.length - (i + 1), by omega, rfl, hlt, φ4, _, (sH.trans s3).trans (s4.trans s5), r5, q⟩
                | _ => cases q
        | _ => cases q
  · have e : i = ws.length := by omega
    subst e
    rw [List.drop_length] at q
    unfold xBlkS at q
    by_cases hP : srcP src ws h
    case neg => rw [if_neg hP] at q; cases q
    rw [if_pos hP] at q
    have q := Option.some.inj q
    subst q
    exact .inl ⟨it.stop _ H _ (s0.trans sH) rH hP, k φ H (s0.trans sH) rH hn⟩
theorem qs_setcS {gg : TG} {G : Tg} {cc el : Ex} {i : Nat} {x : Str} {px spos : Pos} (hnd : X.N.Nodup) (hi' : X.N[i]? = some x) (hl : X.env.scope.names.lookup x = some .local) (hsg : ∀ σ v, Z.sg σ → Z.sg (σ.set i (some v))) (hcalm : X.calm = true) (ho : X.env.scope = osc) (hN : X.N = N)
    (hk : compOk osc N own fr ix scope = true) (hi : QI X Z tg iter fi) (hG : ∀ σ, TgW (Zb Z.T own ix σ) gg G)
    (hg : InC X own fr scope fun Y => QG Y tg gg) (ht : ∀ σ, InC X own fr scope fun Y => QC Y (Zb Z.T own ix σ) ifs cc) (hel : ∀ σ, InC X own fr scope fun Y => QE Y (Zb Z.T own ix σ) elt el) (hs : ∀ x, foldedSetIterable iter X.env x = pure x := by intro _; rfl)
    (hsw : swapsWith (.ListComp elt [⟨tg, iter, ifs, 0⟩] scope pos) (some (.Name x px)) spos.line X.env = pure true := by rfl) :
    QS X Z (.Assign [.Name x px] (.ListComp elt [⟨tg, iter, ifs, 0⟩] scope pos) spos) (xAsg (gN i) (xCompS fi own.length ix G cc el)) := ⟨by
  intro pins s σ H D I q
  refine ps_setc hnd hi' hl hcalm ho hN hk hi.pi (fun a b c d e => (hg a b c d e).pg) (fun a b c d e => (ht σ a b c d e).pc) (fun a b c d e => (hel σ a b c d e).pe) hs hsw pins s σ H D I ?_
  obtain ⟨φ, h, ρ, x, q⟩ := q
  refine ⟨φ, h, ρ, x, ?_⟩
  unfold xAsg xCompS at q
  cases e : fi ρ h with
  | no => rw [e] at q; exact q.elim
  | ex w h' => rw [e] at q; exact q
  | ok src ws h1 =>
    rw [e] at q
    simp only at q
    cases e2 : xBlkS src ws G cc el (ρC own.length ix ρ) h1.length ws (h1 ++ [.lst []]) with
    | none => rw [e2] at q; exact q.elim
    | some out =>
      rw [e2] at q
      intro φ1 H1 J s1 r1 sp it acc ha
      exact blkS_ok (hG σ) r1 (x.rs.step s1) it e2 acc ha fun φ' H' s2 r2 hn => q φ' H' _ (s1.trans s2) r2 ((x.rs.step (s1.trans s2)).set (by unfold RW; exact ⟨acc, hn, rfl⟩)) (hsg _ _ x.sg)⟩
end
/-! a method without arguments that may raise, or be called while something is handled -/
section
variable {X : Cx} {Z : Zc} {o : Expr} {fo : Ex} {apos pos : Pos} {qc : Bool} {k j : Nat}
theorem q_methX0 {m : Str} {tab : Tab} {pl : Sem Bool} (hI : InsOk X.K Z.T) (ht : TabX X.prog X.w X.K X.mg X.base Z.T qc k m tab) (hx : XOk X Z) (hr : Room j X.A) (hkj : k ≤ j) (ho : QE X Z o fo)
    (hev : eval (.Call (.Attribute o m apos) [] [] pos) X.env = (do
      let ov ← eval o X.env
      standAt apos.atName
      let (f, first) ← holding [ov] (getMethod ov m pl)
      callWith pos f first (backTo pos (starEach [] X.env)) (backToKw pos (keywordEach [] X.env))) := by rfl)
    (hq : qc = true → X.calm = true := by first | exact fun _ => rfl | (intro h; cases h)) : QE X Z (.Call (.Attribute o m apos) [] [] pos) (xMethX m tab fo xNil) := by
  refine ⟨fun pins s σ H Q I ⟨φ, h, ρ, x0, q⟩ => ?_⟩
  refine PySem.W.methodCall_KW (pl := pl) (thn (methX_ok hI ht ho I x0 q) fun u s1 ⟨v, H1, I1, rx, a, C, dx, fs, f, fd, ps, F, φ1, h1, n, ex, ea, c, hm, Fk, hb, l, x1, ra, q1⟩ => ?_) hev
  subst ex
  obtain rfl : u = Value.ref a := rx
  refine getmeth_ok I1 ea c hm l ?_
  have q2 : (F [.ref n] h1).post (Kv Z.T φ1 H1 Q) Z.xw := q1
  exact PySem.W.callWith_K0 (first := [.ref a]) I1.kIn hm.kp (run_mX (us := [.ref a]) (vs := [.ref a]) Fk hx (hr.mono hkj) hq hb I1 (.cons rfl .nil) x1.sg x1.st x1.rh (by unfold RWs; exact ⟨_, _, rfl, ra, by unfold RWs; rfl⟩) q2)
end
end M

set_option Elab.async false
set_option linter.all false
set_option maxRecDepth 100000
set_option maxHeartbeats 1000000

namespace K26
open PySem L2 M
local macro_rules | `(tactic| walk_at "ms") => `(tactic| simp [runB, startW, Out.res, xSeq, xIfS, xRet, xRetN, xDrop, xAsg, gN, xNext, xVar, xC, xNil, xCons, xBin, xUn, xCb, xBm, xAnd, xOr, xNot, xIf, xChain, xTup, xLst, xCall0, xNo, Res.bind, Res.of, iop, iopC, subM, divM, modM, mulM, powM, bandM, borM, ltM, gtM, geM, leM, negM, invM, addM, items, ixM, seqs, eqO, neO, eqM, flatW, eqFl, isiM, tyN, Kit.get, absM, sizeLine_eq, xFor, xLoop, xIl, xIt, xSl, xPn, xPs, slM, lenM, truM, intW, sumM, intM, maxM, minM, ordM, listM, isNonW, isNM, notNM, isBM, isnotBM, strW, joinM, xBmS, xIs, allBM, bolW, inM, keyW, dicts, ρC, splitM, gT2, xCallX, xMethX, xRaise, xTry, endX, fgt, xBmL, countM, slTM, isiX, tyX, kitA, clTy, catTM, tupleM, xLstN, countSM, indexSM, xLm, appM, xIr1, xRaiseI, xXf])
def top (i : Nat) : Stmt := PySem.Challenge.pw_passkeep_k26_whole_things_by_turns.main.body.getD i (.Pass ⟨0, 0, 0, 0⟩)
abbrev s_is_number : Stmt := top 13
theorem sc_is_number : FnScope ["thing"] ["thing"] (defScope s_is_number) := ⟨rfl, rfl, rfl, by decide +kernel, rfl, by decide +kernel, by decide +kernel⟩
theorem bd_is_number : BindsAll "is_number" "is_number" s_is_number ["thing"] := fun _ _ _ _ _ _ us hl => match us, hl with | [_], _ => rfl
abbrev s_missing : Stmt := top 14
theorem sc_missing : FnScope ["needed", "had"] ["needed", "had"] (defScope s_missing) := ⟨rfl, rfl, rfl, by decide +kernel, rfl, by decide +kernel, by decide +kernel⟩
theorem bd_missing : BindsAll "missing" "missing" s_missing ["needed", "had"] := fun _ _ _ _ _ _ us hl => match us, hl with | [_, _], _ => rfl
abbrev s_within : Stmt := top 15
theorem sc_within : FnScope ["some", "more"] ["some", "more"] (defScope s_within) := ⟨rfl, rfl, rfl, by decide +kernel, rfl, by decide +kernel, by decide +kernel⟩
theorem bd_within : BindsAll "within" "within" s_within ["some", "more"] := fun _ _ _ _ _ _ us hl => match us, hl with | [_, _], _ => rfl
abbrev s_is_value : Stmt := top 16
theorem sc_is_value : FnScope ["thing"] ["thing"] (defScope s_is_value) := ⟨rfl, rfl, rfl, by decide +kernel, rfl, by decide +kernel, by decide +kernel⟩
theorem bd_is_value : BindsAll "is_value" "is_value" s_is_value ["thing"] := fun _ _ _ _ _ _ us hl => match us, hl with | [_], _ => rfl
abbrev s_put_last : Stmt := top 20
theorem sc_put_last : FnScope ["waiting", "one", "room"] ["waiting", "one", "room"] (defScope s_put_last) := ⟨rfl, rfl, rfl, by decide +kernel, rfl, by decide +kernel, by decide +kernel⟩
theorem bd_put_last : BindsAll "put_last" "put_last" s_put_last ["waiting", "one", "room"] := fun _ _ _ _ _ _ us hl => match us, hl with | [_, _, _], _ => rfl
abbrev s_first_out : Stmt := top 21
theorem sc_first_out : FnScope ["waiting"] ["waiting"] (defScope s_first_out) := ⟨rfl, rfl, rfl, by decide +kernel, rfl, by decide +kernel, by decide +kernel⟩
theorem bd_first_out : BindsAll "first_out" "first_out" s_first_out ["waiting"] := fun _ _ _ _ _ _ us hl => match us, hl with | [_], _ => rfl
abbrev s_l_made : Stmt := top 28
theorem sc_l_made : FnScope ["_law_way"] ["_law_way"] (defScope s_l_made) := ⟨rfl, rfl, rfl, by decide +kernel, rfl, by decide +kernel, by decide +kernel⟩
theorem bd_l_made : BindsAll "_law_made" "_law_made" s_l_made ["_law_way"] := fun _ _ _ _ _ _ us hl => match us, hl with | [_], _ => rfl
abbrev s_l_deed : Stmt := top 29
theorem sc_l_deed : FnScope ["_law_way", "_law_cell"] ["_law_way", "_law_cell"] (defScope s_l_deed) := ⟨rfl, rfl, rfl, by decide +kernel, rfl, by decide +kernel, by decide +kernel⟩
theorem bd_l_deed : BindsAll "_law_deed" "_law_deed" s_l_deed ["_law_way", "_law_cell"] := fun _ _ _ _ _ _ us hl => match us, hl with | [_, _], _ => rfl
abbrev s_l_done : Stmt := top 30
theorem sc_l_done : FnScope ["_law_thing", "_law_deeds", "_law_deed_here", "_law_value"] ["_law_thing", "_law_deeds"] (defScope s_l_done) := ⟨rfl, rfl, rfl, by decide +kernel, rfl, by decide +kernel, by decide +kernel⟩
theorem bd_l_done : BindsAll "_law_done" "_law_done" s_l_done ["_law_thing", "_law_deeds"] := fun _ _ _ _ _ _ us hl => match us, hl with | [_, _], _ => rfl
abbrev s_law : Stmt := top 31
theorem sc_law : FnScope ["_law_script", "_law_things", "_law_deeds", "_law_seen", "_law_cell", "_law_way", "_law_deed_here", "_law_fresh", "_law_one", "_law_k", "_law_at"] ["_law_script"] (defScope s_law) := ⟨rfl, rfl, rfl, by decide +kernel, rfl, by decide +kernel, by decide +kernel⟩
theorem bd_law : BindsAll "law" "law" s_law ["_law_script"] := fun _ _ _ _ _ _ us hl => match us, hl with | [_], _ => rfl
abbrev s_Thing__init : Stmt := inClass (top 22) 0
theorem sc_Thing__init : FnScope ["self", "number"] ["self", "number"] (defScope s_Thing__init) := ⟨rfl, rfl, rfl, by decide +kernel, rfl, by decide +kernel, by decide +kernel⟩
theorem bd_Thing__init : BindsAll "__init__" "Thing.__init__" s_Thing__init ["self", "number"] := fun _ _ _ _ _ _ us hl => match us, hl with | [_, _], _ => rfl
abbrev s_Thing_needs : Stmt := inClass (top 22) 6
theorem sc_Thing_needs : FnScope ["self", "deed", "needed"] ["self", "deed"] (defScope s_Thing_needs) := ⟨rfl, rfl, rfl, by decide +kernel, rfl, by decide +kernel, by decide +kernel⟩
theorem bd_Thing_needs : BindsAll "needs" "Thing.needs" s_Thing_needs ["self", "deed"] := fun _ _ _ _ _ _ us hl => match us, hl with | [_, _], _ => rfl
abbrev s_Thing_did : Stmt := inClass (top 22) 7
theorem sc_Thing_did : FnScope ["self", "deed", "value"] ["self", "deed", "value"] (defScope s_Thing_did) := ⟨rfl, rfl, rfl, by decide +kernel, rfl, by decide +kernel, by decide +kernel⟩
theorem bd_Thing_did : BindsAll "did" "Thing.did" s_Thing_did ["self", "deed", "value"] := fun _ _ _ _ _ _ us hl => match us, hl with | [_, _, _], _ => rfl
abbrev s_Cell__init : Stmt := inClass (top 23) 0
theorem sc_Cell__init : FnScope ["self", "number"] ["self", "number"] (defScope s_Cell__init) := ⟨rfl, rfl, rfl, by decide +kernel, rfl, by decide +kernel, by decide +kernel⟩
theorem bd_Cell__init : BindsAll "__init__" "Cell.__init__" s_Cell__init ["self", "number"] := fun _ _ _ _ _ _ us hl => match us, hl with | [_, _], _ => rfl
abbrev s_Cell_kind : Stmt := inClass (top 23) 1
theorem sc_Cell_kind : FnScope ["self"] ["self"] (defScope s_Cell_kind) := ⟨rfl, rfl, rfl, by decide +kernel, rfl, by decide +kernel, by decide +kernel⟩
theorem bd_Cell_kind : BindsAll "kind" "Cell.kind" s_Cell_kind ["self"] := fun _ _ _ _ _ _ us hl => match us, hl with | [_], _ => rfl
abbrev s_Cell_fits : Stmt := inClass (top 23) 2
theorem sc_Cell_fits : FnScope ["self"] ["self"] (defScope s_Cell_fits) := ⟨rfl, rfl, rfl, by decide +kernel, rfl, by decide +kernel, by decide +kernel⟩
theorem bd_Cell_fits : BindsAll "fits" "Cell.fits" s_Cell_fits ["self"] := fun _ _ _ _ _ _ us hl => match us, hl with | [_], _ => rfl
abbrev s_Cell_told : Stmt := inClass (top 23) 3
theorem sc_Cell_told : FnScope ["self"] ["self"] (defScope s_Cell_told) := ⟨rfl, rfl, rfl, by decide +kernel, rfl, by decide +kernel, by decide +kernel⟩
theorem bd_Cell_told : BindsAll "told" "Cell.told" s_Cell_told ["self"] := fun _ _ _ _ _ _ us hl => match us, hl with | [_], _ => rfl
abbrev s_Cell_own_needs : Stmt := inClass (top 23) 4
theorem sc_Cell_own_needs : FnScope ["self"] ["self"] (defScope s_Cell_own_needs) := ⟨rfl, rfl, rfl, by decide +kernel, rfl, by decide +kernel, by decide +kernel⟩
theorem bd_Cell_own_needs : BindsAll "own_needs" "Cell.own_needs" s_Cell_own_needs ["self"] := fun _ _ _ _ _ _ us hl => match us, hl with | [_], _ => rfl
abbrev s_Cell_own_did : Stmt := inClass (top 23) 5
theorem sc_Cell_own_did : FnScope ["self", "deed", "value", "ahead", "total"] ["self", "deed", "value"] (defScope s_Cell_own_did) := ⟨rfl, rfl, rfl, by decide +kernel, rfl, by decide +kernel, by decide +kernel⟩
theorem bd_Cell_own_did : BindsAll "own_did" "Cell.own_did" s_Cell_own_did ["self", "deed", "value"] := fun _ _ _ _ _ _ us hl => match us, hl with | [_, _, _], _ => rfl
abbrev s_Line__init : Stmt := inClass (top 24) 0
theorem sc_Line__init : FnScope ["self", "number"] ["self", "number"] (defScope s_Line__init) := ⟨rfl, rfl, rfl, by decide +kernel, rfl, by decide +kernel, by decide +kernel⟩
theorem bd_Line__init : BindsAll "__init__" "Line.__init__" s_Line__init ["self", "number"] := fun _ _ _ _ _ _ us hl => match us, hl with | [_, _], _ => rfl
abbrev s_Line_kind : Stmt := inClass (top 24) 1
theorem sc_Line_kind : FnScope ["self"] ["self"] (defScope s_Line_kind) := ⟨rfl, rfl, rfl, by decide +kernel, rfl, by decide +kernel, by decide +kernel⟩
theorem bd_Line_kind : BindsAll "kind" "Line.kind" s_Line_kind ["self"] := fun _ _ _ _ _ _ us hl => match us, hl with | [_], _ => rfl
abbrev s_Line_fits : Stmt := inClass (top 24) 2
theorem sc_Line_fits : FnScope ["self"] ["self"] (defScope s_Line_fits) := ⟨rfl, rfl, rfl, by decide +kernel, rfl, by decide +kernel, by decide +kernel⟩
theorem bd_Line_fits : BindsAll "fits" "Line.fits" s_Line_fits ["self"] := fun _ _ _ _ _ _ us hl => match us, hl with | [_], _ => rfl
abbrev s_Line_told : Stmt := inClass (top 24) 3
theorem sc_Line_told : FnScope ["self"] ["self"] (defScope s_Line_told) := ⟨rfl, rfl, rfl, by decide +kernel, rfl, by decide +kernel, by decide +kernel⟩
theorem bd_Line_told : BindsAll "told" "Line.told" s_Line_told ["self"] := fun _ _ _ _ _ _ us hl => match us, hl with | [_], _ => rfl
abbrev s_Line_own_needs : Stmt := inClass (top 24) 4
theorem sc_Line_own_needs : FnScope ["self"] ["self"] (defScope s_Line_own_needs) := ⟨rfl, rfl, rfl, by decide +kernel, rfl, by decide +kernel, by decide +kernel⟩
theorem bd_Line_own_needs : BindsAll "own_needs" "Line.own_needs" s_Line_own_needs ["self"] := fun _ _ _ _ _ _ us hl => match us, hl with | [_], _ => rfl
abbrev s_Line_own_did : Stmt := inClass (top 24) 5
theorem sc_Line_own_did : FnScope ["self", "deed", "value"] ["self", "deed", "value"] (defScope s_Line_own_did) := ⟨rfl, rfl, rfl, by decide +kernel, rfl, by decide +kernel, by decide +kernel⟩
theorem bd_Line_own_did : BindsAll "own_did" "Line.own_did" s_Line_own_did ["self", "deed", "value"] := fun _ _ _ _ _ _ us hl => match us, hl with | [_, _, _], _ => rfl
abbrev s_Door__init : Stmt := inClass (top 25) 0
theorem sc_Door__init : FnScope ["self", "number"] ["self", "number"] (defScope s_Door__init) := ⟨rfl, rfl, rfl, by decide +kernel, rfl, by decide +kernel, by decide +kernel⟩
theorem bd_Door__init : BindsAll "__init__" "Door.__init__" s_Door__init ["self", "number"] := fun _ _ _ _ _ _ us hl => match us, hl with | [_, _], _ => rfl
abbrev s_Door_kind : Stmt := inClass (top 25) 1
theorem sc_Door_kind : FnScope ["self"] ["self"] (defScope s_Door_kind) := ⟨rfl, rfl, rfl, by decide +kernel, rfl, by decide +kernel, by decide +kernel⟩
theorem bd_Door_kind : BindsAll "kind" "Door.kind" s_Door_kind ["self"] := fun _ _ _ _ _ _ us hl => match us, hl with | [_], _ => rfl
abbrev s_Door_fits : Stmt := inClass (top 25) 2
theorem sc_Door_fits : FnScope ["self"] ["self"] (defScope s_Door_fits) := ⟨rfl, rfl, rfl, by decide +kernel, rfl, by decide +kernel, by decide +kernel⟩
theorem bd_Door_fits : BindsAll "fits" "Door.fits" s_Door_fits ["self"] := fun _ _ _ _ _ _ us hl => match us, hl with | [_], _ => rfl
abbrev s_Door_told : Stmt := inClass (top 25) 3
theorem sc_Door_told : FnScope ["self"] ["self"] (defScope s_Door_told) := ⟨rfl, rfl, rfl, by decide +kernel, rfl, by decide +kernel, by decide +kernel⟩
theorem bd_Door_told : BindsAll "told" "Door.told" s_Door_told ["self"] := fun _ _ _ _ _ _ us hl => match us, hl with | [_], _ => rfl
abbrev s_Door_own_needs : Stmt := inClass (top 25) 5
theorem sc_Door_own_needs : FnScope ["self"] ["self"] (defScope s_Door_own_needs) := ⟨rfl, rfl, rfl, by decide +kernel, rfl, by decide +kernel, by decide +kernel⟩
theorem bd_Door_own_needs : BindsAll "own_needs" "Door.own_needs" s_Door_own_needs ["self"] := fun _ _ _ _ _ _ us hl => match us, hl with | [_], _ => rfl
abbrev s_Door_own_did : Stmt := inClass (top 25) 6
theorem sc_Door_own_did : FnScope ["self", "deed", "value"] ["self", "deed", "value"] (defScope s_Door_own_did) := ⟨rfl, rfl, rfl, by decide +kernel, rfl, by decide +kernel, by decide +kernel⟩
theorem bd_Door_own_did : BindsAll "own_did" "Door.own_did" s_Door_own_did ["self", "deed", "value"] := fun _ _ _ _ _ _ us hl => match us, hl with | [_, _, _], _ => rfl
abbrev s_Post__init : Stmt := inClass (top 26) 0
theorem sc_Post__init : FnScope ["self", "number", "name"] ["self", "number", "name"] (defScope s_Post__init) := ⟨rfl, rfl, rfl, by decide +kernel, rfl, by decide +kernel, by decide +kernel⟩
theorem bd_Post__init : BindsAll "__init__" "Post.__init__" s_Post__init ["self", "number", "name"] := fun _ _ _ _ _ _ us hl => match us, hl with | [_, _, _], _ => rfl
abbrev s_Post_kind : Stmt := inClass (top 26) 1
theorem sc_Post_kind : FnScope ["self"] ["self"] (defScope s_Post_kind) := ⟨rfl, rfl, rfl, by decide +kernel, rfl, by decide +kernel, by decide +kernel⟩
theorem bd_Post_kind : BindsAll "kind" "Post.kind" s_Post_kind ["self"] := fun _ _ _ _ _ _ us hl => match us, hl with | [_], _ => rfl
abbrev s_Post_fits : Stmt := inClass (top 26) 2
theorem sc_Post_fits : FnScope ["self"] ["self"] (defScope s_Post_fits) := ⟨rfl, rfl, rfl, by decide +kernel, rfl, by decide +kernel, by decide +kernel⟩
theorem bd_Post_fits : BindsAll "fits" "Post.fits" s_Post_fits ["self"] := fun _ _ _ _ _ _ us hl => match us, hl with | [_], _ => rfl
abbrev s_Post_told : Stmt := inClass (top 26) 3
theorem sc_Post_told : FnScope ["self"] ["self"] (defScope s_Post_told) := ⟨rfl, rfl, rfl, by decide +kernel, rfl, by decide +kernel, by decide +kernel⟩
theorem bd_Post_told : BindsAll "told" "Post.told" s_Post_told ["self"] := fun _ _ _ _ _ _ us hl => match us, hl with | [_], _ => rfl
abbrev s_Post_own_needs : Stmt := inClass (top 26) 4
theorem sc_Post_own_needs : FnScope ["self"] ["self"] (defScope s_Post_own_needs) := ⟨rfl, rfl, rfl, by decide +kernel, rfl, by decide +kernel, by decide +kernel⟩
theorem bd_Post_own_needs : BindsAll "own_needs" "Post.own_needs" s_Post_own_needs ["self"] := fun _ _ _ _ _ _ us hl => match us, hl with | [_], _ => rfl
abbrev s_Post_own_did : Stmt := inClass (top 26) 5
theorem sc_Post_own_did : FnScope ["self", "deed", "value"] ["self", "deed", "value"] (defScope s_Post_own_did) := ⟨rfl, rfl, rfl, by decide +kernel, rfl, by decide +kernel, by decide +kernel⟩
theorem bd_Post_own_did : BindsAll "own_did" "Post.own_did" s_Post_own_did ["self", "deed", "value"] := fun _ _ _ _ _ _ us hl => match us, hl with | [_, _, _], _ => rfl
structure Cs where
  Cell : Addr
  Line : Addr
  Door : Addr
  Post : Addr
  Thing : Addr
  Empty : Addr
  Full : Addr
  TooGreat : Addr
def T0 (C : Cs) : CTb := ⟨fun c => if c = "Cell" then some C.Cell else if c = "Line" then some C.Line else if c = "Door" then some C.Door else if c = "Post" then some C.Post else if c = "Thing" then some C.Thing else none, fun c => if c = "Empty" then some C.Empty else if c = "Full" then some C.Full else if c = "TooGreat" then some C.TooGreat else none, fun c => none⟩
def kitL : Kit := [((.inl "str", .inl "str"), true), ((.inl "int", .inl "int"), true), ((.inl "int", .inl "bool"), false), ((.inr "Cell", .inr "Thing"), true), ((.inr "Line", .inr "Thing"), true), ((.inr "Door", .inr "Thing"), true), ((.inr "Post", .inr "Thing"), true)]
theorem kg_0 : Kit.get kitL (.inl "str") (.inl "str") = some true := by decide +kernel
theorem kg_1 : Kit.get kitL (.inl "int") (.inl "int") = some true := by decide +kernel
theorem kg_2 : Kit.get kitL (.inl "int") (.inl "bool") = some false := by decide +kernel
theorem kg_3 : Kit.get kitL (.inr (Str.ofString "Cell")) (.inr (Str.ofString "Thing")) = some true := by decide +kernel
theorem kg_4 : Kit.get kitL (.inr (Str.ofString "Line")) (.inr (Str.ofString "Thing")) = some true := by decide +kernel
theorem kg_5 : Kit.get kitL (.inr (Str.ofString "Door")) (.inr (Str.ofString "Thing")) = some true := by decide +kernel
theorem kg_6 : Kit.get kitL (.inr (Str.ofString "Post")) (.inr (Str.ofString "Thing")) = some true := by decide +kernel
def subP (c : Str) : Bool := decide (c = "Empty") || decide (c = "Full") || decide (c = "TooGreat")
theorem subP_Empty : subP (Str.ofString "Empty") = true := by decide +kernel
theorem subP_Full : subP (Str.ofString "Full") = true := by decide +kernel
theorem subP_TooGreat : subP (Str.ofString "TooGreat") = true := by decide +kernel
structure Tx (K : PySem.W.Frag) (mg : Str → Option Value) (C : Cs) : Prop where
  b_isinstance : mg "isinstance" = none
  b_str : mg "str" = none
  b_int : mg "int" = none
  b_bool : mg "bool" = none
  b_len : mg "len" = none
  b_range : mg "range" = none
  b_abs : mg "abs" = none
  b_tuple : mg "tuple" = none
  c_LOOK : GC mg "LOOK" (.int 1)
  c_PUT : GC mg "PUT" (.int 2)
  c_SEND : GC mg "SEND" (.int 4)
  c_HEAR : GC mg "HEAR" (.int 8)
  c_END : GC mg "END" (.int 16)
  c_LINE_ROOM : GC mg "LINE_ROOM" (.int 9)
  c_DOOR_ROOM : GC mg "DOOR_ROOM" (.int 8)
  ins : InsOk K (T0 C)
  exo : ExcOk K (T0 C)
  kit : KitOk K (T0 C) kitL
  f_number : FldOk K (T0 C) "number"
  f_amount : FldOk K (T0 C) "amount"
  f_numbers : FldOk K (T0 C) "numbers"
  f_waiting : FldOk K (T0 C) "waiting"
  f_name : FldOk K (T0 C) "name"
  f_runs : FldOk K (T0 C) "runs"
  rz_Empty : RzAt K mg (T0 C) "Empty"
  rz_Full : RzAt K mg (T0 C) "Full"
  rz_TooGreat : RzAt K mg (T0 C) "TooGreat"
  cat_PassError : CatAt K mg (T0 C) "PassError" subP
  g_Thing : GC mg "Thing" (.ref C.Thing)
  t_Thing : (T0 C).any "Thing" = some C.Thing
def cellO (a v : Int) : O := .ins "Cell" [("number", .int a), ("amount", .int v)]
def lineO (a : Int) (m : Nat) : O := .ins "Line" [("number", .int a), ("numbers", .ref m)]
def doorO (a : Int) (m : Nat) : O := .ins "Door" [("number", .int a), ("waiting", .ref m)]
def postO (a : Int) (z : Str) (r : Bool) : O := .ins "Post" [("number", .int a), ("name", .str z), ("runs", .bl r)]
def tab4 (F1 F2 F3 F4 : Fm) : Tab := fun c => if c = "Cell" then some F1 else if c = "Line" then some F2 else if c = "Door" then some F3 else if c = "Post" then some F4 else none
theorem t4_0 {F1 F2 F3 F4 : Fm} : tab4 F1 F2 F3 F4 (Str.ofString "Cell") = some F1 := rfl
theorem t4_1 {F1 F2 F3 F4 : Fm} : tab4 F1 F2 F3 F4 (Str.ofString "Line") = some F2 := rfl
theorem t4_2 {F1 F2 F3 F4 : Fm} : tab4 F1 F2 F3 F4 (Str.ofString "Door") = some F3 := rfl
theorem t4_3 {F1 F2 F3 F4 : Fm} : tab4 F1 F2 F3 F4 (Str.ofString "Post") = some F4 := rfl
theorem tab4_at {P : Program} {w : World} {K : PySem.W.Frag} {mg : Str → Option Value} {base : Heap} {C : Cs} {k : Nat} {m : Str} {F1 F2 F3 F4 : Fm} (h1 : MtAt P w K mg base (T0 C) k "Cell" m F1) (h2 : MtAt P w K mg base (T0 C) k "Line" m F2) (h3 : MtAt P w K mg base (T0 C) k "Door" m F3) (h4 : MtAt P w K mg base (T0 C) k "Post" m F4) : TabAt P w K mg base (T0 C) k m (tab4 F1 F2 F3 F4) := fun c G e => by
  unfold tab4 at e
  split at e
  · rename_i hc; subst hc; cases e; exact h1
  · split at e
    · rename_i hc; subst hc; cases e; exact h2
    · split at e
      · rename_i hc; subst hc; cases e; exact h3
      · split at e
        · rename_i hc; subst hc; cases e; exact h4
        · cases e
theorem tab4_x {P : Program} {w : World} {K : PySem.W.Frag} {mg : Str → Option Value} {base : Heap} {C : Cs} {k : Nat} {m : Str} {F1 F2 F3 F4 : Fm} {q : Bool} (h1 : MtX P w K mg base (T0 C) q k "Cell" m F1) (h2 : MtX P w K mg base (T0 C) q k "Line" m F2) (h3 : MtX P w K mg base (T0 C) q k "Door" m F3) (h4 : MtX P w K mg base (T0 C) q k "Post" m F4) : TabX P w K mg base (T0 C) q k m (tab4 F1 F2 F3 F4) := fun c G e => by
  unfold tab4 at e
  split at e
  · rename_i hc; subst hc; cases e; exact h1
  · split at e
    · rename_i hc; subst hc; cases e; exact h2
    · split at e
      · rename_i hc; subst hc; cases e; exact h3
      · split at e
        · rename_i hc; subst hc; cases e; exact h4
        · cases e
theorem n_number_amount : (Str.ofString "number" == Str.ofString "amount") = false := by decide +kernel
theorem n_amount_number : (Str.ofString "amount" == Str.ofString "number") = false := by decide +kernel
theorem n_number_numbers : (Str.ofString "number" == Str.ofString "numbers") = false := by decide +kernel
theorem n_numbers_number : (Str.ofString "numbers" == Str.ofString "number") = false := by decide +kernel
theorem n_number_waiting : (Str.ofString "number" == Str.ofString "waiting") = false := by decide +kernel
theorem n_waiting_number : (Str.ofString "waiting" == Str.ofString "number") = false := by decide +kernel
theorem n_number_name : (Str.ofString "number" == Str.ofString "name") = false := by decide +kernel
theorem n_number_runs : (Str.ofString "number" == Str.ofString "runs") = false := by decide +kernel
theorem n_name_number : (Str.ofString "name" == Str.ofString "number") = false := by decide +kernel
theorem n_name_runs : (Str.ofString "name" == Str.ofString "runs") = false := by decide +kernel
theorem n_runs_number : (Str.ofString "runs" == Str.ofString "number") = false := by decide +kernel
theorem n_runs_name : (Str.ofString "runs" == Str.ofString "name") = false := by decide +kernel
theorem lk_cell_number {a b : W} : List.lookup (Str.ofString "number") [(Str.ofString "number", a), (Str.ofString "amount", b)] = some a := rfl
theorem lk_cell_amount {a b : W} : List.lookup (Str.ofString "amount") [(Str.ofString "number", a), (Str.ofString "amount", b)] = some b := rfl
theorem no_cell_kind {a b : W} : List.lookup (Str.ofString "kind") [(Str.ofString "number", a), (Str.ofString "amount", b)] = none := rfl
theorem no_cell_fits {a b : W} : List.lookup (Str.ofString "fits") [(Str.ofString "number", a), (Str.ofString "amount", b)] = none := rfl
theorem no_cell_told {a b : W} : List.lookup (Str.ofString "told") [(Str.ofString "number", a), (Str.ofString "amount", b)] = none := rfl
theorem no_cell_own_needs {a b : W} : List.lookup (Str.ofString "own_needs") [(Str.ofString "number", a), (Str.ofString "amount", b)] = none := rfl
theorem no_cell_own_did {a b : W} : List.lookup (Str.ofString "own_did") [(Str.ofString "number", a), (Str.ofString "amount", b)] = none := rfl
theorem no_cell_needs {a b : W} : List.lookup (Str.ofString "needs") [(Str.ofString "number", a), (Str.ofString "amount", b)] = none := rfl
theorem no_cell_did {a b : W} : List.lookup (Str.ofString "did") [(Str.ofString "number", a), (Str.ofString "amount", b)] = none := rfl
theorem lk_line_number {a b : W} : List.lookup (Str.ofString "number") [(Str.ofString "number", a), (Str.ofString "numbers", b)] = some a := rfl
theorem lk_line_numbers {a b : W} : List.lookup (Str.ofString "numbers") [(Str.ofString "number", a), (Str.ofString "numbers", b)] = some b := rfl
theorem no_line_kind {a b : W} : List.lookup (Str.ofString "kind") [(Str.ofString "number", a), (Str.ofString "numbers", b)] = none := rfl
theorem no_line_fits {a b : W} : List.lookup (Str.ofString "fits") [(Str.ofString "number", a), (Str.ofString "numbers", b)] = none := rfl
theorem no_line_told {a b : W} : List.lookup (Str.ofString "told") [(Str.ofString "number", a), (Str.ofString "numbers", b)] = none := rfl
theorem no_line_own_needs {a b : W} : List.lookup (Str.ofString "own_needs") [(Str.ofString "number", a), (Str.ofString "numbers", b)] = none := rfl
theorem no_line_own_did {a b : W} : List.lookup (Str.ofString "own_did") [(Str.ofString "number", a), (Str.ofString "numbers", b)] = none := rfl
theorem no_line_needs {a b : W} : List.lookup (Str.ofString "needs") [(Str.ofString "number", a), (Str.ofString "numbers", b)] = none := rfl
theorem no_line_did {a b : W} : List.lookup (Str.ofString "did") [(Str.ofString "number", a), (Str.ofString "numbers", b)] = none := rfl
theorem lk_door_number {a b : W} : List.lookup (Str.ofString "number") [(Str.ofString "number", a), (Str.ofString "waiting", b)] = some a := rfl
theorem lk_door_waiting {a b : W} : List.lookup (Str.ofString "waiting") [(Str.ofString "number", a), (Str.ofString "waiting", b)] = some b := rfl
theorem no_door_kind {a b : W} : List.lookup (Str.ofString "kind") [(Str.ofString "number", a), (Str.ofString "waiting", b)] = none := rfl
theorem no_door_fits {a b : W} : List.lookup (Str.ofString "fits") [(Str.ofString "number", a), (Str.ofString "waiting", b)] = none := rfl
theorem no_door_told {a b : W} : List.lookup (Str.ofString "told") [(Str.ofString "number", a), (Str.ofString "waiting", b)] = none := rfl
theorem no_door_own_needs {a b : W} : List.lookup (Str.ofString "own_needs") [(Str.ofString "number", a), (Str.ofString "waiting", b)] = none := rfl
theorem no_door_own_did {a b : W} : List.lookup (Str.ofString "own_did") [(Str.ofString "number", a), (Str.ofString "waiting", b)] = none := rfl
theorem no_door_needs {a b : W} : List.lookup (Str.ofString "needs") [(Str.ofString "number", a), (Str.ofString "waiting", b)] = none := rfl
theorem no_door_did {a b : W} : List.lookup (Str.ofString "did") [(Str.ofString "number", a), (Str.ofString "waiting", b)] = none := rfl
theorem lk_post_number {a b d : W} : List.lookup (Str.ofString "number") [(Str.ofString "number", a), (Str.ofString "name", b), (Str.ofString "runs", d)] = some a := rfl
theorem lk_post_name {a b d : W} : List.lookup (Str.ofString "name") [(Str.ofString "number", a), (Str.ofString "name", b), (Str.ofString "runs", d)] = some b := rfl
theorem lk_post_runs {a b d : W} : List.lookup (Str.ofString "runs") [(Str.ofString "number", a), (Str.ofString "name", b), (Str.ofString "runs", d)] = some d := rfl
theorem no_post_kind {a b d : W} : List.lookup (Str.ofString "kind") [(Str.ofString "number", a), (Str.ofString "name", b), (Str.ofString "runs", d)] = none := rfl
theorem no_post_fits {a b d : W} : List.lookup (Str.ofString "fits") [(Str.ofString "number", a), (Str.ofString "name", b), (Str.ofString "runs", d)] = none := rfl
theorem no_post_told {a b d : W} : List.lookup (Str.ofString "told") [(Str.ofString "number", a), (Str.ofString "name", b), (Str.ofString "runs", d)] = none := rfl
theorem no_post_own_needs {a b d : W} : List.lookup (Str.ofString "own_needs") [(Str.ofString "number", a), (Str.ofString "name", b), (Str.ofString "runs", d)] = none := rfl
theorem no_post_own_did {a b d : W} : List.lookup (Str.ofString "own_did") [(Str.ofString "number", a), (Str.ofString "name", b), (Str.ofString "runs", d)] = none := rfl
theorem no_post_needs {a b d : W} : List.lookup (Str.ofString "needs") [(Str.ofString "number", a), (Str.ofString "name", b), (Str.ofString "runs", d)] = none := rfl
theorem no_post_did {a b d : W} : List.lookup (Str.ofString "did") [(Str.ofString "number", a), (Str.ofString "name", b), (Str.ofString "runs", d)] = none := rfl
theorem ne_kind_read : (Str.ofString "kind" = Str.ofString "read") = False := by simp; decide +kernel
theorem ne_kind_write : (Str.ofString "kind" = Str.ofString "write") = False := by simp; decide +kernel
theorem ne_kind_add : (Str.ofString "kind" = Str.ofString "add") = False := by simp; decide +kernel
theorem ne_read_kind : (Str.ofString "read" = Str.ofString "kind") = False := by simp; decide +kernel
theorem ne_read_write : (Str.ofString "read" = Str.ofString "write") = False := by simp; decide +kernel
theorem ne_read_add : (Str.ofString "read" = Str.ofString "add") = False := by simp; decide +kernel
theorem ne_write_kind : (Str.ofString "write" = Str.ofString "kind") = False := by simp; decide +kernel
theorem ne_write_read : (Str.ofString "write" = Str.ofString "read") = False := by simp; decide +kernel
theorem ne_write_add : (Str.ofString "write" = Str.ofString "add") = False := by simp; decide +kernel
theorem ne_add_kind : (Str.ofString "add" = Str.ofString "kind") = False := by simp; decide +kernel
theorem ne_add_read : (Str.ofString "add" = Str.ofString "read") = False := by simp; decide +kernel
theorem ne_add_write : (Str.ofString "add" = Str.ofString "write") = False := by simp; decide +kernel
theorem ne_kind_push : (Str.ofString "kind" = Str.ofString "push") = False := by simp; decide +kernel
theorem ne_kind_pull : (Str.ofString "kind" = Str.ofString "pull") = False := by simp; decide +kernel
theorem ne_kind_count : (Str.ofString "kind" = Str.ofString "count") = False := by simp; decide +kernel
theorem ne_push_kind : (Str.ofString "push" = Str.ofString "kind") = False := by simp; decide +kernel
theorem ne_push_pull : (Str.ofString "push" = Str.ofString "pull") = False := by simp; decide +kernel
theorem ne_push_count : (Str.ofString "push" = Str.ofString "count") = False := by simp; decide +kernel
theorem ne_pull_kind : (Str.ofString "pull" = Str.ofString "kind") = False := by simp; decide +kernel
theorem ne_pull_push : (Str.ofString "pull" = Str.ofString "push") = False := by simp; decide +kernel
theorem ne_pull_count : (Str.ofString "pull" = Str.ofString "count") = False := by simp; decide +kernel
theorem ne_count_kind : (Str.ofString "count" = Str.ofString "kind") = False := by simp; decide +kernel
theorem ne_count_push : (Str.ofString "count" = Str.ofString "push") = False := by simp; decide +kernel
theorem ne_count_pull : (Str.ofString "count" = Str.ofString "pull") = False := by simp; decide +kernel
theorem ne_kind_send : (Str.ofString "kind" = Str.ofString "send") = False := by simp; decide +kernel
theorem ne_kind_hear : (Str.ofString "kind" = Str.ofString "hear") = False := by simp; decide +kernel
theorem ne_count_send : (Str.ofString "count" = Str.ofString "send") = False := by simp; decide +kernel
theorem ne_count_hear : (Str.ofString "count" = Str.ofString "hear") = False := by simp; decide +kernel
theorem ne_send_kind : (Str.ofString "send" = Str.ofString "kind") = False := by simp; decide +kernel
theorem ne_send_count : (Str.ofString "send" = Str.ofString "count") = False := by simp; decide +kernel
theorem ne_send_hear : (Str.ofString "send" = Str.ofString "hear") = False := by simp; decide +kernel
theorem ne_hear_kind : (Str.ofString "hear" = Str.ofString "kind") = False := by simp; decide +kernel
theorem ne_hear_count : (Str.ofString "hear" = Str.ofString "count") = False := by simp; decide +kernel
theorem ne_hear_send : (Str.ofString "hear" = Str.ofString "send") = False := by simp; decide +kernel
theorem ne_kind_state : (Str.ofString "kind" = Str.ofString "state") = False := by simp; decide +kernel
theorem ne_kind_end : (Str.ofString "kind" = Str.ofString "end") = False := by simp; decide +kernel
theorem ne_state_kind : (Str.ofString "state" = Str.ofString "kind") = False := by simp; decide +kernel
theorem ne_state_end : (Str.ofString "state" = Str.ofString "end") = False := by simp; decide +kernel
theorem ne_end_kind : (Str.ofString "end" = Str.ofString "kind") = False := by simp; decide +kernel
theorem ne_end_state : (Str.ofString "end" = Str.ofString "state") = False := by simp; decide +kernel
def dic0 : List (Key × W) := [(.inr "read", .int 1), (.inr "write", .int 2), (.inr "add", .int 3)]
theorem nd_dic0 : ndK [.inr (Str.ofString "read"), .inr (Str.ofString "write"), .inr (Str.ofString "add")] = true := by decide +kernel
theorem gk0_0 : getK dic0 (.inr (Str.ofString "read")) = some (.int 1) := rfl
theorem gk0_1 : getK dic0 (.inr (Str.ofString "write")) = some (.int 2) := rfl
theorem gk0_2 : getK dic0 (.inr (Str.ofString "add")) = some (.int 3) := rfl
def dic1 : List (Key × W) := [(.inr "push", .int 2), (.inr "pull", .int 3), (.inr "count", .int 1)]
theorem nd_dic1 : ndK [.inr (Str.ofString "push"), .inr (Str.ofString "pull"), .inr (Str.ofString "count")] = true := by decide +kernel
theorem gk1_0 : getK dic1 (.inr (Str.ofString "push")) = some (.int 2) := rfl
theorem gk1_1 : getK dic1 (.inr (Str.ofString "pull")) = some (.int 3) := rfl
theorem gk1_2 : getK dic1 (.inr (Str.ofString "count")) = some (.int 1) := rfl
def dic2 : List (Key × W) := [(.inr "count", .int 1), (.inr "send", .int 4), (.inr "hear", .int 8)]
theorem nd_dic2 : ndK [.inr (Str.ofString "count"), .inr (Str.ofString "send"), .inr (Str.ofString "hear")] = true := by decide +kernel
theorem gk2_0 : getK dic2 (.inr (Str.ofString "count")) = some (.int 1) := rfl
theorem gk2_1 : getK dic2 (.inr (Str.ofString "send")) = some (.int 4) := rfl
theorem gk2_2 : getK dic2 (.inr (Str.ofString "hear")) = some (.int 8) := rfl
def dic3 : List (Key × W) := [(.inr "state", .int 1), (.inr "end", .int 16)]
theorem nd_dic3 : ndK [.inr (Str.ofString "state"), .inr (Str.ofString "end")] = true := by decide +kernel
theorem gk3_0 : getK dic3 (.inr (Str.ofString "state")) = some (.int 1) := rfl
theorem gk3_1 : getK dic3 (.inr (Str.ofString "end")) = some (.int 16) := rfl
theorem bor12 : Builtin.bitOr 1 2 = 3 := by decide +kernel
theorem bor14 : Builtin.bitOr 1 4 = 5 := by decide +kernel
theorem bor58 : Builtin.bitOr 5 8 = 13 := by decide +kernel
theorem bor116 : Builtin.bitOr 1 16 = 17 := by decide +kernel
abbrev ab (i : Int) : Int := if i < 0 then -i else i
/-- what a thing holds -/
inductive TS where
  | cell (v : Int) | line (xs : List Int) | door (xs : List Int) | post (z : Str) (r : Bool)
def TS.cls : TS → Nat
  | .cell _ => 0 | .line _ => 1 | .door _ => 2 | .post _ _ => 3
def TS.wf : TS → Prop
  | .line xs => xs.length ≤ 9
  | .door xs => xs.length ≤ 8
  | _ => True
def dl (i : Nat) : List Str := match i with
  | 0 => ["kind", "read", "write", "add"]
  | 1 => ["kind", "push", "pull", "count"]
  | 2 => ["kind", "count", "send", "hear"]
  | _ => ["kind", "state", "end"]
def step (s : TS) (d : Str) (x : Int) : TS := match s with
  | .cell v => if d = Str.ofString "write" then .cell x else if d = Str.ofString "add" ∧ ab (v + x) ≤ 1000000000000 then .cell (v + x) else .cell v
  | .line xs => if d = Str.ofString "push" ∧ xs.length < 9 then .line (xs ++ [x]) else if d = Str.ofString "pull" then .line xs.tail else .line xs
  | .door xs => if d = Str.ofString "send" ∧ xs.length < 8 then .door (xs ++ [x]) else if d = Str.ofString "hear" then .door xs.tail else .door xs
  | .post z r => if d = Str.ofString "end" then .post z false else .post z r
theorem st_cell {v x : Int} {d : Str} : step (.cell v) d x = if d = Str.ofString "write" then .cell x else if d = Str.ofString "add" ∧ ab (v + x) ≤ 1000000000000 then .cell (v + x) else .cell v := rfl
theorem st_line {xs : List Int} {x : Int} {d : Str} : step (.line xs) d x = if d = Str.ofString "push" ∧ xs.length < 9 then .line (xs ++ [x]) else if d = Str.ofString "pull" then .line xs.tail else .line xs := rfl
theorem st_door {xs : List Int} {x : Int} {d : Str} : step (.door xs) d x = if d = Str.ofString "send" ∧ xs.length < 8 then .door (xs ++ [x]) else if d = Str.ofString "hear" then .door xs.tail else .door xs := rfl
theorem st_post {z : Str} {r : Bool} {x : Int} {d : Str} : step (.post z r) d x = if d = Str.ofString "end" then .post z false else .post z r := rfl
theorem step_both (s : TS) (d : Str) (x : Int) : (step s d x).cls = s.cls ∧ (s.wf → (step s d x).wf) := by
  cases s with
  | cell v =>
    rw [st_cell]
    by_cases h1 : d = Str.ofString "write"
    · rw [if_pos h1]; exact ⟨rfl, fun _ => trivial⟩
    rw [if_neg h1]
    by_cases h2 : d = Str.ofString "add" ∧ ab (v + x) ≤ 1000000000000
    · rw [if_pos h2]; exact ⟨rfl, fun _ => trivial⟩
    rw [if_neg h2]; exact ⟨rfl, fun _ => trivial⟩
  | post z r =>
    rw [st_post]
    by_cases h1 : d = Str.ofString "end"
    · rw [if_pos h1]; exact ⟨rfl, fun _ => trivial⟩
    rw [if_neg h1]; exact ⟨rfl, fun _ => trivial⟩
  | line xs =>
    rw [st_line]
    by_cases h1 : d = Str.ofString "push" ∧ xs.length < 9
    · rw [if_pos h1]; exact ⟨rfl, fun _ => by show (xs ++ [x]).length ≤ 9; simp; omega⟩
    rw [if_neg h1]
    by_cases h2 : d = Str.ofString "pull"
    · rw [if_pos h2]; exact ⟨rfl, fun h => by have h : xs.length ≤ 9 := h; show xs.tail.length ≤ 9; simp; omega⟩
    rw [if_neg h2]; exact ⟨rfl, id⟩
  | door xs =>
    rw [st_door]
    by_cases h1 : d = Str.ofString "send" ∧ xs.length < 8
    · rw [if_pos h1]; exact ⟨rfl, fun _ => by show (xs ++ [x]).length ≤ 8; simp; omega⟩
    rw [if_neg h1]
    by_cases h2 : d = Str.ofString "hear"
    · rw [if_pos h2]; exact ⟨rfl, fun h => by have h : xs.length ≤ 8 := h; show xs.tail.length ≤ 8; simp; omega⟩
    rw [if_neg h2]; exact ⟨rfl, id⟩
theorem step_cls (s : TS) (d : Str) (x : Int) : (step s d x).cls = s.cls := (step_both s d x).1
theorem step_wf {s : TS} {d : Str} {x : Int} (h : s.wf) : (step s d x).wf := (step_both s d x).2 h
def fold (s : TS) (l : List (Str × Int)) : TS := l.foldl (fun s y => step s y.1 y.2) s
theorem fold_cls : ∀ (l : List (Str × Int)) (s : TS), (fold s l).cls = s.cls
  | [], _ => rfl
  | y :: l, s => (fold_cls l (step s y.1 y.2)).trans (step_cls s _ _)
theorem fold_wf : ∀ (l : List (Str × Int)) {s : TS}, s.wf → (fold s l).wf
  | [], _, h => h
  | y :: l, s, h => fold_wf l (step_wf h)
theorem fold_snoc (s : TS) (l : List (Str × Int)) (y : Str × Int) : fold s (l ++ [y]) = step (fold s l) y.1 y.2 := by simp [fold]
def tv : TS → W
  | .cell v => .tup [.str "cell", .int v]
  | .line xs => .tup (.str "line" :: xs.map W.int)
  | .door xs => .tup [.str "door", .int xs.length]
  | .post z r => .tup [.str "post", .str z, .bl r]
def At (h : Mem) (p q : Nat) (a : Int) : TS → Prop
  | .cell v => h[p]? = some (cellO a v)
  | .line xs => h[p]? = some (lineO a q) ∧ h[q]? = some (.lst (xs.map W.int)) ∧ p ≠ q
  | .door xs => h[p]? = some (doorO a q) ∧ h[q]? = some (.lst (xs.map W.int)) ∧ p ≠ q
  | .post z r => h[p]? = some (postO a z r)
def put (h : Mem) (p q : Nat) (a : Int) : TS → Mem
  | .cell v => h.set p (cellO a v)
  | .line xs => h.set q (.lst (xs.map W.int))
  | .door xs => h.set q (.lst (xs.map W.int))
  | .post z r => h.set p (postO a z r)
theorem put_len {h : Mem} {p q : Nat} {a : Int} {s : TS} : (put h p q a s).length = h.length := by cases s <;> simp [put]
theorem set_same {h : Mem} {n : Nat} {o : O} (e : h[n]? = some o) : h.set n o = h := by
  obtain ⟨hl, q⟩ := List.getElem?_eq_some_iff.mp e
  rw [← q]; exact List.set_getElem_self hl
theorem put_same {h : Mem} {p q : Nat} {a : Int} {s : TS} (A : At h p q a s) : put h p q a s = h := by
  cases s with
  | cell v => exact set_same A
  | line xs => exact set_same A.2.1
  | door xs => exact set_same A.2.1
  | post z r => exact set_same A
theorem put_get {h g : Mem} {p q i : Nat} {a : Int} {s : TS} (hi : i < h.length) (hp : i ≠ p) (hq : i ≠ q) : (put h p q a s ++ g)[i]? = h[i]? := by
  rw [List.getElem?_append_left (by rw [put_len]; exact hi)]
  cases s <;> (unfold put; rw [List.getElem?_set_ne (by omega)])
theorem kept {h g : Mem} {n : Nat} {x : O} (e : h[n]? = some x) : (h ++ g)[n]? = some x := by rw [List.getElem?_append_left (List.getElem?_eq_some_iff.mp e).1]; exact e
theorem At.app {h : Mem} {p q : Nat} {a : Int} {s : TS} (A : At h p q a s) (g : Mem) : At (h ++ g) p q a s := by
  cases s with
  | cell v => exact kept A
  | line xs => exact ⟨kept A.1, kept A.2.1, A.2.2⟩
  | door xs => exact ⟨kept A.1, kept A.2.1, A.2.2⟩
  | post z r => exact kept A
theorem At.lt {h : Mem} {p q : Nat} {a : Int} {s : TS} (A : At h p q a s) : p < h.length := by
  cases s with
  | cell v => exact (List.getElem?_eq_some_iff.mp A).1
  | line xs => exact (List.getElem?_eq_some_iff.mp A.1).1
  | door xs => exact (List.getElem?_eq_some_iff.mp A.1).1
  | post z r => exact (List.getElem?_eq_some_iff.mp A).1
/-- other places stay -/
theorem At.frame {h h' : Mem} {p q : Nat} {a : Int} {s : TS} (A : At h p q a s) (ep : h'[p]? = h[p]?) (eq : h'[q]? = h[q]?) : At h' p q a s := by
  cases s with
  | cell v => exact ep.trans A
  | line xs => exact ⟨ep.trans A.1, eq.trans A.2.1, A.2.2⟩
  | door xs => exact ⟨ep.trans A.1, eq.trans A.2.1, A.2.2⟩
  | post z r => exact ep.trans A
theorem At.put {h : Mem} {p q : Nat} {a : Int} {s : TS} (A : At h p q a s) {s' : TS} (hc : s'.cls = s.cls) (g : Mem) : At (put h p q a s' ++ g) p q a s' := by
  have hp := A.lt
  cases s with
  | cell v => cases s' <;> first | (cases hc; done) | (show (h.set p _ ++ g)[p]? = _; exact kept (by rw [List.getElem?_set_self hp]))
  | post z r => cases s' <;> first | (cases hc; done) | (show (h.set p _ ++ g)[p]? = _; exact kept (by rw [List.getElem?_set_self hp]))
  | line xs =>
    obtain ⟨e1, e2, ne⟩ := A
    have hq := (List.getElem?_eq_some_iff.mp e2).1
    cases s' <;> first | (cases hc; done) | exact ⟨kept (by show (h.set q _)[p]? = _; rw [List.getElem?_set_ne (by omega)]; exact e1), kept (by show (h.set q _)[q]? = _; rw [List.getElem?_set_self hq]), ne⟩
  | door xs =>
    obtain ⟨e1, e2, ne⟩ := A
    have hq := (List.getElem?_eq_some_iff.mp e2).1
    cases s' <;> first | (cases hc; done) | exact ⟨kept (by show (h.set q _)[p]? = _; rw [List.getElem?_set_ne (by omega)]; exact e1), kept (by show (h.set q _)[q]? = _; rw [List.getElem?_set_self hq]), ne⟩
theorem At.put_put {h g : Mem} {p q : Nat} {a : Int} {s s1 s2 : TS} (A : At h p q a s) (h1 : s1.cls = s.cls) (h2 : s2.cls = s.cls) : K26.put (K26.put h p q a s1 ++ g) p q a s2 = K26.put h p q a s2 ++ g := by
  have hp := A.lt
  cases s with
  | cell v => cases s1 <;> cases s2 <;> first | (cases h1; done) | (cases h2; done) | (show ((h.set p _) ++ g).set p _ = h.set p _ ++ g; rw [List.set_append_left _ _ (by simpa using hp), List.set_set])
  | post z r => cases s1 <;> cases s2 <;> first | (cases h1; done) | (cases h2; done) | (show ((h.set p _) ++ g).set p _ = h.set p _ ++ g; rw [List.set_append_left _ _ (by simpa using hp), List.set_set])
  | line xs =>
    have hq := (List.getElem?_eq_some_iff.mp A.2.1).1
    cases s1 <;> cases s2 <;> first | (cases h1; done) | (cases h2; done) | (show ((h.set q _) ++ g).set q _ = h.set q _ ++ g; rw [List.set_append_left _ _ (by simpa using hq), List.set_set])
  | door xs =>
    have hq := (List.getElem?_eq_some_iff.mp A.2.1).1
    cases s1 <;> cases s2 <;> first | (cases h1; done) | (cases h2; done) | (show ((h.set q _) ++ g).set q _ = h.set q _ ++ g; rw [List.set_append_left _ _ (by simpa using hq), List.set_set])
section
variable {P : Program} {w : World} {K : PySem.W.Frag} {mg : Str → Option Value} {base : Heap} {C : Cs}
theorem xFor_loop {fi : Ei} {G : Tg} {B : Sm} {ρ : Sg} {h h' : Mem} {ws : List W} (e : fi ρ h = .ok none ws h') : xFor fi G B ρ h = xLoop G B ws ρ h' := by unfold xFor; rw [e]
theorem xForS_loop {fi : Ei} {G : Tg} {B : Sm} {ρ : Sg} {h h' : Mem} {n : Nat} {ws : List W} (e : fi ρ h = .ok (some n) ws h') : xForS fi G B ρ h = xLoopS G B n ws ws ρ h' := by unfold xForS; rw [e]
theorem xForS_none {fi : Ei} {G : Tg} {B : Sm} {ρ : Sg} {h h' : Mem} {ws : List W} (e : fi ρ h = .ok none ws h') : xForS fi G B ρ h = xLoop G B ws ρ h' := by unfold xForS; rw [e]
theorem xSeq_nx {F G : Sm} {ρ ρ' : Sg} {h h' : Mem} (e : F ρ h = .nx ρ' h') : xSeq F G ρ h = G ρ' h' := by unfold xSeq; rw [e]
def S_ti (F : Fm) : Prop := ∀ h n a c, h[n]? = some (.ins c []) → F [.ref n, .int a] h = .ok .non (h.set n (.ins c [("number", .int a)]))
theorem ok_ti (T : Tx K mg C) {f : Addr} {fd : FuncData} (R : Fun K "__init__" "Thing.__init__" s_Thing__init f fd) : ∃ F, FnOk P w K mg base CX0 1 f fd ["self", "number"] (spH (T0 C) F) ∧ S_ti F := by
  refine ⟨_, (funM R sc_Thing__init (hB := fun cdv A outer s H E φ0 H0 hr => (qb_one (qs_fld (q_var 0) (q_var 1) T.f_number)))) selfF_ex selfF_told, ?_⟩
  intro h n a c e
  refine selfF_ok rfl ?_ (by simp)
  simp [e, xSetF, putW, runB, startW, Out.res, xSeq, xIfS, xRet, xRetN, xDrop, xAsg, gN, xNext, xVar, xC, xNil, xCons, xBin, xUn, xCb, xBm, xAnd, xOr, xNot, xIf, xChain, xTup, xLst, xCall0, xNo, Res.bind, Res.of, iop, iopC, subM, divM, modM, mulM, powM, bandM, borM, ltM, gtM, geM, leM, negM, invM, addM, items, ixM, seqs, eqO, neO, eqM, flatW, eqFl, isiM, tyN, Kit.get, absM, sizeLine_eq, xFor, xLoop, xIl, xIt, xSl, xPn, xPs, slM, lenM, truM, intW, sumM, intM, maxM, minM, ordM, listM, isNonW, isNM, notNM, isBM, isnotBM, strW, joinM, xBmS, xIs, allBM, bolW, inM, keyW, dicts, ρC, splitM, gT2, xCallX, xMethX, xRaise, xTry, endX, fgt, xBmL, countM, slTM, isiX, tyX, kitA, clTy, catTM, tupleM, xLstN, countSM, indexSM, xLm, appM, xIr1, xRaiseI, xXf]
def S_i0 (F : Fm) : Prop := ∀ h n a, h[n]? = some (.ins "Cell" []) → F [.ref n, .int a] h = .ok .non (h.set n (cellO a 0))
theorem ok_i0 (T : Tx K mg C) {Ft : Fm} (hFt : S_ti Ft) (C_Thing_init : ClAt P w K mg base (T0 C) 1 "Thing" "__init__" Ft) {f : Addr} {fd : FuncData} (R : Fun K "__init__" "Cell.__init__" s_Cell__init f fd) :
    ∃ F, FnOk P w K mg base CX0 2 f fd ["self", "number"] (spH (T0 C) F) ∧ S_i0 F := by
  refine ⟨_, (funM R sc_Cell__init (hB := fun cdv A outer s H E φ0 H0 hr => (qb_cons (qs_expr (q_clcall C_Thing_init hr (by decide) rfl (qa_cons (q_var 0) (qa_cons (q_var 1) qa_nil))))
      (qb_one (qs_fld (q_var 0) q_int T.f_amount))))) selfF_ex selfF_told, ?_⟩
  intro h n a e
  have hl : n < h.length := (List.getElem?_eq_some_iff.mp e).1
  refine selfF_ok rfl ?_ (by simp)
  simp [hFt h n a _ e, xSetF, putW, hl, n_number_amount, n_amount_number, n_number_numbers, n_numbers_number, n_number_waiting, n_waiting_number, n_number_name, n_number_runs, n_name_number, n_name_runs, n_runs_number, n_runs_name, cellO, runB, startW, Out.res, xSeq, xIfS, xRet, xRetN, xDrop, xAsg, gN, xNext, xVar, xC, xNil, xCons, xBin, xUn, xCb, xBm, xAnd, xOr, xNot, xIf, xChain, xTup, xLst, xCall0, xNo, Res.bind, Res.of, iop, iopC, subM, divM, modM, mulM, powM, bandM, borM, ltM, gtM, geM, leM, negM, invM, addM, items, ixM, seqs, eqO, neO, eqM, flatW, eqFl, isiM, tyN, Kit.get, absM, sizeLine_eq, xFor, xLoop, xIl, xIt, xSl, xPn, xPs, slM, lenM, truM, intW, sumM, intM, maxM, minM, ordM, listM, isNonW, isNM, notNM, isBM, isnotBM, strW, joinM, xBmS, xIs, allBM, bolW, inM, keyW, dicts, ρC, splitM, gT2, xCallX, xMethX, xRaise, xTry, endX, fgt, xBmL, countM, slTM, isiX, tyX, kitA, clTy, catTM, tupleM, xLstN, countSM, indexSM, xLm, appM, xIr1, xRaiseI, xXf]
def S_i1 (F : Fm) : Prop := ∀ h n a, h[n]? = some (.ins "Line" []) → F [.ref n, .int a] h = .ok .non (h.set n (lineO a h.length) ++ [.lst []])
theorem ok_i1 (T : Tx K mg C) {Ft : Fm} (hFt : S_ti Ft) (C_Thing_init : ClAt P w K mg base (T0 C) 1 "Thing" "__init__" Ft) {f : Addr} {fd : FuncData} (R : Fun K "__init__" "Line.__init__" s_Line__init f fd) :
    ∃ F, FnOk P w K mg base CX0 2 f fd ["self", "number"] (spH (T0 C) F) ∧ S_i1 F := by
  refine ⟨_, (funM R sc_Line__init (hB := fun cdv A outer s H E φ0 H0 hr => (qb_cons (qs_expr (q_clcall C_Thing_init hr (by decide) rfl (qa_cons (q_var 0) (qa_cons (q_var 1) qa_nil))))
      (qb_one (qs_fld (q_var 0) (q_lstN qa_nil) T.f_numbers))))) selfF_ex selfF_told, ?_⟩
  intro h n a e
  have hl : n < h.length := (List.getElem?_eq_some_iff.mp e).1
  have e2 : (h.set n (.ins "Line" [("number", .int a)]) ++ [O.lst []])[n]? = some (.ins "Line" [("number", .int a)]) := by
    rw [List.getElem?_append_left (by simpa using hl)]; simp [hl]
  have e3 : ∀ o, (h.set n (.ins "Line" [("number", .int a)]) ++ [O.lst []]).set n o = h.set n o ++ [O.lst []] := fun o => by
    rw [List.set_append_left _ _ (by simpa using hl), List.set_set]
  refine selfF_ok rfl ?_ (by simp)
  simp [hFt h n a _ e, xLstN, xSetF, putW, e2, e3, n_number_amount, n_amount_number, n_number_numbers, n_numbers_number, n_number_waiting, n_waiting_number, n_number_name, n_number_runs, n_name_number, n_name_runs, n_runs_number, n_runs_name, lineO, runB, startW, Out.res, xSeq, xIfS, xRet, xRetN, xDrop, xAsg, gN, xNext, xVar, xC, xNil, xCons, xBin, xUn, xCb, xBm, xAnd, xOr, xNot, xIf, xChain, xTup, xLst, xCall0, xNo, Res.bind, Res.of, iop, iopC, subM, divM, modM, mulM, powM, bandM, borM, ltM, gtM, geM, leM, negM, invM, addM, items, ixM, seqs, eqO, neO, eqM, flatW, eqFl, isiM, tyN, Kit.get, absM, sizeLine_eq, xFor, xLoop, xIl, xIt, xSl, xPn, xPs, slM, lenM, truM, intW, sumM, intM, maxM, minM, ordM, listM, isNonW, isNM, notNM, isBM, isnotBM, strW, joinM, xBmS, xIs, allBM, bolW, inM, keyW, dicts, ρC, splitM, gT2, xCallX, xMethX, xRaise, xTry, endX, fgt, xBmL, countM, slTM, isiX, tyX, kitA, clTy, catTM, tupleM, xLstN, countSM, indexSM, xLm, appM, xIr1, xRaiseI, xXf]
def S_i2 (F : Fm) : Prop := ∀ h n a, h[n]? = some (.ins "Door" []) → F [.ref n, .int a] h = .ok .non (h.set n (doorO a h.length) ++ [.lst []])
theorem ok_i2 (T : Tx K mg C) {Ft : Fm} (hFt : S_ti Ft) (C_Thing_init : ClAt P w K mg base (T0 C) 1 "Thing" "__init__" Ft) {f : Addr} {fd : FuncData} (R : Fun K "__init__" "Door.__init__" s_Door__init f fd) :
    ∃ F, FnOk P w K mg base CX0 2 f fd ["self", "number"] (spH (T0 C) F) ∧ S_i2 F := by
  refine ⟨_, (funM R sc_Door__init (hB := fun cdv A outer s H E φ0 H0 hr => (qb_cons (qs_expr (q_clcall C_Thing_init hr (by decide) rfl (qa_cons (q_var 0) (qa_cons (q_var 1) qa_nil))))
      (qb_one (qs_fld (q_var 0) (q_lstN qa_nil) T.f_waiting))))) selfF_ex selfF_told, ?_⟩
  intro h n a e
  have hl : n < h.length := (List.getElem?_eq_some_iff.mp e).1
  have e2 : (h.set n (.ins "Door" [("number", .int a)]) ++ [O.lst []])[n]? = some (.ins "Door" [("number", .int a)]) := by
    rw [List.getElem?_append_left (by simpa using hl)]; simp [hl]
  have e3 : ∀ o, (h.set n (.ins "Door" [("number", .int a)]) ++ [O.lst []]).set n o = h.set n o ++ [O.lst []] := fun o => by
    rw [List.set_append_left _ _ (by simpa using hl), List.set_set]
  refine selfF_ok rfl ?_ (by simp)
  simp [hFt h n a _ e, xLstN, xSetF, putW, e2, e3, n_number_amount, n_amount_number, n_number_numbers, n_numbers_number, n_number_waiting, n_waiting_number, n_number_name, n_number_runs, n_name_number, n_name_runs, n_runs_number, n_runs_name, doorO, runB, startW, Out.res, xSeq, xIfS, xRet, xRetN, xDrop, xAsg, gN, xNext, xVar, xC, xNil, xCons, xBin, xUn, xCb, xBm, xAnd, xOr, xNot, xIf, xChain, xTup, xLst, xCall0, xNo, Res.bind, Res.of, iop, iopC, subM, divM, modM, mulM, powM, bandM, borM, ltM, gtM, geM, leM, negM, invM, addM, items, ixM, seqs, eqO, neO, eqM, flatW, eqFl, isiM, tyN, Kit.get, absM, sizeLine_eq, xFor, xLoop, xIl, xIt, xSl, xPn, xPs, slM, lenM, truM, intW, sumM, intM, maxM, minM, ordM, listM, isNonW, isNM, notNM, isBM, isnotBM, strW, joinM, xBmS, xIs, allBM, bolW, inM, keyW, dicts, ρC, splitM, gT2, xCallX, xMethX, xRaise, xTry, endX, fgt, xBmL, countM, slTM, isiX, tyX, kitA, clTy, catTM, tupleM, xLstN, countSM, indexSM, xLm, appM, xIr1, xRaiseI, xXf]
def S_i3 (F : Fm) : Prop := ∀ h n a z, h[n]? = some (.ins "Post" []) → F [.ref n, .int a, .str z] h = .ok .non (h.set n (postO a z true))
theorem ok_i3 (T : Tx K mg C) {Ft : Fm} (hFt : S_ti Ft) (C_Thing_init : ClAt P w K mg base (T0 C) 1 "Thing" "__init__" Ft) {f : Addr} {fd : FuncData} (R : Fun K "__init__" "Post.__init__" s_Post__init f fd) :
    ∃ F, FnOk P w K mg base CX0 2 f fd ["self", "number", "name"] (spH (T0 C) F) ∧ S_i3 F := by
  refine ⟨_, (funM R sc_Post__init (hB := fun cdv A outer s H E φ0 H0 hr => (qb_cons (qs_expr (q_clcall C_Thing_init hr (by decide) rfl (qa_cons (q_var 0) (qa_cons (q_var 1) qa_nil))))
      (qb_cons (qs_fld (q_var 0) (q_var 2) T.f_name)
      (qb_one (qs_fld (q_var 0) q_bl T.f_runs)))))) selfF_ex selfF_told, ?_⟩
  intro h n a z e
  have hl : n < h.length := (List.getElem?_eq_some_iff.mp e).1
  refine selfF_ok rfl ?_ (by simp)
  simp [hFt h n a _ e, xSetF, putW, hl, n_number_amount, n_amount_number, n_number_numbers, n_numbers_number, n_number_waiting, n_waiting_number, n_number_name, n_number_runs, n_name_number, n_name_runs, n_runs_number, n_runs_name, postO, runB, startW, Out.res, xSeq, xIfS, xRet, xRetN, xDrop, xAsg, gN, xNext, xVar, xC, xNil, xCons, xBin, xUn, xCb, xBm, xAnd, xOr, xNot, xIf, xChain, xTup, xLst, xCall0, xNo, Res.bind, Res.of, iop, iopC, subM, divM, modM, mulM, powM, bandM, borM, ltM, gtM, geM, leM, negM, invM, addM, items, ixM, seqs, eqO, neO, eqM, flatW, eqFl, isiM, tyN, Kit.get, absM, sizeLine_eq, xFor, xLoop, xIl, xIt, xSl, xPn, xPs, slM, lenM, truM, intW, sumM, intM, maxM, minM, ordM, listM, isNonW, isNM, notNM, isBM, isnotBM, strW, joinM, xBmS, xIs, allBM, bolW, inM, keyW, dicts, ρC, splitM, gT2, xCallX, xMethX, xRaise, xTry, endX, fgt, xBmL, countM, slTM, isiX, tyX, kitA, clTy, catTM, tupleM, xLstN, countSM, indexSM, xLm, appM, xIr1, xRaiseI, xXf]
def S_k0 (F : Fm) : Prop := ∀ h n, F [.ref n] h = .ok (.str "cell") h
theorem ok_k0 {f : Addr} {fd : FuncData} (R : Fun K "kind" "Cell.kind" s_Cell_kind f fd) : ∃ F, FnOk P w K mg base (CXe false P w) 1 f fd ["self"] (spH (T0 C) F) ∧ S_k0 F := by
  refine ⟨_, (funX R sc_Cell_kind (hB := fun cdv A outer s H E φ0 hr hx => (qb_one (qs_ret q_str)))) selfX_told, ?_⟩
  intro h n
  exact selfX_ok rfl (by simp [runB, startW, Out.res, xSeq, xIfS, xRet, xRetN, xDrop, xAsg, gN, xNext, xVar, xC, xNil, xCons, xBin, xUn, xCb, xBm, xAnd, xOr, xNot, xIf, xChain, xTup, xLst, xCall0, xNo, Res.bind, Res.of, iop, iopC, subM, divM, modM, mulM, powM, bandM, borM, ltM, gtM, geM, leM, negM, invM, addM, items, ixM, seqs, eqO, neO, eqM, flatW, eqFl, isiM, tyN, Kit.get, absM, sizeLine_eq, xFor, xLoop, xIl, xIt, xSl, xPn, xPs, slM, lenM, truM, intW, sumM, intM, maxM, minM, ordM, listM, isNonW, isNM, notNM, isBM, isnotBM, strW, joinM, xBmS, xIs, allBM, bolW, inM, keyW, dicts, ρC, splitM, gT2, xCallX, xMethX, xRaise, xTry, endX, fgt, xBmL, countM, slTM, isiX, tyX, kitA, clTy, catTM, tupleM, xLstN, countSM, indexSM, xLm, appM, xIr1, xRaiseI, xXf]) (by simp)
def S_f0 (F : Fm) : Prop := ∀ h n, F [.ref n] h = .ok (.int 3) h
theorem ok_f0 (T : Tx K mg C) {f : Addr} {fd : FuncData} (R : Fun K "fits" "Cell.fits" s_Cell_fits f fd) : ∃ F, FnOk P w K mg base CX0 1 f fd ["self"] (spH (T0 C) F) ∧ S_f0 F := by
  refine ⟨_, (funM R sc_Cell_fits (hB := fun cdv A outer s H E φ0 H0 hr => (qb_one (qs_ret (q_bin op_or borM_ok (q_gci rfl T.c_LOOK) (q_gci rfl T.c_PUT)))))) selfF_ex selfF_told, ?_⟩
  intro h n
  exact selfF_ok rfl (by simp [bor12, bor14, bor58, bor116, runB, startW, Out.res, xSeq, xIfS, xRet, xRetN, xDrop, xAsg, gN, xNext, xVar, xC, xNil, xCons, xBin, xUn, xCb, xBm, xAnd, xOr, xNot, xIf, xChain, xTup, xLst, xCall0, xNo, Res.bind, Res.of, iop, iopC, subM, divM, modM, mulM, powM, bandM, borM, ltM, gtM, geM, leM, negM, invM, addM, items, ixM, seqs, eqO, neO, eqM, flatW, eqFl, isiM, tyN, Kit.get, absM, sizeLine_eq, xFor, xLoop, xIl, xIt, xSl, xPn, xPs, slM, lenM, truM, intW, sumM, intM, maxM, minM, ordM, listM, isNonW, isNM, notNM, isBM, isnotBM, strW, joinM, xBmS, xIs, allBM, bolW, inM, keyW, dicts, ρC, splitM, gT2, xCallX, xMethX, xRaise, xTry, endX, fgt, xBmL, countM, slTM, isiX, tyX, kitA, clTy, catTM, tupleM, xLstN, countSM, indexSM, xLm, appM, xIr1, xRaiseI, xXf]) (by simp)
def S_o0 (F : Fm) : Prop := ∀ h n, F [.ref n] h = .ok (.ref h.length) (h ++ [.dic dic0])
theorem ok_o0 (T : Tx K mg C) {f : Addr} {fd : FuncData} (R : Fun K "own_needs" "Cell.own_needs" s_Cell_own_needs f fd) : ∃ F, FnOk P w K mg base CX0 1 f fd ["self"] (spH (T0 C) F) ∧ S_o0 F := by
  refine ⟨_, (funM R sc_Cell_own_needs (hB := fun cdv A outer s H E φ0 H0 hr => (qb_one (qs_ret (q_disp (qp_cons q_str (q_gci rfl T.c_LOOK) (qp_cons q_str (q_gci rfl T.c_PUT) (qp_cons q_str (q_bin op_or borM_ok (q_gci rfl T.c_LOOK) (q_gci rfl T.c_PUT)) qp_nil)))))))) selfF_ex selfF_told, ?_⟩
  intro h n
  exact selfF_ok rfl (by simp [xDisp, xPairs, keysW, nd_dic0, dic0, bor12, runB, startW, Out.res, xSeq, xIfS, xRet, xRetN, xDrop, xAsg, gN, xNext, xVar, xC, xNil, xCons, xBin, xUn, xCb, xBm, xAnd, xOr, xNot, xIf, xChain, xTup, xLst, xCall0, xNo, Res.bind, Res.of, iop, iopC, subM, divM, modM, mulM, powM, bandM, borM, ltM, gtM, geM, leM, negM, invM, addM, items, ixM, seqs, eqO, neO, eqM, flatW, eqFl, isiM, tyN, Kit.get, absM, sizeLine_eq, xFor, xLoop, xIl, xIt, xSl, xPn, xPs, slM, lenM, truM, intW, sumM, intM, maxM, minM, ordM, listM, isNonW, isNM, notNM, isBM, isnotBM, strW, joinM, xBmS, xIs, allBM, bolW, inM, keyW, dicts, ρC, splitM, gT2, xCallX, xMethX, xRaise, xTry, endX, fgt, xBmL, countM, slTM, isiX, tyX, kitA, clTy, catTM, tupleM, xLstN, countSM, indexSM, xLm, appM, xIr1, xRaiseI, xXf]) (by simp)
def S_k1 (F : Fm) : Prop := ∀ h n, F [.ref n] h = .ok (.str "line") h
theorem ok_k1 {f : Addr} {fd : FuncData} (R : Fun K "kind" "Line.kind" s_Line_kind f fd) : ∃ F, FnOk P w K mg base (CXe false P w) 1 f fd ["self"] (spH (T0 C) F) ∧ S_k1 F := by
  refine ⟨_, (funX R sc_Line_kind (hB := fun cdv A outer s H E φ0 hr hx => (qb_one (qs_ret q_str)))) selfX_told, ?_⟩
  intro h n
  exact selfX_ok rfl (by simp [runB, startW, Out.res, xSeq, xIfS, xRet, xRetN, xDrop, xAsg, gN, xNext, xVar, xC, xNil, xCons, xBin, xUn, xCb, xBm, xAnd, xOr, xNot, xIf, xChain, xTup, xLst, xCall0, xNo, Res.bind, Res.of, iop, iopC, subM, divM, modM, mulM, powM, bandM, borM, ltM, gtM, geM, leM, negM, invM, addM, items, ixM, seqs, eqO, neO, eqM, flatW, eqFl, isiM, tyN, Kit.get, absM, sizeLine_eq, xFor, xLoop, xIl, xIt, xSl, xPn, xPs, slM, lenM, truM, intW, sumM, intM, maxM, minM, ordM, listM, isNonW, isNM, notNM, isBM, isnotBM, strW, joinM, xBmS, xIs, allBM, bolW, inM, keyW, dicts, ρC, splitM, gT2, xCallX, xMethX, xRaise, xTry, endX, fgt, xBmL, countM, slTM, isiX, tyX, kitA, clTy, catTM, tupleM, xLstN, countSM, indexSM, xLm, appM, xIr1, xRaiseI, xXf]) (by simp)
def S_f1 (F : Fm) : Prop := ∀ h n, F [.ref n] h = .ok (.int 3) h
theorem ok_f1 (T : Tx K mg C) {f : Addr} {fd : FuncData} (R : Fun K "fits" "Line.fits" s_Line_fits f fd) : ∃ F, FnOk P w K mg base CX0 1 f fd ["self"] (spH (T0 C) F) ∧ S_f1 F := by
  refine ⟨_, (funM R sc_Line_fits (hB := fun cdv A outer s H E φ0 H0 hr => (qb_one (qs_ret (q_bin op_or borM_ok (q_gci rfl T.c_LOOK) (q_gci rfl T.c_PUT)))))) selfF_ex selfF_told, ?_⟩
  intro h n
  exact selfF_ok rfl (by simp [bor12, bor14, bor58, bor116, runB, startW, Out.res, xSeq, xIfS, xRet, xRetN, xDrop, xAsg, gN, xNext, xVar, xC, xNil, xCons, xBin, xUn, xCb, xBm, xAnd, xOr, xNot, xIf, xChain, xTup, xLst, xCall0, xNo, Res.bind, Res.of, iop, iopC, subM, divM, modM, mulM, powM, bandM, borM, ltM, gtM, geM, leM, negM, invM, addM, items, ixM, seqs, eqO, neO, eqM, flatW, eqFl, isiM, tyN, Kit.get, absM, sizeLine_eq, xFor, xLoop, xIl, xIt, xSl, xPn, xPs, slM, lenM, truM, intW, sumM, intM, maxM, minM, ordM, listM, isNonW, isNM, notNM, isBM, isnotBM, strW, joinM, xBmS, xIs, allBM, bolW, inM, keyW, dicts, ρC, splitM, gT2, xCallX, xMethX, xRaise, xTry, endX, fgt, xBmL, countM, slTM, isiX, tyX, kitA, clTy, catTM, tupleM, xLstN, countSM, indexSM, xLm, appM, xIr1, xRaiseI, xXf]) (by simp)
def S_o1 (F : Fm) : Prop := ∀ h n, F [.ref n] h = .ok (.ref h.length) (h ++ [.dic dic1])
theorem ok_o1 (T : Tx K mg C) {f : Addr} {fd : FuncData} (R : Fun K "own_needs" "Line.own_needs" s_Line_own_needs f fd) : ∃ F, FnOk P w K mg base CX0 1 f fd ["self"] (spH (T0 C) F) ∧ S_o1 F := by
  refine ⟨_, (funM R sc_Line_own_needs (hB := fun cdv A outer s H E φ0 H0 hr => (qb_one (qs_ret (q_disp (qp_cons q_str (q_gci rfl T.c_PUT) (qp_cons q_str (q_bin op_or borM_ok (q_gci rfl T.c_LOOK) (q_gci rfl T.c_PUT)) (qp_cons q_str (q_gci rfl T.c_LOOK) qp_nil)))))))) selfF_ex selfF_told, ?_⟩
  intro h n
  exact selfF_ok rfl (by simp [xDisp, xPairs, keysW, nd_dic1, dic1, bor12, runB, startW, Out.res, xSeq, xIfS, xRet, xRetN, xDrop, xAsg, gN, xNext, xVar, xC, xNil, xCons, xBin, xUn, xCb, xBm, xAnd, xOr, xNot, xIf, xChain, xTup, xLst, xCall0, xNo, Res.bind, Res.of, iop, iopC, subM, divM, modM, mulM, powM, bandM, borM, ltM, gtM, geM, leM, negM, invM, addM, items, ixM, seqs, eqO, neO, eqM, flatW, eqFl, isiM, tyN, Kit.get, absM, sizeLine_eq, xFor, xLoop, xIl, xIt, xSl, xPn, xPs, slM, lenM, truM, intW, sumM, intM, maxM, minM, ordM, listM, isNonW, isNM, notNM, isBM, isnotBM, strW, joinM, xBmS, xIs, allBM, bolW, inM, keyW, dicts, ρC, splitM, gT2, xCallX, xMethX, xRaise, xTry, endX, fgt, xBmL, countM, slTM, isiX, tyX, kitA, clTy, catTM, tupleM, xLstN, countSM, indexSM, xLm, appM, xIr1, xRaiseI, xXf]) (by simp)
def S_k2 (F : Fm) : Prop := ∀ h n, F [.ref n] h = .ok (.str "door") h
theorem ok_k2 {f : Addr} {fd : FuncData} (R : Fun K "kind" "Door.kind" s_Door_kind f fd) : ∃ F, FnOk P w K mg base (CXe false P w) 1 f fd ["self"] (spH (T0 C) F) ∧ S_k2 F := by
  refine ⟨_, (funX R sc_Door_kind (hB := fun cdv A outer s H E φ0 hr hx => (qb_one (qs_ret q_str)))) selfX_told, ?_⟩
  intro h n
  exact selfX_ok rfl (by simp [runB, startW, Out.res, xSeq, xIfS, xRet, xRetN, xDrop, xAsg, gN, xNext, xVar, xC, xNil, xCons, xBin, xUn, xCb, xBm, xAnd, xOr, xNot, xIf, xChain, xTup, xLst, xCall0, xNo, Res.bind, Res.of, iop, iopC, subM, divM, modM, mulM, powM, bandM, borM, ltM, gtM, geM, leM, negM, invM, addM, items, ixM, seqs, eqO, neO, eqM, flatW, eqFl, isiM, tyN, Kit.get, absM, sizeLine_eq, xFor, xLoop, xIl, xIt, xSl, xPn, xPs, slM, lenM, truM, intW, sumM, intM, maxM, minM, ordM, listM, isNonW, isNM, notNM, isBM, isnotBM, strW, joinM, xBmS, xIs, allBM, bolW, inM, keyW, dicts, ρC, splitM, gT2, xCallX, xMethX, xRaise, xTry, endX, fgt, xBmL, countM, slTM, isiX, tyX, kitA, clTy, catTM, tupleM, xLstN, countSM, indexSM, xLm, appM, xIr1, xRaiseI, xXf]) (by simp)
def S_f2 (F : Fm) : Prop := ∀ h n, F [.ref n] h = .ok (.int 13) h
theorem ok_f2 (T : Tx K mg C) {f : Addr} {fd : FuncData} (R : Fun K "fits" "Door.fits" s_Door_fits f fd) : ∃ F, FnOk P w K mg base CX0 1 f fd ["self"] (spH (T0 C) F) ∧ S_f2 F := by
  refine ⟨_, (funM R sc_Door_fits (hB := fun cdv A outer s H E φ0 H0 hr => (qb_one (qs_ret (q_bin op_or borM_ok (q_bin op_or borM_ok (q_gci rfl T.c_LOOK) (q_gci rfl T.c_SEND)) (q_gci rfl T.c_HEAR)))))) selfF_ex selfF_told, ?_⟩
  intro h n
  exact selfF_ok rfl (by simp [bor12, bor14, bor58, bor116, runB, startW, Out.res, xSeq, xIfS, xRet, xRetN, xDrop, xAsg, gN, xNext, xVar, xC, xNil, xCons, xBin, xUn, xCb, xBm, xAnd, xOr, xNot, xIf, xChain, xTup, xLst, xCall0, xNo, Res.bind, Res.of, iop, iopC, subM, divM, modM, mulM, powM, bandM, borM, ltM, gtM, geM, leM, negM, invM, addM, items, ixM, seqs, eqO, neO, eqM, flatW, eqFl, isiM, tyN, Kit.get, absM, sizeLine_eq, xFor, xLoop, xIl, xIt, xSl, xPn, xPs, slM, lenM, truM, intW, sumM, intM, maxM, minM, ordM, listM, isNonW, isNM, notNM, isBM, isnotBM, strW, joinM, xBmS, xIs, allBM, bolW, inM, keyW, dicts, ρC, splitM, gT2, xCallX, xMethX, xRaise, xTry, endX, fgt, xBmL, countM, slTM, isiX, tyX, kitA, clTy, catTM, tupleM, xLstN, countSM, indexSM, xLm, appM, xIr1, xRaiseI, xXf]) (by simp)
def S_o2 (F : Fm) : Prop := ∀ h n, F [.ref n] h = .ok (.ref h.length) (h ++ [.dic dic2])
theorem ok_o2 (T : Tx K mg C) {f : Addr} {fd : FuncData} (R : Fun K "own_needs" "Door.own_needs" s_Door_own_needs f fd) : ∃ F, FnOk P w K mg base CX0 1 f fd ["self"] (spH (T0 C) F) ∧ S_o2 F := by
  refine ⟨_, (funM R sc_Door_own_needs (hB := fun cdv A outer s H E φ0 H0 hr => (qb_one (qs_ret (q_disp (qp_cons q_str (q_gci rfl T.c_LOOK) (qp_cons q_str (q_gci rfl T.c_SEND) (qp_cons q_str (q_gci rfl T.c_HEAR) qp_nil)))))))) selfF_ex selfF_told, ?_⟩
  intro h n
  exact selfF_ok rfl (by simp [xDisp, xPairs, keysW, nd_dic2, dic2, bor12, runB, startW, Out.res, xSeq, xIfS, xRet, xRetN, xDrop, xAsg, gN, xNext, xVar, xC, xNil, xCons, xBin, xUn, xCb, xBm, xAnd, xOr, xNot, xIf, xChain, xTup, xLst, xCall0, xNo, Res.bind, Res.of, iop, iopC, subM, divM, modM, mulM, powM, bandM, borM, ltM, gtM, geM, leM, negM, invM, addM, items, ixM, seqs, eqO, neO, eqM, flatW, eqFl, isiM, tyN, Kit.get, absM, sizeLine_eq, xFor, xLoop, xIl, xIt, xSl, xPn, xPs, slM, lenM, truM, intW, sumM, intM, maxM, minM, ordM, listM, isNonW, isNM, notNM, isBM, isnotBM, strW, joinM, xBmS, xIs, allBM, bolW, inM, keyW, dicts, ρC, splitM, gT2, xCallX, xMethX, xRaise, xTry, endX, fgt, xBmL, countM, slTM, isiX, tyX, kitA, clTy, catTM, tupleM, xLstN, countSM, indexSM, xLm, appM, xIr1, xRaiseI, xXf]) (by simp)
def S_k3 (F : Fm) : Prop := ∀ h n, F [.ref n] h = .ok (.str "post") h
theorem ok_k3 {f : Addr} {fd : FuncData} (R : Fun K "kind" "Post.kind" s_Post_kind f fd) : ∃ F, FnOk P w K mg base (CXe false P w) 1 f fd ["self"] (spH (T0 C) F) ∧ S_k3 F := by
  refine ⟨_, (funX R sc_Post_kind (hB := fun cdv A outer s H E φ0 hr hx => (qb_one (qs_ret q_str)))) selfX_told, ?_⟩
  intro h n
  exact selfX_ok rfl (by simp [runB, startW, Out.res, xSeq, xIfS, xRet, xRetN, xDrop, xAsg, gN, xNext, xVar, xC, xNil, xCons, xBin, xUn, xCb, xBm, xAnd, xOr, xNot, xIf, xChain, xTup, xLst, xCall0, xNo, Res.bind, Res.of, iop, iopC, subM, divM, modM, mulM, powM, bandM, borM, ltM, gtM, geM, leM, negM, invM, addM, items, ixM, seqs, eqO, neO, eqM, flatW, eqFl, isiM, tyN, Kit.get, absM, sizeLine_eq, xFor, xLoop, xIl, xIt, xSl, xPn, xPs, slM, lenM, truM, intW, sumM, intM, maxM, minM, ordM, listM, isNonW, isNM, notNM, isBM, isnotBM, strW, joinM, xBmS, xIs, allBM, bolW, inM, keyW, dicts, ρC, splitM, gT2, xCallX, xMethX, xRaise, xTry, endX, fgt, xBmL, countM, slTM, isiX, tyX, kitA, clTy, catTM, tupleM, xLstN, countSM, indexSM, xLm, appM, xIr1, xRaiseI, xXf]) (by simp)
def S_f3 (F : Fm) : Prop := ∀ h n, F [.ref n] h = .ok (.int 17) h
theorem ok_f3 (T : Tx K mg C) {f : Addr} {fd : FuncData} (R : Fun K "fits" "Post.fits" s_Post_fits f fd) : ∃ F, FnOk P w K mg base CX0 1 f fd ["self"] (spH (T0 C) F) ∧ S_f3 F := by
  refine ⟨_, (funM R sc_Post_fits (hB := fun cdv A outer s H E φ0 H0 hr => (qb_one (qs_ret (q_bin op_or borM_ok (q_gci rfl T.c_LOOK) (q_gci rfl T.c_END)))))) selfF_ex selfF_told, ?_⟩
  intro h n
  exact selfF_ok rfl (by simp [bor12, bor14, bor58, bor116, runB, startW, Out.res, xSeq, xIfS, xRet, xRetN, xDrop, xAsg, gN, xNext, xVar, xC, xNil, xCons, xBin, xUn, xCb, xBm, xAnd, xOr, xNot, xIf, xChain, xTup, xLst, xCall0, xNo, Res.bind, Res.of, iop, iopC, subM, divM, modM, mulM, powM, bandM, borM, ltM, gtM, geM, leM, negM, invM, addM, items, ixM, seqs, eqO, neO, eqM, flatW, eqFl, isiM, tyN, Kit.get, absM, sizeLine_eq, xFor, xLoop, xIl, xIt, xSl, xPn, xPs, slM, lenM, truM, intW, sumM, intM, maxM, minM, ordM, listM, isNonW, isNM, notNM, isBM, isnotBM, strW, joinM, xBmS, xIs, allBM, bolW, inM, keyW, dicts, ρC, splitM, gT2, xCallX, xMethX, xRaise, xTry, endX, fgt, xBmL, countM, slTM, isiX, tyX, kitA, clTy, catTM, tupleM, xLstN, countSM, indexSM, xLm, appM, xIr1, xRaiseI, xXf]) (by simp)
def S_o3 (F : Fm) : Prop := ∀ h n, F [.ref n] h = .ok (.ref h.length) (h ++ [.dic dic3])
theorem ok_o3 (T : Tx K mg C) {f : Addr} {fd : FuncData} (R : Fun K "own_needs" "Post.own_needs" s_Post_own_needs f fd) : ∃ F, FnOk P w K mg base CX0 1 f fd ["self"] (spH (T0 C) F) ∧ S_o3 F := by
  refine ⟨_, (funM R sc_Post_own_needs (hB := fun cdv A outer s H E φ0 H0 hr => (qb_one (qs_ret (q_disp (qp_cons q_str (q_gci rfl T.c_LOOK) (qp_cons q_str (q_gci rfl T.c_END) qp_nil))))))) selfF_ex selfF_told, ?_⟩
  intro h n
  exact selfF_ok rfl (by simp [xDisp, xPairs, keysW, nd_dic3, dic3, bor12, runB, startW, Out.res, xSeq, xIfS, xRet, xRetN, xDrop, xAsg, gN, xNext, xVar, xC, xNil, xCons, xBin, xUn, xCb, xBm, xAnd, xOr, xNot, xIf, xChain, xTup, xLst, xCall0, xNo, Res.bind, Res.of, iop, iopC, subM, divM, modM, mulM, powM, bandM, borM, ltM, gtM, geM, leM, negM, invM, addM, items, ixM, seqs, eqO, neO, eqM, flatW, eqFl, isiM, tyN, Kit.get, absM, sizeLine_eq, xFor, xLoop, xIl, xIt, xSl, xPn, xPs, slM, lenM, truM, intW, sumM, intM, maxM, minM, ordM, listM, isNonW, isNM, notNM, isBM, isnotBM, strW, joinM, xBmS, xIs, allBM, bolW, inM, keyW, dicts, ρC, splitM, gT2, xCallX, xMethX, xRaise, xTry, endX, fgt, xBmL, countM, slTM, isiX, tyX, kitA, clTy, catTM, tupleM, xLstN, countSM, indexSM, xLm, appM, xIr1, xRaiseI, xXf]) (by simp)
def S_t0 (F : Fm) : Prop := ∀ h p q a v, At h p q a (.cell v) → TS.wf (.cell v) → F [.ref p] h = .ok (tv (.cell v)) h
theorem ok_t0 (T : Tx K mg C) {f : Addr} {fd : FuncData} (R : Fun K "told" "Cell.told" s_Cell_told f fd) : ∃ F, FnOk P w K mg base CX0 1 f fd ["self"] (spH (T0 C) F) ∧ S_t0 F := by
  refine ⟨_, (funM R sc_Cell_told (hB := fun cdv A outer s H E φ0 H0 hr => (qb_one (qs_ret (q_tup (qa_cons q_str (qa_cons (q_fld (q_var 0) T.f_amount) qa_nil))))))) selfF_ex selfF_told, ?_⟩
  intro h p q a v A hw
  have e : h[p]? = some _ := A
  exact selfF_ok rfl (by simp [e, tv, cellO, fldM, lk_cell_number, lk_cell_amount, no_cell_kind, no_cell_fits, no_cell_told, no_cell_own_needs, no_cell_own_did, no_cell_needs, no_cell_did, runB, startW, Out.res, xSeq, xIfS, xRet, xRetN, xDrop, xAsg, gN, xNext, xVar, xC, xNil, xCons, xBin, xUn, xCb, xBm, xAnd, xOr, xNot, xIf, xChain, xTup, xLst, xCall0, xNo, Res.bind, Res.of, iop, iopC, subM, divM, modM, mulM, powM, bandM, borM, ltM, gtM, geM, leM, negM, invM, addM, items, ixM, seqs, eqO, neO, eqM, flatW, eqFl, isiM, tyN, Kit.get, absM, sizeLine_eq, xFor, xLoop, xIl, xIt, xSl, xPn, xPs, slM, lenM, truM, intW, sumM, intM, maxM, minM, ordM, listM, isNonW, isNM, notNM, isBM, isnotBM, strW, joinM, xBmS, xIs, allBM, bolW, inM, keyW, dicts, ρC, splitM, gT2, xCallX, xMethX, xRaise, xTry, endX, fgt, xBmL, countM, slTM, isiX, tyX, kitA, clTy, catTM, tupleM, xLstN, countSM, indexSM, xLm, appM, xIr1, xRaiseI, xXf]) (by simp)
def S_t1 (F : Fm) : Prop := ∀ h p q a xs, At h p q a (.line xs) → TS.wf (.line xs) → F [.ref p] h = .ok (tv (.line xs)) h
theorem ok_t1 (T : Tx K mg C) {f : Addr} {fd : FuncData} (R : Fun K "told" "Line.told" s_Line_told f fd) : ∃ F, FnOk P w K mg base CX0 1 f fd ["self"] (spH (T0 C) F) ∧ S_t1 F := by
  refine ⟨_, (funM R sc_Line_told (hB := fun cdv A outer s H E φ0 H0 hr => (qb_one (qs_ret (q_bin op_catT catTM_ok (q_tup (qa_cons q_str qa_nil)) (q_cty tupleM_ok call_tuple_of rfl T.b_tuple (by first | exact boot_ty_tuple | rfl) (qa_cons (q_fld (q_var 0) T.f_numbers) qa_nil))))))) selfF_ex selfF_told, ?_⟩
  intro h p q a xs A hw
  obtain ⟨e, e2, _⟩ := A
  have hw : xs.length ≤ 9 := hw
  have hz : 1 + xs.length ≤ 16777216 := by omega
  exact selfF_ok rfl (by simp [e, e2, hz, tv, lineO, fldM, lk_line_number, lk_line_numbers, no_line_kind, no_line_fits, no_line_told, no_line_own_needs, no_line_own_did, no_line_needs, no_line_did, runB, startW, Out.res, xSeq, xIfS, xRet, xRetN, xDrop, xAsg, gN, xNext, xVar, xC, xNil, xCons, xBin, xUn, xCb, xBm, xAnd, xOr, xNot, xIf, xChain, xTup, xLst, xCall0, xNo, Res.bind, Res.of, iop, iopC, subM, divM, modM, mulM, powM, bandM, borM, ltM, gtM, geM, leM, negM, invM, addM, items, ixM, seqs, eqO, neO, eqM, flatW, eqFl, isiM, tyN, Kit.get, absM, sizeLine_eq, xFor, xLoop, xIl, xIt, xSl, xPn, xPs, slM, lenM, truM, intW, sumM, intM, maxM, minM, ordM, listM, isNonW, isNM, notNM, isBM, isnotBM, strW, joinM, xBmS, xIs, allBM, bolW, inM, keyW, dicts, ρC, splitM, gT2, xCallX, xMethX, xRaise, xTry, endX, fgt, xBmL, countM, slTM, isiX, tyX, kitA, clTy, catTM, tupleM, xLstN, countSM, indexSM, xLm, appM, xIr1, xRaiseI, xXf]) (by simp)
def S_t2 (F : Fm) : Prop := ∀ h p q a xs, At h p q a (.door xs) → TS.wf (.door xs) → F [.ref p] h = .ok (tv (.door xs)) h
theorem ok_t2 (T : Tx K mg C) {f : Addr} {fd : FuncData} (R : Fun K "told" "Door.told" s_Door_told f fd) : ∃ F, FnOk P w K mg base CX0 1 f fd ["self"] (spH (T0 C) F) ∧ S_t2 F := by
  refine ⟨_, (funM R sc_Door_told (hB := fun cdv A outer s H E φ0 H0 hr => (qb_one (qs_ret (q_tup (qa_cons q_str (qa_cons (q_cb lenM_ok call_lenV rfl T.b_len (by first | exact boot_b_len | rfl) (qa_cons (q_fld (q_var 0) T.f_waiting) qa_nil)) qa_nil))))))) selfF_ex selfF_told, ?_⟩
  intro h p q a xs A hw
  obtain ⟨e, e2, _⟩ := A
  exact selfF_ok rfl (by simp [e, e2, tv, doorO, fldM, lk_door_number, lk_door_waiting, no_door_kind, no_door_fits, no_door_told, no_door_own_needs, no_door_own_did, no_door_needs, no_door_did, runB, startW, Out.res, xSeq, xIfS, xRet, xRetN, xDrop, xAsg, gN, xNext, xVar, xC, xNil, xCons, xBin, xUn, xCb, xBm, xAnd, xOr, xNot, xIf, xChain, xTup, xLst, xCall0, xNo, Res.bind, Res.of, iop, iopC, subM, divM, modM, mulM, powM, bandM, borM, ltM, gtM, geM, leM, negM, invM, addM, items, ixM, seqs, eqO, neO, eqM, flatW, eqFl, isiM, tyN, Kit.get, absM, sizeLine_eq, xFor, xLoop, xIl, xIt, xSl, xPn, xPs, slM, lenM, truM, intW, sumM, intM, maxM, minM, ordM, listM, isNonW, isNM, notNM, isBM, isnotBM, strW, joinM, xBmS, xIs, allBM, bolW, inM, keyW, dicts, ρC, splitM, gT2, xCallX, xMethX, xRaise, xTry, endX, fgt, xBmL, countM, slTM, isiX, tyX, kitA, clTy, catTM, tupleM, xLstN, countSM, indexSM, xLm, appM, xIr1, xRaiseI, xXf]) (by simp)
def S_t3 (F : Fm) : Prop := ∀ h p q a z r, At h p q a (.post z r) → TS.wf (.post z r) → F [.ref p] h = .ok (tv (.post z r)) h
theorem ok_t3 (T : Tx K mg C) {f : Addr} {fd : FuncData} (R : Fun K "told" "Post.told" s_Post_told f fd) : ∃ F, FnOk P w K mg base CX0 1 f fd ["self"] (spH (T0 C) F) ∧ S_t3 F := by
  refine ⟨_, (funM R sc_Post_told (hB := fun cdv A outer s H E φ0 H0 hr => (qb_one (qs_ret (q_tup (qa_cons q_str (qa_cons (q_fld (q_var 0) T.f_name) (qa_cons (q_fld (q_var 0) T.f_runs) qa_nil)))))))) selfF_ex selfF_told, ?_⟩
  intro h p q a z r A hw
  have e : h[p]? = some _ := A
  exact selfF_ok rfl (by simp [e, tv, postO, fldM, lk_post_number, lk_post_name, lk_post_runs, no_post_kind, no_post_fits, no_post_told, no_post_own_needs, no_post_own_did, no_post_needs, no_post_did, runB, startW, Out.res, xSeq, xIfS, xRet, xRetN, xDrop, xAsg, gN, xNext, xVar, xC, xNil, xCons, xBin, xUn, xCb, xBm, xAnd, xOr, xNot, xIf, xChain, xTup, xLst, xCall0, xNo, Res.bind, Res.of, iop, iopC, subM, divM, modM, mulM, powM, bandM, borM, ltM, gtM, geM, leM, negM, invM, addM, items, ixM, seqs, eqO, neO, eqM, flatW, eqFl, isiM, tyN, Kit.get, absM, sizeLine_eq, xFor, xLoop, xIl, xIt, xSl, xPn, xPs, slM, lenM, truM, intW, sumM, intM, maxM, minM, ordM, listM, isNonW, isNM, notNM, isBM, isnotBM, strW, joinM, xBmS, xIs, allBM, bolW, inM, keyW, dicts, ρC, splitM, gT2, xCallX, xMethX, xRaise, xTry, endX, fgt, xBmL, countM, slTM, isiX, tyX, kitA, clTy, catTM, tupleM, xLstN, countSM, indexSM, xLm, appM, xIr1, xRaiseI, xXf]) (by simp)
def F_num : Fm := fun ws h => match ws with
  | [.int _] => .ok (.bl true) h
  | _ => .no
theorem ok_num (T : Tx K mg C) (R : DefAt K mg "is_number" s_is_number) : FnAt P w K mg base CX0 1 "is_number" (spH (T0 C) F_num) := by
  refine def0q R sc_is_number bd_is_number (hB := fun f cdv A outer s H E φ0 H0 hr => (qb_one (qs_ret (q_and (q_cb (isiX_ok T.ins T.exo T.kit) (call_isiX K rfl) rfl T.b_isinstance (by first | exact boot_b_isinstance | rfl) (qa_cons (q_var 0) (qa_cons (q_ty "int" rfl T.b_int (by first | exact boot_ty_int | rfl)) qa_nil))) (q_one (q_not (q_cb (isiX_ok T.ins T.exo T.kit) (call_isiX K rfl) rfl T.b_isinstance (by first | exact boot_b_isinstance | rfl) (qa_cons (q_var 0) (qa_cons (q_ty "bool" rfl T.b_bool (by first | exact boot_ty_bool | rfl)) qa_nil))))))))) ?_ ?_
  · intro ws h w m; unfold F_num; split <;> simp
  · intro ws h wf lt
    unfold F_num
    split
    · exact .inr ⟨rfl, fits_is (by simp [kg_0, kg_1, kg_2, kg_3, kg_4, kg_5, kg_6, runB, startW, Out.res, xSeq, xIfS, xRet, xRetN, xDrop, xAsg, gN, xNext, xVar, xC, xNil, xCons, xBin, xUn, xCb, xBm, xAnd, xOr, xNot, xIf, xChain, xTup, xLst, xCall0, xNo, Res.bind, Res.of, iop, iopC, subM, divM, modM, mulM, powM, bandM, borM, ltM, gtM, geM, leM, negM, invM, addM, items, ixM, seqs, eqO, neO, eqM, flatW, eqFl, isiM, tyN, absM, sizeLine_eq, xFor, xLoop, xIl, xIt, xSl, xPn, xPs, slM, lenM, truM, intW, sumM, intM, maxM, minM, ordM, listM, isNonW, isNM, notNM, isBM, isnotBM, strW, joinM, xBmS, xIs, allBM, bolW, inM, keyW, dicts, ρC, splitM, gT2, xCallX, xMethX, xRaise, xTry, endX, fgt, xBmL, countM, slTM, isiX, tyX, kitA, clTy, catTM, tupleM, xLstN, countSM, indexSM, xLm, appM, xIr1, xRaiseI, xXf]) (Nat.le_refl _)⟩
    · exact .inl rfl
def F_val : Fm := fun ws h => match ws with
  | [.int i] => .ok (.bl (decide (ab i ≤ 1000000000000))) h
  | _ => .no
theorem ok_val (T : Tx K mg C) (G_is_number : FnAt P w K mg base CX0 1 "is_number" (spH (T0 C) F_num)) (R : DefAt K mg "is_value" s_is_value) : FnAt P w K mg base CX0 2 "is_value" (spH (T0 C) F_val) := by
  refine def0q R sc_is_value bd_is_value (hB := fun f cdv A outer s H E φ0 H0 hr => (qb_one (qs_ret (q_and (q_fn0 G_is_number hr (by decide) rfl (qa_cons (q_var 0) qa_nil)) (q_one (q_cmp op_leS leM_ok (q_cb absM_ok call_abs rfl T.b_abs (by first | exact boot_b_abs | rfl) (qa_cons (q_var 0) qa_nil)) (q_bin op_pow powM_ok q_int q_int) (nomark _))))))) ?_ ?_
  · intro ws h w m; unfold F_val; split <;> simp
  · intro ws h wf lt
    unfold F_val
    split
    · exact .inr ⟨rfl, fits_is (by simp [F_num, runB, startW, Out.res, xSeq, xIfS, xRet, xRetN, xDrop, xAsg, gN, xNext, xVar, xC, xNil, xCons, xBin, xUn, xCb, xBm, xAnd, xOr, xNot, xIf, xChain, xTup, xLst, xCall0, xNo, Res.bind, Res.of, iop, iopC, subM, divM, modM, mulM, powM, bandM, borM, ltM, gtM, geM, leM, negM, invM, addM, items, ixM, seqs, eqO, neO, eqM, flatW, eqFl, isiM, tyN, Kit.get, absM, sizeLine_eq, xFor, xLoop, xIl, xIt, xSl, xPn, xPs, slM, lenM, truM, intW, sumM, intM, maxM, minM, ordM, listM, isNonW, isNM, notNM, isBM, isnotBM, strW, joinM, xBmS, xIs, allBM, bolW, inM, keyW, dicts, ρC, splitM, gT2, xCallX, xMethX, xRaise, xTry, endX, fgt, xBmL, countM, slTM, isiX, tyX, kitA, clTy, catTM, tupleM, xLstN, countSM, indexSM, xLm, appM, xIr1, xRaiseI, xXf]) (Nat.le_refl _)⟩
    · exact .inl rfl
def S_put (F : Fm) : Prop := ∀ h m (xs : List W) v (R : Nat), R ≤ 9 → h[m]? = some (.lst xs) → (xs.length < R → F [.ref m, .int v, .int (R : Int)] h = .ok (.int (xs.length + 1)) (h.set m (.lst (xs ++ [.int v])))) ∧ (R ≤ xs.length → F [.ref m, .int v, .int (R : Int)] h = .ex (.exc "Full" [] []) h)
theorem ok_put (T : Tx K mg C) (R : DefAt K mg "put_last" s_put_last) : ∃ F, FnAt P w K mg base (CXe true P w) 1 "put_last" (spH (T0 C) F) ∧ S_put F := by
  refine ⟨_, (defX R sc_put_last bd_put_last (hB := fun f cdv A outer s H E φ0 hr hx => (qb_cons (qs_if (qt_cmp op_ge geM_ok (q_cb lenM_ok call_lenV rfl T.b_len (by first | exact boot_b_len | rfl) (qa_cons (q_var 0) qa_nil)) (q_var 2) (nomark _)) (qb_one (qs_raise T.rz_Full hx rfl (qa_cons q_str qa_nil))) qb_nil)
      (qb_cons (qs_expr (q_append (q_var 0) (qa_cons (q_var 1) qa_nil)))
      (qb_one (qs_ret (q_cb lenM_ok call_lenV rfl T.b_len (by first | exact boot_b_len | rfl) (qa_cons (q_var 0) qa_nil)))))))) selfX_told, fun h m xs v R hR e => ?_⟩
  have hl : m < h.length := (List.getElem?_eq_some_iff.mp e).1
  have hs : ∀ o, (h.set m o)[m]? = some o := fun o => by simp [hl]
  refine ⟨fun hb => selfX_ok rfl ?_ (by simp), fun hb => selfX_exc rfl ?_ (by simp)⟩
  · have b1 : ¬ (R : Int) ≤ xs.length := by omega
    have b1' : ¬ R ≤ xs.length := by omega
    have b2 : xs.length < 16777216 := by omega
    simp [e, hs, -List.getElem?_set_self, b1, b1', b2, xLm, appM, runB, startW, Out.res, xSeq, xIfS, xRet, xRetN, xDrop, xAsg, gN, xNext, xVar, xC, xNil, xCons, xBin, xUn, xCb, xBm, xAnd, xOr, xNot, xIf, xChain, xTup, xLst, xCall0, xNo, Res.bind, Res.of, iop, iopC, subM, divM, modM, mulM, powM, bandM, borM, ltM, gtM, geM, leM, negM, invM, addM, items, ixM, seqs, eqO, neO, eqM, flatW, eqFl, isiM, tyN, Kit.get, absM, sizeLine_eq, xFor, xLoop, xIl, xIt, xSl, xPn, xPs, slM, lenM, truM, intW, sumM, intM, maxM, minM, ordM, listM, isNonW, isNM, notNM, isBM, isnotBM, strW, joinM, xBmS, xIs, allBM, bolW, inM, keyW, dicts, ρC, splitM, gT2, xCallX, xMethX, xRaise, xTry, endX, fgt, xBmL, countM, slTM, isiX, tyX, kitA, clTy, catTM, tupleM, xLstN, countSM, indexSM, xLm, appM, xIr1, xRaiseI, xXf]
  · have b1 : (R : Int) ≤ xs.length := by omega
    simp [e, b1, hb, runB, startW, Out.res, xSeq, xIfS, xRet, xRetN, xDrop, xAsg, gN, xNext, xVar, xC, xNil, xCons, xBin, xUn, xCb, xBm, xAnd, xOr, xNot, xIf, xChain, xTup, xLst, xCall0, xNo, Res.bind, Res.of, iop, iopC, subM, divM, modM, mulM, powM, bandM, borM, ltM, gtM, geM, leM, negM, invM, addM, items, ixM, seqs, eqO, neO, eqM, flatW, eqFl, isiM, tyN, Kit.get, absM, sizeLine_eq, xFor, xLoop, xIl, xIt, xSl, xPn, xPs, slM, lenM, truM, intW, sumM, intM, maxM, minM, ordM, listM, isNonW, isNM, notNM, isBM, isnotBM, strW, joinM, xBmS, xIs, allBM, bolW, inM, keyW, dicts, ρC, splitM, gT2, xCallX, xMethX, xRaise, xTry, endX, fgt, xBmL, countM, slTM, isiX, tyX, kitA, clTy, catTM, tupleM, xLstN, countSM, indexSM, xLm, appM, xIr1, xRaiseI, xXf]
def S_out (F : Fm) : Prop := ∀ h m, (h[m]? = some (.lst []) → F [.ref m] h = .ex (.exc "Empty" [] []) h) ∧ ∀ x r, h[m]? = some (.lst (x :: r)) → F [.ref m] h = .ok x (h.set m (.lst r))
theorem ok_out (T : Tx K mg C) (R : DefAt K mg "first_out" s_first_out) : ∃ F, FnAt P w K mg base (CXe true P w) 1 "first_out" (spH (T0 C) F) ∧ S_out F := by
  refine ⟨_, (defX R sc_first_out bd_first_out (hB := fun f cdv A outer s H E φ0 hr hx => (qb_cons (qs_if (qt_cmp (op_eqF hr) eqO_ok (q_cb lenM_ok call_lenV rfl T.b_len (by first | exact boot_b_len | rfl) (qa_cons (q_var 0) qa_nil)) q_int (nomark _)) (qb_one (qs_raise T.rz_Empty hx rfl (qa_cons q_str qa_nil))) qb_nil)
      (qb_one (qs_ret (q_popAt (q_var 0) (qa_cons q_int qa_nil))))))) selfX_told, fun h m => ⟨fun e => selfX_exc rfl ?_ (by simp), fun x r e => selfX_ok rfl ?_ (by simp)⟩⟩
  · simp [e, runB, startW, Out.res, xSeq, xIfS, xRet, xRetN, xDrop, xAsg, gN, xNext, xVar, xC, xNil, xCons, xBin, xUn, xCb, xBm, xAnd, xOr, xNot, xIf, xChain, xTup, xLst, xCall0, xNo, Res.bind, Res.of, iop, iopC, subM, divM, modM, mulM, powM, bandM, borM, ltM, gtM, geM, leM, negM, invM, addM, items, ixM, seqs, eqO, neO, eqM, flatW, eqFl, isiM, tyN, Kit.get, absM, sizeLine_eq, xFor, xLoop, xIl, xIt, xSl, xPn, xPs, slM, lenM, truM, intW, sumM, intM, maxM, minM, ordM, listM, isNonW, isNM, notNM, isBM, isnotBM, strW, joinM, xBmS, xIs, allBM, bolW, inM, keyW, dicts, ρC, splitM, gT2, xCallX, xMethX, xRaise, xTry, endX, fgt, xBmL, countM, slTM, isiX, tyX, kitA, clTy, catTM, tupleM, xLstN, countSM, indexSM, xLm, appM, xIr1, xRaiseI, xXf]
  · have b1 : ¬ ((r.length : Int) + 1 = 0) := by omega
    simp [e, b1, xLm, popM, runB, startW, Out.res, xSeq, xIfS, xRet, xRetN, xDrop, xAsg, gN, xNext, xVar, xC, xNil, xCons, xBin, xUn, xCb, xBm, xAnd, xOr, xNot, xIf, xChain, xTup, xLst, xCall0, xNo, Res.bind, Res.of, iop, iopC, subM, divM, modM, mulM, powM, bandM, borM, ltM, gtM, geM, leM, negM, invM, addM, items, ixM, seqs, eqO, neO, eqM, flatW, eqFl, isiM, tyN, Kit.get, absM, sizeLine_eq, xFor, xLoop, xIl, xIt, xSl, xPn, xPs, slM, lenM, truM, intW, sumM, intM, maxM, minM, ordM, listM, isNonW, isNM, notNM, isBM, isnotBM, strW, joinM, xBmS, xIs, allBM, bolW, inM, keyW, dicts, ρC, splitM, gT2, xCallX, xMethX, xRaise, xTry, endX, fgt, xBmL, countM, slTM, isiX, tyX, kitA, clTy, catTM, tupleM, xLstN, countSM, indexSM, xLm, appM, xIr1, xRaiseI, xXf]
/-- what a deed may come to, at a store -/
def Did (r : Res) (h : Mem) (p q : Nat) (a : Int) (s : TS) : Prop := ∃ g, (∃ w, r = .ok w (put h p q a s ++ g)) ∨ ∃ c, subP c = true ∧ r = .ex (.exc c [] []) (put h p q a s ++ g)
theorem Did.ok {h : Mem} {p q : Nat} {a : Int} {s : TS} {w : W} {r : Res} (e : r = .ok w (put h p q a s)) : Did r h p q a s := ⟨[], .inl ⟨w, by rw [List.append_nil]; exact e⟩⟩
theorem Did.ex {h : Mem} {p q : Nat} {a : Int} {s : TS} {c : Str} {r : Res} (hc : subP c = true) (e : r = .ex (.exc c [] []) (put h p q a s)) : Did r h p q a s := ⟨[], .inr ⟨c, hc, by rw [List.append_nil]; exact e⟩⟩
def S_d0 (F : Fm) : Prop := ∀ h p q a v d x, At h p q a (.cell v) → d ∈ dl 0 → ¬ d = Str.ofString "kind" → Did (F [.ref p, .str d, .int x] h) h p q a (step (.cell v) d x)
theorem ok_d0 (T : Tx K mg C) (G_is_value : FnAt P w K mg base CX0 2 "is_value" (spH (T0 C) F_val)) {f : Addr} {fd : FuncData} (R : Fun K "own_did" "Cell.own_did" s_Cell_own_did f fd) : ∃ F, FnOk P w K mg base (CXe true P w) 3 f fd ["self", "deed", "value"] (spH (T0 C) F) ∧ S_d0 F := by
  refine ⟨_, (funX R sc_Cell_own_did (hB := fun cdv A outer s H E φ0 hr hx => (qb_cons (qs_if (qt_cmp (op_eqF hr) eqO_ok (q_var 1) q_str (nomark _)) (qb_one (qs_ret (q_fld (q_var 0) T.f_amount))) qb_nil)
      (qb_cons (qs_if (qt_cmp (op_eqF hr) eqO_ok (q_var 1) q_str (nomark _)) (qb_cons (qs_set (i := 3) sc_Cell_own_did.nd rfl (Or.inl rfl) (fun _ _ _ => trivial) (q_fld (q_var 0) T.f_amount))
      (qb_cons (qs_fld (q_var 0) (q_var 2) T.f_amount)
      (qb_one (qs_ret (q_var 3))))) qb_nil)
      (qb_cons (qs_set (i := 4) sc_Cell_own_did.nd rfl (Or.inl rfl) (fun _ _ _ => trivial) (q_bin op_addV addM_ok (q_fld (q_var 0) T.f_amount) (q_var 2)))
      (qb_cons (qs_if (qt_not (qt_val (q_fn0 G_is_value hr (by decide) rfl (qa_cons (q_var 4) qa_nil)))) (qb_one (qs_raise T.rz_TooGreat hx rfl (qa_cons q_str qa_nil))) qb_nil)
      (qb_cons (qs_fld (q_var 0) (q_var 4) T.f_amount)
      (qb_one (qs_ret (q_var 4)))))))))) selfX_told, ?_⟩
  intro h p q a v d x A hd hk
  have e : h[p]? = some (cellO a v) := A
  have hl : p < h.length := A.lt
  have hs : ∀ o, (h.set p o)[p]? = some o := fun o => by simp [hl]
  have hsame := set_same e
  simp only [dl, List.mem_cons, List.not_mem_nil, or_false] at hd
  simp only [cellO] at e hsame
  rcases hd with rfl | rfl | rfl | rfl
  · exact absurd rfl hk
  · refine .ok (w := .int v) (selfX_ok rfl ?_ (by rw [put_len]; exact Nat.le_refl _))
    simp [step, put, cellO, hsame, e, fldM, lk_cell_number, lk_cell_amount, no_cell_kind, no_cell_fits, no_cell_told, no_cell_own_needs, no_cell_own_did, no_cell_needs, no_cell_did, ne_kind_read, ne_kind_write, ne_kind_add, ne_read_kind, ne_read_write, ne_read_add, ne_write_kind, ne_write_read, ne_write_add, ne_add_kind, ne_add_read, ne_add_write, ne_kind_push, ne_kind_pull, ne_kind_count, ne_push_kind, ne_push_pull, ne_push_count, ne_pull_kind, ne_pull_push, ne_pull_count, ne_count_kind, ne_count_push, ne_count_pull, ne_kind_send, ne_kind_hear, ne_count_send, ne_count_hear, ne_send_kind, ne_send_count, ne_send_hear, ne_hear_kind, ne_hear_count, ne_hear_send, ne_kind_state, ne_kind_end, ne_state_kind, ne_state_end, ne_end_kind, ne_end_state, runB, startW, Out.res, xSeq, xIfS, xRet, xRetN, xDrop, xAsg, gN, xNext, xVar, xC, xNil, xCons, xBin, xUn, xCb, xBm, xAnd, xOr, xNot, xIf, xChain, xTup, xLst, xCall0, xNo, Res.bind, Res.of, iop, iopC, subM, divM, modM, mulM, powM, bandM, borM, ltM, gtM, geM, leM, negM, invM, addM, items, ixM, seqs, eqO, neO, eqM, flatW, eqFl, isiM, tyN, Kit.get, absM, sizeLine_eq, xFor, xLoop, xIl, xIt, xSl, xPn, xPs, slM, lenM, truM, intW, sumM, intM, maxM, minM, ordM, listM, isNonW, isNM, notNM, isBM, isnotBM, strW, joinM, xBmS, xIs, allBM, bolW, inM, keyW, dicts, ρC, splitM, gT2, xCallX, xMethX, xRaise, xTry, endX, fgt, xBmL, countM, slTM, isiX, tyX, kitA, clTy, catTM, tupleM, xLstN, countSM, indexSM, xLm, appM, xIr1, xRaiseI, xXf]
  · refine .ok (w := .int v) (selfX_ok rfl ?_ (by rw [put_len]; exact Nat.le_refl _))
    simp [step, put, cellO, e, hs, -List.getElem?_set_self, fldM, xSetF, putW, n_number_amount, n_amount_number, n_number_numbers, n_numbers_number, n_number_waiting, n_waiting_number, n_number_name, n_number_runs, n_name_number, n_name_runs, n_runs_number, n_runs_name, lk_cell_number, lk_cell_amount, no_cell_kind, no_cell_fits, no_cell_told, no_cell_own_needs, no_cell_own_did, no_cell_needs, no_cell_did, ne_kind_read, ne_kind_write, ne_kind_add, ne_read_kind, ne_read_write, ne_read_add, ne_write_kind, ne_write_read, ne_write_add, ne_add_kind, ne_add_read, ne_add_write, ne_kind_push, ne_kind_pull, ne_kind_count, ne_push_kind, ne_push_pull, ne_push_count, ne_pull_kind, ne_pull_push, ne_pull_count, ne_count_kind, ne_count_push, ne_count_pull, ne_kind_send, ne_kind_hear, ne_count_send, ne_count_hear, ne_send_kind, ne_send_count, ne_send_hear, ne_hear_kind, ne_hear_count, ne_hear_send, ne_kind_state, ne_kind_end, ne_state_kind, ne_state_end, ne_end_kind, ne_end_state, runB, startW, Out.res, xSeq, xIfS, xRet, xRetN, xDrop, xAsg, gN, xNext, xVar, xC, xNil, xCons, xBin, xUn, xCb, xBm, xAnd, xOr, xNot, xIf, xChain, xTup, xLst, xCall0, xNo, Res.bind, Res.of, iop, iopC, subM, divM, modM, mulM, powM, bandM, borM, ltM, gtM, geM, leM, negM, invM, addM, items, ixM, seqs, eqO, neO, eqM, flatW, eqFl, isiM, tyN, Kit.get, absM, sizeLine_eq, xFor, xLoop, xIl, xIt, xSl, xPn, xPs, slM, lenM, truM, intW, sumM, intM, maxM, minM, ordM, listM, isNonW, isNM, notNM, isBM, isnotBM, strW, joinM, xBmS, xIs, allBM, bolW, inM, keyW, dicts, ρC, splitM, gT2, xCallX, xMethX, xRaise, xTry, endX, fgt, xBmL, countM, slTM, isiX, tyX, kitA, clTy, catTM, tupleM, xLstN, countSM, indexSM, xLm, appM, xIr1, xRaiseI, xXf]
  · by_cases hb : ab (v + x) ≤ 1000000000000
    · refine .ok (w := .int (v + x)) (selfX_ok rfl ?_ (by rw [put_len]; exact Nat.le_refl _))
      simp [step, put, cellO, e, hs, -List.getElem?_set_self, fldM, xSetF, putW, F_val, hb, n_number_amount, n_amount_number, n_number_numbers, n_numbers_number, n_number_waiting, n_waiting_number, n_number_name, n_number_runs, n_name_number, n_name_runs, n_runs_number, n_runs_name, lk_cell_number, lk_cell_amount, no_cell_kind, no_cell_fits, no_cell_told, no_cell_own_needs, no_cell_own_did, no_cell_needs, no_cell_did, ne_kind_read, ne_kind_write, ne_kind_add, ne_read_kind, ne_read_write, ne_read_add, ne_write_kind, ne_write_read, ne_write_add, ne_add_kind, ne_add_read, ne_add_write, ne_kind_push, ne_kind_pull, ne_kind_count, ne_push_kind, ne_push_pull, ne_push_count, ne_pull_kind, ne_pull_push, ne_pull_count, ne_count_kind, ne_count_push, ne_count_pull, ne_kind_send, ne_kind_hear, ne_count_send, ne_count_hear, ne_send_kind, ne_send_count, ne_send_hear, ne_hear_kind, ne_hear_count, ne_hear_send, ne_kind_state, ne_kind_end, ne_state_kind, ne_state_end, ne_end_kind, ne_end_state, runB, startW, Out.res, xSeq, xIfS, xRet, xRetN, xDrop, xAsg, gN, xNext, xVar, xC, xNil, xCons, xBin, xUn, xCb, xBm, xAnd, xOr, xNot, xIf, xChain, xTup, xLst, xCall0, xNo, Res.bind, Res.of, iop, iopC, subM, divM, modM, mulM, powM, bandM, borM, ltM, gtM, geM, leM, negM, invM, addM, items, ixM, seqs, eqO, neO, eqM, flatW, eqFl, isiM, tyN, Kit.get, absM, sizeLine_eq, xFor, xLoop, xIl, xIt, xSl, xPn, xPs, slM, lenM, truM, intW, sumM, intM, maxM, minM, ordM, listM, isNonW, isNM, notNM, isBM, isnotBM, strW, joinM, xBmS, xIs, allBM, bolW, inM, keyW, dicts, ρC, splitM, gT2, xCallX, xMethX, xRaise, xTry, endX, fgt, xBmL, countM, slTM, isiX, tyX, kitA, clTy, catTM, tupleM, xLstN, countSM, indexSM, xLm, appM, xIr1, xRaiseI, xXf]
    · refine .ex (c := "TooGreat") subP_TooGreat (selfX_exc rfl ?_ (by rw [put_len]; exact Nat.le_refl _))
      simp [step, put, cellO, hsame, e, fldM, F_val, hb, lk_cell_number, lk_cell_amount, no_cell_kind, no_cell_fits, no_cell_told, no_cell_own_needs, no_cell_own_did, no_cell_needs, no_cell_did, ne_kind_read, ne_kind_write, ne_kind_add, ne_read_kind, ne_read_write, ne_read_add, ne_write_kind, ne_write_read, ne_write_add, ne_add_kind, ne_add_read, ne_add_write, ne_kind_push, ne_kind_pull, ne_kind_count, ne_push_kind, ne_push_pull, ne_push_count, ne_pull_kind, ne_pull_push, ne_pull_count, ne_count_kind, ne_count_push, ne_count_pull, ne_kind_send, ne_kind_hear, ne_count_send, ne_count_hear, ne_send_kind, ne_send_count, ne_send_hear, ne_hear_kind, ne_hear_count, ne_hear_send, ne_kind_state, ne_kind_end, ne_state_kind, ne_state_end, ne_end_kind, ne_end_state, runB, startW, Out.res, xSeq, xIfS, xRet, xRetN, xDrop, xAsg, gN, xNext, xVar, xC, xNil, xCons, xBin, xUn, xCb, xBm, xAnd, xOr, xNot, xIf, xChain, xTup, xLst, xCall0, xNo, Res.bind, Res.of, iop, iopC, subM, divM, modM, mulM, powM, bandM, borM, ltM, gtM, geM, leM, negM, invM, addM, items, ixM, seqs, eqO, neO, eqM, flatW, eqFl, isiM, tyN, Kit.get, absM, sizeLine_eq, xFor, xLoop, xIl, xIt, xSl, xPn, xPs, slM, lenM, truM, intW, sumM, intM, maxM, minM, ordM, listM, isNonW, isNM, notNM, isBM, isnotBM, strW, joinM, xBmS, xIs, allBM, bolW, inM, keyW, dicts, ρC, splitM, gT2, xCallX, xMethX, xRaise, xTry, endX, fgt, xBmL, countM, slTM, isiX, tyX, kitA, clTy, catTM, tupleM, xLstN, countSM, indexSM, xLm, appM, xIr1, xRaiseI, xXf]

def S_d1 (F : Fm) : Prop := ∀ h p q a xs d x, At h p q a (.line xs) → TS.wf (.line xs) → d ∈ dl 1 → ¬ d = Str.ofString "kind" → Did (F [.ref p, .str d, .int x] h) h p q a (step (.line xs) d x)
theorem ok_d1 (T : Tx K mg C) {Fp Fo : Fm} (hFp : S_put Fp) (hFo : S_out Fo) (G_put_last : FnAt P w K mg base (CXe true P w) 1 "put_last" (spH (T0 C) Fp)) (G_first_out : FnAt P w K mg base (CXe true P w) 1 "first_out" (spH (T0 C) Fo)) {f : Addr} {fd : FuncData} (R : Fun K "own_did" "Line.own_did" s_Line_own_did f fd) : ∃ F, FnOk P w K mg base (CXe true P w) 3 f fd ["self", "deed", "value"] (spH (T0 C) F) ∧ S_d1 F := by
  refine ⟨_, (funX R sc_Line_own_did (hB := fun cdv A outer s H E φ0 hr hx => (qb_cons (qs_if (qt_cmp (op_eqF hr) eqO_ok (q_var 1) q_str (nomark _)) (qb_one (qs_ret (q_fnX G_put_last hx hr (by decide) rfl (qa_cons (q_fld (q_var 0) T.f_numbers) (qa_cons (q_var 2) (qa_cons (q_gci rfl T.c_LINE_ROOM) qa_nil)))))) qb_nil)
      (qb_cons (qs_if (qt_cmp (op_eqF hr) eqO_ok (q_var 1) q_str (nomark _)) (qb_one (qs_ret (q_fnX G_first_out hx hr (by decide) rfl (qa_cons (q_fld (q_var 0) T.f_numbers) qa_nil)))) qb_nil)
      (qb_one (qs_ret (q_cb lenM_ok call_lenV rfl T.b_len (by first | exact boot_b_len | rfl) (qa_cons (q_fld (q_var 0) T.f_numbers) qa_nil)))))))) selfX_told, ?_⟩
  intro h p q a xs d x A hwf hd hk
  obtain ⟨e, e2, hne⟩ := A
  have hsame := set_same e2
  have hw : xs.length ≤ 9 := hwf
  obtain ⟨p1, p2⟩ := hFp h q (xs.map W.int) x 9 (by decide) e2
  obtain ⟨q1, q2⟩ := hFo h q
  rw [List.length_map] at p1 p2
  simp only [dl, List.mem_cons, List.not_mem_nil, or_false] at hd
  simp only [lineO] at e
  rcases hd with rfl | rfl | rfl | rfl
  · exact absurd rfl hk
  · by_cases hb : xs.length < 9
    · have p1 : Fp [.ref q, .int x, .int 9] h = .ok (.int (xs.length + 1)) (h.set q (.lst (xs.map W.int ++ [.int x]))) := p1 hb
      refine .ok (w := .int (xs.length + 1)) (selfX_ok rfl ?_ (by rw [put_len]; exact Nat.le_refl _))
      simp [step, put, hb, e, p1, fldM, lk_line_number, lk_line_numbers, no_line_kind, no_line_fits, no_line_told, no_line_own_needs, no_line_own_did, no_line_needs, no_line_did, ne_kind_read, ne_kind_write, ne_kind_add, ne_read_kind, ne_read_write, ne_read_add, ne_write_kind, ne_write_read, ne_write_add, ne_add_kind, ne_add_read, ne_add_write, ne_kind_push, ne_kind_pull, ne_kind_count, ne_push_kind, ne_push_pull, ne_push_count, ne_pull_kind, ne_pull_push, ne_pull_count, ne_count_kind, ne_count_push, ne_count_pull, ne_kind_send, ne_kind_hear, ne_count_send, ne_count_hear, ne_send_kind, ne_send_count, ne_send_hear, ne_hear_kind, ne_hear_count, ne_hear_send, ne_kind_state, ne_kind_end, ne_state_kind, ne_state_end, ne_end_kind, ne_end_state, runB, startW, Out.res, xSeq, xIfS, xRet, xRetN, xDrop, xAsg, gN, xNext, xVar, xC, xNil, xCons, xBin, xUn, xCb, xBm, xAnd, xOr, xNot, xIf, xChain, xTup, xLst, xCall0, xNo, Res.bind, Res.of, iop, iopC, subM, divM, modM, mulM, powM, bandM, borM, ltM, gtM, geM, leM, negM, invM, addM, items, ixM, seqs, eqO, neO, eqM, flatW, eqFl, isiM, tyN, Kit.get, absM, sizeLine_eq, xFor, xLoop, xIl, xIt, xSl, xPn, xPs, slM, lenM, truM, intW, sumM, intM, maxM, minM, ordM, listM, isNonW, isNM, notNM, isBM, isnotBM, strW, joinM, xBmS, xIs, allBM, bolW, inM, keyW, dicts, ρC, splitM, gT2, xCallX, xMethX, xRaise, xTry, endX, fgt, xBmL, countM, slTM, isiX, tyX, kitA, clTy, catTM, tupleM, xLstN, countSM, indexSM, xLm, appM, xIr1, xRaiseI, xXf]
    · have p2 : Fp [.ref q, .int x, .int 9] h = .ex (.exc "Full" [] []) h := p2 (by omega)
      refine .ex (c := "Full") subP_Full (selfX_exc rfl ?_ (by rw [put_len]; exact Nat.le_refl _))
      simp [step, put, hb, hsame, e, p2, fldM, lk_line_number, lk_line_numbers, no_line_kind, no_line_fits, no_line_told, no_line_own_needs, no_line_own_did, no_line_needs, no_line_did, ne_kind_read, ne_kind_write, ne_kind_add, ne_read_kind, ne_read_write, ne_read_add, ne_write_kind, ne_write_read, ne_write_add, ne_add_kind, ne_add_read, ne_add_write, ne_kind_push, ne_kind_pull, ne_kind_count, ne_push_kind, ne_push_pull, ne_push_count, ne_pull_kind, ne_pull_push, ne_pull_count, ne_count_kind, ne_count_push, ne_count_pull, ne_kind_send, ne_kind_hear, ne_count_send, ne_count_hear, ne_send_kind, ne_send_count, ne_send_hear, ne_hear_kind, ne_hear_count, ne_hear_send, ne_kind_state, ne_kind_end, ne_state_kind, ne_state_end, ne_end_kind, ne_end_state, runB, startW, Out.res, xSeq, xIfS, xRet, xRetN, xDrop, xAsg, gN, xNext, xVar, xC, xNil, xCons, xBin, xUn, xCb, xBm, xAnd, xOr, xNot, xIf, xChain, xTup, xLst, xCall0, xNo, Res.bind, Res.of, iop, iopC, subM, divM, modM, mulM, powM, bandM, borM, ltM, gtM, geM, leM, negM, invM, addM, items, ixM, seqs, eqO, neO, eqM, flatW, eqFl, isiM, tyN, Kit.get, absM, sizeLine_eq, xFor, xLoop, xIl, xIt, xSl, xPn, xPs, slM, lenM, truM, intW, sumM, intM, maxM, minM, ordM, listM, isNonW, isNM, notNM, isBM, isnotBM, strW, joinM, xBmS, xIs, allBM, bolW, inM, keyW, dicts, ρC, splitM, gT2, xCallX, xMethX, xRaise, xTry, endX, fgt, xBmL, countM, slTM, isiX, tyX, kitA, clTy, catTM, tupleM, xLstN, countSM, indexSM, xLm, appM, xIr1, xRaiseI, xXf]
  · cases xs with
    | nil =>
      have q1 := q1 e2
      refine .ex (c := "Empty") subP_Empty (selfX_exc rfl ?_ (by rw [put_len]; exact Nat.le_refl _))
      have hsame : h.set q (.lst []) = h := hsame
      simp [step, put, hsame, e, q1, fldM, lk_line_number, lk_line_numbers, no_line_kind, no_line_fits, no_line_told, no_line_own_needs, no_line_own_did, no_line_needs, no_line_did, ne_kind_read, ne_kind_write, ne_kind_add, ne_read_kind, ne_read_write, ne_read_add, ne_write_kind, ne_write_read, ne_write_add, ne_add_kind, ne_add_read, ne_add_write, ne_kind_push, ne_kind_pull, ne_kind_count, ne_push_kind, ne_push_pull, ne_push_count, ne_pull_kind, ne_pull_push, ne_pull_count, ne_count_kind, ne_count_push, ne_count_pull, ne_kind_send, ne_kind_hear, ne_count_send, ne_count_hear, ne_send_kind, ne_send_count, ne_send_hear, ne_hear_kind, ne_hear_count, ne_hear_send, ne_kind_state, ne_kind_end, ne_state_kind, ne_state_end, ne_end_kind, ne_end_state, runB, startW, Out.res, xSeq, xIfS, xRet, xRetN, xDrop, xAsg, gN, xNext, xVar, xC, xNil, xCons, xBin, xUn, xCb, xBm, xAnd, xOr, xNot, xIf, xChain, xTup, xLst, xCall0, xNo, Res.bind, Res.of, iop, iopC, subM, divM, modM, mulM, powM, bandM, borM, ltM, gtM, geM, leM, negM, invM, addM, items, ixM, seqs, eqO, neO, eqM, flatW, eqFl, isiM, tyN, Kit.get, absM, sizeLine_eq, xFor, xLoop, xIl, xIt, xSl, xPn, xPs, slM, lenM, truM, intW, sumM, intM, maxM, minM, ordM, listM, isNonW, isNM, notNM, isBM, isnotBM, strW, joinM, xBmS, xIs, allBM, bolW, inM, keyW, dicts, ρC, splitM, gT2, xCallX, xMethX, xRaise, xTry, endX, fgt, xBmL, countM, slTM, isiX, tyX, kitA, clTy, catTM, tupleM, xLstN, countSM, indexSM, xLm, appM, xIr1, xRaiseI, xXf]
    | cons y ys =>
      have q2 := q2 (.int y) (ys.map W.int) e2
      refine .ok (w := .int y) (selfX_ok rfl ?_ (by rw [put_len]; exact Nat.le_refl _))
      simp [step, put, e, q2, fldM, lk_line_number, lk_line_numbers, no_line_kind, no_line_fits, no_line_told, no_line_own_needs, no_line_own_did, no_line_needs, no_line_did, ne_kind_read, ne_kind_write, ne_kind_add, ne_read_kind, ne_read_write, ne_read_add, ne_write_kind, ne_write_read, ne_write_add, ne_add_kind, ne_add_read, ne_add_write, ne_kind_push, ne_kind_pull, ne_kind_count, ne_push_kind, ne_push_pull, ne_push_count, ne_pull_kind, ne_pull_push, ne_pull_count, ne_count_kind, ne_count_push, ne_count_pull, ne_kind_send, ne_kind_hear, ne_count_send, ne_count_hear, ne_send_kind, ne_send_count, ne_send_hear, ne_hear_kind, ne_hear_count, ne_hear_send, ne_kind_state, ne_kind_end, ne_state_kind, ne_state_end, ne_end_kind, ne_end_state, runB, startW, Out.res, xSeq, xIfS, xRet, xRetN, xDrop, xAsg, gN, xNext, xVar, xC, xNil, xCons, xBin, xUn, xCb, xBm, xAnd, xOr, xNot, xIf, xChain, xTup, xLst, xCall0, xNo, Res.bind, Res.of, iop, iopC, subM, divM, modM, mulM, powM, bandM, borM, ltM, gtM, geM, leM, negM, invM, addM, items, ixM, seqs, eqO, neO, eqM, flatW, eqFl, isiM, tyN, Kit.get, absM, sizeLine_eq, xFor, xLoop, xIl, xIt, xSl, xPn, xPs, slM, lenM, truM, intW, sumM, intM, maxM, minM, ordM, listM, isNonW, isNM, notNM, isBM, isnotBM, strW, joinM, xBmS, xIs, allBM, bolW, inM, keyW, dicts, ρC, splitM, gT2, xCallX, xMethX, xRaise, xTry, endX, fgt, xBmL, countM, slTM, isiX, tyX, kitA, clTy, catTM, tupleM, xLstN, countSM, indexSM, xLm, appM, xIr1, xRaiseI, xXf]
  · refine .ok (w := .int xs.length) (selfX_ok rfl ?_ (by rw [put_len]; exact Nat.le_refl _))
    simp [step, put, hsame, e, e2, fldM, lk_line_number, lk_line_numbers, no_line_kind, no_line_fits, no_line_told, no_line_own_needs, no_line_own_did, no_line_needs, no_line_did, ne_kind_read, ne_kind_write, ne_kind_add, ne_read_kind, ne_read_write, ne_read_add, ne_write_kind, ne_write_read, ne_write_add, ne_add_kind, ne_add_read, ne_add_write, ne_kind_push, ne_kind_pull, ne_kind_count, ne_push_kind, ne_push_pull, ne_push_count, ne_pull_kind, ne_pull_push, ne_pull_count, ne_count_kind, ne_count_push, ne_count_pull, ne_kind_send, ne_kind_hear, ne_count_send, ne_count_hear, ne_send_kind, ne_send_count, ne_send_hear, ne_hear_kind, ne_hear_count, ne_hear_send, ne_kind_state, ne_kind_end, ne_state_kind, ne_state_end, ne_end_kind, ne_end_state, runB, startW, Out.res, xSeq, xIfS, xRet, xRetN, xDrop, xAsg, gN, xNext, xVar, xC, xNil, xCons, xBin, xUn, xCb, xBm, xAnd, xOr, xNot, xIf, xChain, xTup, xLst, xCall0, xNo, Res.bind, Res.of, iop, iopC, subM, divM, modM, mulM, powM, bandM, borM, ltM, gtM, geM, leM, negM, invM, addM, items, ixM, seqs, eqO, neO, eqM, flatW, eqFl, isiM, tyN, Kit.get, absM, sizeLine_eq, xFor, xLoop, xIl, xIt, xSl, xPn, xPs, slM, lenM, truM, intW, sumM, intM, maxM, minM, ordM, listM, isNonW, isNM, notNM, isBM, isnotBM, strW, joinM, xBmS, xIs, allBM, bolW, inM, keyW, dicts, ρC, splitM, gT2, xCallX, xMethX, xRaise, xTry, endX, fgt, xBmL, countM, slTM, isiX, tyX, kitA, clTy, catTM, tupleM, xLstN, countSM, indexSM, xLm, appM, xIr1, xRaiseI, xXf]

def S_d2 (F : Fm) : Prop := ∀ h p q a xs d x, At h p q a (.door xs) → TS.wf (.door xs) → d ∈ dl 2 → ¬ d = Str.ofString "kind" → Did (F [.ref p, .str d, .int x] h) h p q a (step (.door xs) d x)
theorem ok_d2 (T : Tx K mg C) {Fp Fo : Fm} (hFp : S_put Fp) (hFo : S_out Fo) (G_put_last : FnAt P w K mg base (CXe true P w) 1 "put_last" (spH (T0 C) Fp)) (G_first_out : FnAt P w K mg base (CXe true P w) 1 "first_out" (spH (T0 C) Fo)) {f : Addr} {fd : FuncData} (R : Fun K "own_did" "Door.own_did" s_Door_own_did f fd) : ∃ F, FnOk P w K mg base (CXe true P w) 3 f fd ["self", "deed", "value"] (spH (T0 C) F) ∧ S_d2 F := by
  refine ⟨_, (funX R sc_Door_own_did (hB := fun cdv A outer s H E φ0 hr hx => (qb_cons (qs_if (qt_cmp (op_eqF hr) eqO_ok (q_var 1) q_str (nomark _)) (qb_one (qs_ret (q_fnX G_put_last hx hr (by decide) rfl (qa_cons (q_fld (q_var 0) T.f_waiting) (qa_cons (q_var 2) (qa_cons (q_gci rfl T.c_DOOR_ROOM) qa_nil)))))) qb_nil)
      (qb_cons (qs_if (qt_cmp (op_eqF hr) eqO_ok (q_var 1) q_str (nomark _)) (qb_one (qs_ret (q_fnX G_first_out hx hr (by decide) rfl (qa_cons (q_fld (q_var 0) T.f_waiting) qa_nil)))) qb_nil)
      (qb_one (qs_ret (q_cb lenM_ok call_lenV rfl T.b_len (by first | exact boot_b_len | rfl) (qa_cons (q_fld (q_var 0) T.f_waiting) qa_nil)))))))) selfX_told, ?_⟩
  intro h p q a xs d x A hwf hd hk
  obtain ⟨e, e2, hne⟩ := A
  have hsame := set_same e2
  have hw : xs.length ≤ 8 := hwf
  obtain ⟨p1, p2⟩ := hFp h q (xs.map W.int) x 8 (by decide) e2
  obtain ⟨q1, q2⟩ := hFo h q
  rw [List.length_map] at p1 p2
  simp only [dl, List.mem_cons, List.not_mem_nil, or_false] at hd
  simp only [doorO] at e
  rcases hd with rfl | rfl | rfl | rfl
  · exact absurd rfl hk
  · refine .ok (w := .int xs.length) (selfX_ok rfl ?_ (by rw [put_len]; exact Nat.le_refl _))
    simp [step, put, hsame, e, e2, fldM, lk_door_number, lk_door_waiting, no_door_kind, no_door_fits, no_door_told, no_door_own_needs, no_door_own_did, no_door_needs, no_door_did, ne_kind_read, ne_kind_write, ne_kind_add, ne_read_kind, ne_read_write, ne_read_add, ne_write_kind, ne_write_read, ne_write_add, ne_add_kind, ne_add_read, ne_add_write, ne_kind_push, ne_kind_pull, ne_kind_count, ne_push_kind, ne_push_pull, ne_push_count, ne_pull_kind, ne_pull_push, ne_pull_count, ne_count_kind, ne_count_push, ne_count_pull, ne_kind_send, ne_kind_hear, ne_count_send, ne_count_hear, ne_send_kind, ne_send_count, ne_send_hear, ne_hear_kind, ne_hear_count, ne_hear_send, ne_kind_state, ne_kind_end, ne_state_kind, ne_state_end, ne_end_kind, ne_end_state, runB, startW, Out.res, xSeq, xIfS, xRet, xRetN, xDrop, xAsg, gN, xNext, xVar, xC, xNil, xCons, xBin, xUn, xCb, xBm, xAnd, xOr, xNot, xIf, xChain, xTup, xLst, xCall0, xNo, Res.bind, Res.of, iop, iopC, subM, divM, modM, mulM, powM, bandM, borM, ltM, gtM, geM, leM, negM, invM, addM, items, ixM, seqs, eqO, neO, eqM, flatW, eqFl, isiM, tyN, Kit.get, absM, sizeLine_eq, xFor, xLoop, xIl, xIt, xSl, xPn, xPs, slM, lenM, truM, intW, sumM, intM, maxM, minM, ordM, listM, isNonW, isNM, notNM, isBM, isnotBM, strW, joinM, xBmS, xIs, allBM, bolW, inM, keyW, dicts, ρC, splitM, gT2, xCallX, xMethX, xRaise, xTry, endX, fgt, xBmL, countM, slTM, isiX, tyX, kitA, clTy, catTM, tupleM, xLstN, countSM, indexSM, xLm, appM, xIr1, xRaiseI, xXf]
  · by_cases hb : xs.length < 8
    · have p1 : Fp [.ref q, .int x, .int 8] h = .ok (.int (xs.length + 1)) (h.set q (.lst (xs.map W.int ++ [.int x]))) := p1 hb
      refine .ok (w := .int (xs.length + 1)) (selfX_ok rfl ?_ (by rw [put_len]; exact Nat.le_refl _))
      simp [step, put, hb, e, p1, fldM, lk_door_number, lk_door_waiting, no_door_kind, no_door_fits, no_door_told, no_door_own_needs, no_door_own_did, no_door_needs, no_door_did, ne_kind_read, ne_kind_write, ne_kind_add, ne_read_kind, ne_read_write, ne_read_add, ne_write_kind, ne_write_read, ne_write_add, ne_add_kind, ne_add_read, ne_add_write, ne_kind_push, ne_kind_pull, ne_kind_count, ne_push_kind, ne_push_pull, ne_push_count, ne_pull_kind, ne_pull_push, ne_pull_count, ne_count_kind, ne_count_push, ne_count_pull, ne_kind_send, ne_kind_hear, ne_count_send, ne_count_hear, ne_send_kind, ne_send_count, ne_send_hear, ne_hear_kind, ne_hear_count, ne_hear_send, ne_kind_state, ne_kind_end, ne_state_kind, ne_state_end, ne_end_kind, ne_end_state, runB, startW, Out.res, xSeq, xIfS, xRet, xRetN, xDrop, xAsg, gN, xNext, xVar, xC, xNil, xCons, xBin, xUn, xCb, xBm, xAnd, xOr, xNot, xIf, xChain, xTup, xLst, xCall0, xNo, Res.bind, Res.of, iop, iopC, subM, divM, modM, mulM, powM, bandM, borM, ltM, gtM, geM, leM, negM, invM, addM, items, ixM, seqs, eqO, neO, eqM, flatW, eqFl, isiM, tyN, Kit.get, absM, sizeLine_eq, xFor, xLoop, xIl, xIt, xSl, xPn, xPs, slM, lenM, truM, intW, sumM, intM, maxM, minM, ordM, listM, isNonW, isNM, notNM, isBM, isnotBM, strW, joinM, xBmS, xIs, allBM, bolW, inM, keyW, dicts, ρC, splitM, gT2, xCallX, xMethX, xRaise, xTry, endX, fgt, xBmL, countM, slTM, isiX, tyX, kitA, clTy, catTM, tupleM, xLstN, countSM, indexSM, xLm, appM, xIr1, xRaiseI, xXf]
    · have p2 : Fp [.ref q, .int x, .int 8] h = .ex (.exc "Full" [] []) h := p2 (by omega)
      refine .ex (c := "Full") subP_Full (selfX_exc rfl ?_ (by rw [put_len]; exact Nat.le_refl _))
      simp [step, put, hb, hsame, e, p2, fldM, lk_door_number, lk_door_waiting, no_door_kind, no_door_fits, no_door_told, no_door_own_needs, no_door_own_did, no_door_needs, no_door_did, ne_kind_read, ne_kind_write, ne_kind_add, ne_read_kind, ne_read_write, ne_read_add, ne_write_kind, ne_write_read, ne_write_add, ne_add_kind, ne_add_read, ne_add_write, ne_kind_push, ne_kind_pull, ne_kind_count, ne_push_kind, ne_push_pull, ne_push_count, ne_pull_kind, ne_pull_push, ne_pull_count, ne_count_kind, ne_count_push, ne_count_pull, ne_kind_send, ne_kind_hear, ne_count_send, ne_count_hear, ne_send_kind, ne_send_count, ne_send_hear, ne_hear_kind, ne_hear_count, ne_hear_send, ne_kind_state, ne_kind_end, ne_state_kind, ne_state_end, ne_end_kind, ne_end_state, runB, startW, Out.res, xSeq, xIfS, xRet, xRetN, xDrop, xAsg, gN, xNext, xVar, xC, xNil, xCons, xBin, xUn, xCb, xBm, xAnd, xOr, xNot, xIf, xChain, xTup, xLst, xCall0, xNo, Res.bind, Res.of, iop, iopC, subM, divM, modM, mulM, powM, bandM, borM, ltM, gtM, geM, leM, negM, invM, addM, items, ixM, seqs, eqO, neO, eqM, flatW, eqFl, isiM, tyN, Kit.get, absM, sizeLine_eq, xFor, xLoop, xIl, xIt, xSl, xPn, xPs, slM, lenM, truM, intW, sumM, intM, maxM, minM, ordM, listM, isNonW, isNM, notNM, isBM, isnotBM, strW, joinM, xBmS, xIs, allBM, bolW, inM, keyW, dicts, ρC, splitM, gT2, xCallX, xMethX, xRaise, xTry, endX, fgt, xBmL, countM, slTM, isiX, tyX, kitA, clTy, catTM, tupleM, xLstN, countSM, indexSM, xLm, appM, xIr1, xRaiseI, xXf]
  · cases xs with
    | nil =>
      have q1 := q1 e2
      refine .ex (c := "Empty") subP_Empty (selfX_exc rfl ?_ (by rw [put_len]; exact Nat.le_refl _))
      have hsame : h.set q (.lst []) = h := hsame
      simp [step, put, hsame, e, q1, fldM, lk_door_number, lk_door_waiting, no_door_kind, no_door_fits, no_door_told, no_door_own_needs, no_door_own_did, no_door_needs, no_door_did, ne_kind_read, ne_kind_write, ne_kind_add, ne_read_kind, ne_read_write, ne_read_add, ne_write_kind, ne_write_read, ne_write_add, ne_add_kind, ne_add_read, ne_add_write, ne_kind_push, ne_kind_pull, ne_kind_count, ne_push_kind, ne_push_pull, ne_push_count, ne_pull_kind, ne_pull_push, ne_pull_count, ne_count_kind, ne_count_push, ne_count_pull, ne_kind_send, ne_kind_hear, ne_count_send, ne_count_hear, ne_send_kind, ne_send_count, ne_send_hear, ne_hear_kind, ne_hear_count, ne_hear_send, ne_kind_state, ne_kind_end, ne_state_kind, ne_state_end, ne_end_kind, ne_end_state, runB, startW, Out.res, xSeq, xIfS, xRet, xRetN, xDrop, xAsg, gN, xNext, xVar, xC, xNil, xCons, xBin, xUn, xCb, xBm, xAnd, xOr, xNot, xIf, xChain, xTup, xLst, xCall0, xNo, Res.bind, Res.of, iop, iopC, subM, divM, modM, mulM, powM, bandM, borM, ltM, gtM, geM, leM, negM, invM, addM, items, ixM, seqs, eqO, neO, eqM, flatW, eqFl, isiM, tyN, Kit.get, absM, sizeLine_eq, xFor, xLoop, xIl, xIt, xSl, xPn, xPs, slM, lenM, truM, intW, sumM, intM, maxM, minM, ordM, listM, isNonW, isNM, notNM, isBM, isnotBM, strW, joinM, xBmS, xIs, allBM, bolW, inM, keyW, dicts, ρC, splitM, gT2, xCallX, xMethX, xRaise, xTry, endX, fgt, xBmL, countM, slTM, isiX, tyX, kitA, clTy, catTM, tupleM, xLstN, countSM, indexSM, xLm, appM, xIr1, xRaiseI, xXf]
    | cons y ys =>
      have q2 := q2 (.int y) (ys.map W.int) e2
      refine .ok (w := .int y) (selfX_ok rfl ?_ (by rw [put_len]; exact Nat.le_refl _))
      simp [step, put, e, q2, fldM, lk_door_number, lk_door_waiting, no_door_kind, no_door_fits, no_door_told, no_door_own_needs, no_door_own_did, no_door_needs, no_door_did, ne_kind_read, ne_kind_write, ne_kind_add, ne_read_kind, ne_read_write, ne_read_add, ne_write_kind, ne_write_read, ne_write_add, ne_add_kind, ne_add_read, ne_add_write, ne_kind_push, ne_kind_pull, ne_kind_count, ne_push_kind, ne_push_pull, ne_push_count, ne_pull_kind, ne_pull_push, ne_pull_count, ne_count_kind, ne_count_push, ne_count_pull, ne_kind_send, ne_kind_hear, ne_count_send, ne_count_hear, ne_send_kind, ne_send_count, ne_send_hear, ne_hear_kind, ne_hear_count, ne_hear_send, ne_kind_state, ne_kind_end, ne_state_kind, ne_state_end, ne_end_kind, ne_end_state, runB, startW, Out.res, xSeq, xIfS, xRet, xRetN, xDrop, xAsg, gN, xNext, xVar, xC, xNil, xCons, xBin, xUn, xCb, xBm, xAnd, xOr, xNot, xIf, xChain, xTup, xLst, xCall0, xNo, Res.bind, Res.of, iop, iopC, subM, divM, modM, mulM, powM, bandM, borM, ltM, gtM, geM, leM, negM, invM, addM, items, ixM, seqs, eqO, neO, eqM, flatW, eqFl, isiM, tyN, Kit.get, absM, sizeLine_eq, xFor, xLoop, xIl, xIt, xSl, xPn, xPs, slM, lenM, truM, intW, sumM, intM, maxM, minM, ordM, listM, isNonW, isNM, notNM, isBM, isnotBM, strW, joinM, xBmS, xIs, allBM, bolW, inM, keyW, dicts, ρC, splitM, gT2, xCallX, xMethX, xRaise, xTry, endX, fgt, xBmL, countM, slTM, isiX, tyX, kitA, clTy, catTM, tupleM, xLstN, countSM, indexSM, xLm, appM, xIr1, xRaiseI, xXf]

def S_d3 (F : Fm) : Prop := ∀ h p q a z r d x, At h p q a (.post z r) → d ∈ dl 3 → ¬ d = Str.ofString "kind" → Did (F [.ref p, .str d, .int x] h) h p q a (step (.post z r) d x)
theorem ok_d3 (T : Tx K mg C) {f : Addr} {fd : FuncData} (R : Fun K "own_did" "Post.own_did" s_Post_own_did f fd) : ∃ F, FnOk P w K mg base (CXe true P w) 3 f fd ["self", "deed", "value"] (spH (T0 C) F) ∧ S_d3 F := by
  refine ⟨_, (funX R sc_Post_own_did (hB := fun cdv A outer s H E φ0 hr hx => (qb_cons (qs_if (qt_cmp (op_eqF hr) eqO_ok (q_var 1) q_str (nomark _)) (qb_cons (qs_fld (q_var 0) q_bl T.f_runs)
      (qb_one (qs_ret (q_fld (q_var 0) T.f_name)))) qb_nil)
      (qb_one (qs_ret (q_if (qt_tru (q_fld (q_var 0) T.f_runs)) q_str q_str)))))) selfX_told, ?_⟩
  intro h p q a z r d x A hd hk
  have e : h[p]? = some (postO a z r) := A
  have hl : p < h.length := A.lt
  have hs : ∀ o, (h.set p o)[p]? = some o := fun o => by simp [hl]
  have hsame := set_same e
  simp only [dl, List.mem_cons, List.not_mem_nil, or_false] at hd
  simp only [postO] at e hsame
  rcases hd with rfl | rfl | rfl
  · exact absurd rfl hk
  · cases r
    · refine .ok (w := .str "ended") (selfX_ok rfl ?_ (by rw [put_len]; exact Nat.le_refl _))
      simp [step, put, postO, hsame, e, fldM, lk_post_number, lk_post_name, lk_post_runs, no_post_kind, no_post_fits, no_post_told, no_post_own_needs, no_post_own_did, no_post_needs, no_post_did, ne_kind_read, ne_kind_write, ne_kind_add, ne_read_kind, ne_read_write, ne_read_add, ne_write_kind, ne_write_read, ne_write_add, ne_add_kind, ne_add_read, ne_add_write, ne_kind_push, ne_kind_pull, ne_kind_count, ne_push_kind, ne_push_pull, ne_push_count, ne_pull_kind, ne_pull_push, ne_pull_count, ne_count_kind, ne_count_push, ne_count_pull, ne_kind_send, ne_kind_hear, ne_count_send, ne_count_hear, ne_send_kind, ne_send_count, ne_send_hear, ne_hear_kind, ne_hear_count, ne_hear_send, ne_kind_state, ne_kind_end, ne_state_kind, ne_state_end, ne_end_kind, ne_end_state, runB, startW, Out.res, xSeq, xIfS, xRet, xRetN, xDrop, xAsg, gN, xNext, xVar, xC, xNil, xCons, xBin, xUn, xCb, xBm, xAnd, xOr, xNot, xIf, xChain, xTup, xLst, xCall0, xNo, Res.bind, Res.of, iop, iopC, subM, divM, modM, mulM, powM, bandM, borM, ltM, gtM, geM, leM, negM, invM, addM, items, ixM, seqs, eqO, neO, eqM, flatW, eqFl, isiM, tyN, Kit.get, absM, sizeLine_eq, xFor, xLoop, xIl, xIt, xSl, xPn, xPs, slM, lenM, truM, intW, sumM, intM, maxM, minM, ordM, listM, isNonW, isNM, notNM, isBM, isnotBM, strW, joinM, xBmS, xIs, allBM, bolW, inM, keyW, dicts, ρC, splitM, gT2, xCallX, xMethX, xRaise, xTry, endX, fgt, xBmL, countM, slTM, isiX, tyX, kitA, clTy, catTM, tupleM, xLstN, countSM, indexSM, xLm, appM, xIr1, xRaiseI, xXf]
    · refine .ok (w := .str "runs") (selfX_ok rfl ?_ (by rw [put_len]; exact Nat.le_refl _))
      simp [step, put, postO, hsame, e, fldM, lk_post_number, lk_post_name, lk_post_runs, no_post_kind, no_post_fits, no_post_told, no_post_own_needs, no_post_own_did, no_post_needs, no_post_did, ne_kind_read, ne_kind_write, ne_kind_add, ne_read_kind, ne_read_write, ne_read_add, ne_write_kind, ne_write_read, ne_write_add, ne_add_kind, ne_add_read, ne_add_write, ne_kind_push, ne_kind_pull, ne_kind_count, ne_push_kind, ne_push_pull, ne_push_count, ne_pull_kind, ne_pull_push, ne_pull_count, ne_count_kind, ne_count_push, ne_count_pull, ne_kind_send, ne_kind_hear, ne_count_send, ne_count_hear, ne_send_kind, ne_send_count, ne_send_hear, ne_hear_kind, ne_hear_count, ne_hear_send, ne_kind_state, ne_kind_end, ne_state_kind, ne_state_end, ne_end_kind, ne_end_state, runB, startW, Out.res, xSeq, xIfS, xRet, xRetN, xDrop, xAsg, gN, xNext, xVar, xC, xNil, xCons, xBin, xUn, xCb, xBm, xAnd, xOr, xNot, xIf, xChain, xTup, xLst, xCall0, xNo, Res.bind, Res.of, iop, iopC, subM, divM, modM, mulM, powM, bandM, borM, ltM, gtM, geM, leM, negM, invM, addM, items, ixM, seqs, eqO, neO, eqM, flatW, eqFl, isiM, tyN, Kit.get, absM, sizeLine_eq, xFor, xLoop, xIl, xIt, xSl, xPn, xPs, slM, lenM, truM, intW, sumM, intM, maxM, minM, ordM, listM, isNonW, isNM, notNM, isBM, isnotBM, strW, joinM, xBmS, xIs, allBM, bolW, inM, keyW, dicts, ρC, splitM, gT2, xCallX, xMethX, xRaise, xTry, endX, fgt, xBmL, countM, slTM, isiX, tyX, kitA, clTy, catTM, tupleM, xLstN, countSM, indexSM, xLm, appM, xIr1, xRaiseI, xXf]
  · refine .ok (w := .str z) (selfX_ok rfl ?_ (by rw [put_len]; exact Nat.le_refl _))
    simp [step, put, postO, e, hs, -List.getElem?_set_self, fldM, xSetF, putW, n_number_amount, n_amount_number, n_number_numbers, n_numbers_number, n_number_waiting, n_waiting_number, n_number_name, n_number_runs, n_name_number, n_name_runs, n_runs_number, n_runs_name, lk_post_number, lk_post_name, lk_post_runs, no_post_kind, no_post_fits, no_post_told, no_post_own_needs, no_post_own_did, no_post_needs, no_post_did, ne_kind_read, ne_kind_write, ne_kind_add, ne_read_kind, ne_read_write, ne_read_add, ne_write_kind, ne_write_read, ne_write_add, ne_add_kind, ne_add_read, ne_add_write, ne_kind_push, ne_kind_pull, ne_kind_count, ne_push_kind, ne_push_pull, ne_push_count, ne_pull_kind, ne_pull_push, ne_pull_count, ne_count_kind, ne_count_push, ne_count_pull, ne_kind_send, ne_kind_hear, ne_count_send, ne_count_hear, ne_send_kind, ne_send_count, ne_send_hear, ne_hear_kind, ne_hear_count, ne_hear_send, ne_kind_state, ne_kind_end, ne_state_kind, ne_state_end, ne_end_kind, ne_end_state, runB, startW, Out.res, xSeq, xIfS, xRet, xRetN, xDrop, xAsg, gN, xNext, xVar, xC, xNil, xCons, xBin, xUn, xCb, xBm, xAnd, xOr, xNot, xIf, xChain, xTup, xLst, xCall0, xNo, Res.bind, Res.of, iop, iopC, subM, divM, modM, mulM, powM, bandM, borM, ltM, gtM, geM, leM, negM, invM, addM, items, ixM, seqs, eqO, neO, eqM, flatW, eqFl, isiM, tyN, Kit.get, absM, sizeLine_eq, xFor, xLoop, xIl, xIt, xSl, xPn, xPs, slM, lenM, truM, intW, sumM, intM, maxM, minM, ordM, listM, isNonW, isNM, notNM, isBM, isnotBM, strW, joinM, xBmS, xIs, allBM, bolW, inM, keyW, dicts, ρC, splitM, gT2, xCallX, xMethX, xRaise, xTry, endX, fgt, xBmL, countM, slTM, isiX, tyX, kitA, clTy, catTM, tupleM, xLstN, countSM, indexSM, xLm, appM, xIr1, xRaiseI, xXf]

def cn (i : Nat) : Str := match i with
  | 0 => "Cell" | 1 => "Line" | 2 => "Door" | _ => "Post"
def dicK (i : Nat) : List (Key × W) := match i with
  | 0 => dic0 | 1 => dic1 | 2 => dic2 | _ => dic3
def nv (i : Nat) (d : Str) : Int := match getK (dicK i) (.inr d) with
  | some (.int n) => n
  | _ => 0
def fv (i : Nat) : Int := match i with
  | 0 => 3 | 1 => 3 | 2 => 13 | _ => 17
/-- the instance at its place -/
theorem At.ins {h : Mem} {p q : Nat} {a : Int} {s : TS} (A : At h p q a s) : ∃ fs, h[p]? = some (.ins (cn s.cls) fs) ∧ List.lookup (Str.ofString "kind") fs = none ∧ List.lookup (Str.ofString "fits") fs = none ∧ List.lookup (Str.ofString "told") fs = none ∧ List.lookup (Str.ofString "own_needs") fs = none ∧ List.lookup (Str.ofString "own_did") fs = none ∧ List.lookup (Str.ofString "needs") fs = none ∧ List.lookup (Str.ofString "did") fs = none := by
  cases s with
  | cell v => exact ⟨_, A, no_cell_kind, no_cell_fits, no_cell_told, no_cell_own_needs, no_cell_own_did, no_cell_needs, no_cell_did⟩
  | line xs => exact ⟨_, A.1, no_line_kind, no_line_fits, no_line_told, no_line_own_needs, no_line_own_did, no_line_needs, no_line_did⟩
  | door xs => exact ⟨_, A.1, no_door_kind, no_door_fits, no_door_told, no_door_own_needs, no_door_own_did, no_door_needs, no_door_did⟩
  | post z r => exact ⟨_, A, no_post_kind, no_post_fits, no_post_told, no_post_own_needs, no_post_own_did, no_post_needs, no_post_did⟩
theorem cls_lt (s : TS) : s.cls < 4 := by cases s <;> simp [TS.cls]
def sel4 (F1 F2 F3 F4 : Fm) (i : Nat) : Fm := match i with
  | 0 => F1 | 1 => F2 | 2 => F3 | _ => F4
theorem tab_cn {F1 F2 F3 F4 : Fm} {i : Nat} (hi : i < 4) : tab4 F1 F2 F3 F4 (cn i) = some (sel4 F1 F2 F3 F4 i) := by
  match i, hi with
  | 0, _ => rfl
  | 1, _ => rfl
  | 2, _ => rfl
  | 3, _ => rfl
theorem tab_same {F : Fm} {i : Nat} (hi : i < 4) : tab4 F F F F (cn i) = some F := by
  match i, hi with
  | 0, _ => rfl
  | 1, _ => rfl
  | 2, _ => rfl
  | 3, _ => rfl
def S_needs (F : Fm) : Prop := ∀ h p i fs, i < 4 → h[p]? = some (.ins (cn i) fs) → List.lookup (Str.ofString "own_needs") fs = none → ∀ d ∈ dl i, ∃ g, F [.ref p, .str d] h = .ok (.int (nv i d)) (h ++ g)
theorem ok_needs (T : Tx K mg C) {F0 F1 F2 F3 : Fm} (h0 : S_o0 F0) (h1 : S_o1 F1) (h2 : S_o2 F2) (h3 : S_o3 F3) (M_own_needs : TabAt P w K mg base (T0 C) 1 "own_needs" (tab4 F0 F1 F2 F3)) :
    ∃ F, (∀ {f : Addr} {fd : FuncData}, Fun K "needs" "Thing.needs" s_Thing_needs f fd → FnOk P w K mg base CX0 2 f fd ["self", "deed"] (spH (T0 C) F)) ∧ S_needs F := by
  refine ⟨_, fun {f fd} R => (funM R sc_Thing_needs (hB := fun cdv A outer s H E φ0 H0 hr => (qb_cons (qs_if (qt_not (qt_val (q_cb (isiX_ok T.ins T.exo T.kit) (call_isiX K rfl) rfl T.b_isinstance (by first | exact boot_b_isinstance | rfl) (qa_cons (q_var 1) (qa_cons (q_ty "str" rfl T.b_str (by first | exact boot_ty_str | rfl)) qa_nil))))) (qb_one qs_never) qb_nil)
      (qb_cons (qs_if (qt_cmp (op_eqF hr) eqO_ok (q_var 1) q_str (nomark _)) (qb_one (qs_ret q_int)) qb_nil)
      (qb_cons (qs_set (i := 2) sc_Thing_needs.nd rfl (Or.inl rfl) (fun _ _ _ => trivial) (q_meth0 T.ins M_own_needs hr (by decide) (q_var 0)))
      (qb_cons (qs_if (qt_cmp (op_notInV hr) inM_ok (q_var 1) (q_var 2) (by rfl)) (qb_one qs_never) qb_nil)
      (qb_one (qs_ret (q_dget hr (q_var 2) (q_var 1) (fun _ _ => rfl)))))))))) selfF_ex selfF_told, ?_⟩
  intro h p i fs hi e l d hd
  match i, hi with
  | 0, _ =>
    have e : h[p]? = some (.ins (Str.ofString "Cell") fs) := e
    have z1 := h0 h p
    have z2 : (h ++ [O.dic dic0])[h.length]? = some (.dic dic0) := by simp
    simp only [dl, List.mem_cons, List.not_mem_nil, or_false] at hd
    rcases hd with rfl | rfl | rfl | rfl
    · exact ⟨[], selfF_ok rfl (by rw [List.append_nil, show nv 0 (Str.ofString "kind") = 0 from by decide +kernel]; simp [kg_0, kg_1, kg_2, kg_3, kg_4, kg_5, kg_6, runB, startW, Out.res, xSeq, xIfS, xRet, xRetN, xDrop, xAsg, gN, xNext, xVar, xC, xNil, xCons, xBin, xUn, xCb, xBm, xAnd, xOr, xNot, xIf, xChain, xTup, xLst, xCall0, xNo, Res.bind, Res.of, iop, iopC, subM, divM, modM, mulM, powM, bandM, borM, ltM, gtM, geM, leM, negM, invM, addM, items, ixM, seqs, eqO, neO, eqM, flatW, eqFl, isiM, tyN, absM, sizeLine_eq, xFor, xLoop, xIl, xIt, xSl, xPn, xPs, slM, lenM, truM, intW, sumM, intM, maxM, minM, ordM, listM, isNonW, isNM, notNM, isBM, isnotBM, strW, joinM, xBmS, xIs, allBM, bolW, inM, keyW, dicts, ρC, splitM, gT2, xCallX, xMethX, xRaise, xTry, endX, fgt, xBmL, countM, slTM, isiX, tyX, kitA, clTy, catTM, tupleM, xLstN, countSM, indexSM, xLm, appM, xIr1, xRaiseI, xXf]) (by simp)⟩
    · exact ⟨[.dic dic0], selfF_ok rfl (by rw [show nv 0 (Str.ofString "read") = 1 from by decide +kernel]; simp [e, l, t4_0, z1, z2, xMeth, dgetM, gk0_0, ne_kind_read, ne_kind_write, ne_kind_add, ne_read_kind, ne_read_write, ne_read_add, ne_write_kind, ne_write_read, ne_write_add, ne_add_kind, ne_add_read, ne_add_write, ne_kind_push, ne_kind_pull, ne_kind_count, ne_push_kind, ne_push_pull, ne_push_count, ne_pull_kind, ne_pull_push, ne_pull_count, ne_count_kind, ne_count_push, ne_count_pull, ne_kind_send, ne_kind_hear, ne_count_send, ne_count_hear, ne_send_kind, ne_send_count, ne_send_hear, ne_hear_kind, ne_hear_count, ne_hear_send, ne_kind_state, ne_kind_end, ne_state_kind, ne_state_end, ne_end_kind, ne_end_state, kg_0, kg_1, kg_2, kg_3, kg_4, kg_5, kg_6, runB, startW, Out.res, xSeq, xIfS, xRet, xRetN, xDrop, xAsg, gN, xNext, xVar, xC, xNil, xCons, xBin, xUn, xCb, xBm, xAnd, xOr, xNot, xIf, xChain, xTup, xLst, xCall0, xNo, Res.bind, Res.of, iop, iopC, subM, divM, modM, mulM, powM, bandM, borM, ltM, gtM, geM, leM, negM, invM, addM, items, ixM, seqs, eqO, neO, eqM, flatW, eqFl, isiM, tyN, absM, sizeLine_eq, xFor, xLoop, xIl, xIt, xSl, xPn, xPs, slM, lenM, truM, intW, sumM, intM, maxM, minM, ordM, listM, isNonW, isNM, notNM, isBM, isnotBM, strW, joinM, xBmS, xIs, allBM, bolW, inM, keyW, dicts, ρC, splitM, gT2, xCallX, xMethX, xRaise, xTry, endX, fgt, xBmL, countM, slTM, isiX, tyX, kitA, clTy, catTM, tupleM, xLstN, countSM, indexSM, xLm, appM, xIr1, xRaiseI, xXf]) (by simp)⟩
    · exact ⟨[.dic dic0], selfF_ok rfl (by rw [show nv 0 (Str.ofString "write") = 2 from by decide +kernel]; simp [e, l, t4_0, z1, z2, xMeth, dgetM, gk0_1, ne_kind_read, ne_kind_write, ne_kind_add, ne_read_kind, ne_read_write, ne_read_add, ne_write_kind, ne_write_read, ne_write_add, ne_add_kind, ne_add_read, ne_add_write, ne_kind_push, ne_kind_pull, ne_kind_count, ne_push_kind, ne_push_pull, ne_push_count, ne_pull_kind, ne_pull_push, ne_pull_count, ne_count_kind, ne_count_push, ne_count_pull, ne_kind_send, ne_kind_hear, ne_count_send, ne_count_hear, ne_send_kind, ne_send_count, ne_send_hear, ne_hear_kind, ne_hear_count, ne_hear_send, ne_kind_state, ne_kind_end, ne_state_kind, ne_state_end, ne_end_kind, ne_end_state, kg_0, kg_1, kg_2, kg_3, kg_4, kg_5, kg_6, runB, startW, Out.res, xSeq, xIfS, xRet, xRetN, xDrop, xAsg, gN, xNext, xVar, xC, xNil, xCons, xBin, xUn, xCb, xBm, xAnd, xOr, xNot, xIf, xChain, xTup, xLst, xCall0, xNo, Res.bind, Res.of, iop, iopC, subM, divM, modM, mulM, powM, bandM, borM, ltM, gtM, geM, leM, negM, invM, addM, items, ixM, seqs, eqO, neO, eqM, flatW, eqFl, isiM, tyN, absM, sizeLine_eq, xFor, xLoop, xIl, xIt, xSl, xPn, xPs, slM, lenM, truM, intW, sumM, intM, maxM, minM, ordM, listM, isNonW, isNM, notNM, isBM, isnotBM, strW, joinM, xBmS, xIs, allBM, bolW, inM, keyW, dicts, ρC, splitM, gT2, xCallX, xMethX, xRaise, xTry, endX, fgt, xBmL, countM, slTM, isiX, tyX, kitA, clTy, catTM, tupleM, xLstN, countSM, indexSM, xLm, appM, xIr1, xRaiseI, xXf]) (by simp)⟩
    · exact ⟨[.dic dic0], selfF_ok rfl (by rw [show nv 0 (Str.ofString "add") = 3 from by decide +kernel]; simp [e, l, t4_0, z1, z2, xMeth, dgetM, gk0_2, ne_kind_read, ne_kind_write, ne_kind_add, ne_read_kind, ne_read_write, ne_read_add, ne_write_kind, ne_write_read, ne_write_add, ne_add_kind, ne_add_read, ne_add_write, ne_kind_push, ne_kind_pull, ne_kind_count, ne_push_kind, ne_push_pull, ne_push_count, ne_pull_kind, ne_pull_push, ne_pull_count, ne_count_kind, ne_count_push, ne_count_pull, ne_kind_send, ne_kind_hear, ne_count_send, ne_count_hear, ne_send_kind, ne_send_count, ne_send_hear, ne_hear_kind, ne_hear_count, ne_hear_send, ne_kind_state, ne_kind_end, ne_state_kind, ne_state_end, ne_end_kind, ne_end_state, kg_0, kg_1, kg_2, kg_3, kg_4, kg_5, kg_6, runB, startW, Out.res, xSeq, xIfS, xRet, xRetN, xDrop, xAsg, gN, xNext, xVar, xC, xNil, xCons, xBin, xUn, xCb, xBm, xAnd, xOr, xNot, xIf, xChain, xTup, xLst, xCall0, xNo, Res.bind, Res.of, iop, iopC, subM, divM, modM, mulM, powM, bandM, borM, ltM, gtM, geM, leM, negM, invM, addM, items, ixM, seqs, eqO, neO, eqM, flatW, eqFl, isiM, tyN, absM, sizeLine_eq, xFor, xLoop, xIl, xIt, xSl, xPn, xPs, slM, lenM, truM, intW, sumM, intM, maxM, minM, ordM, listM, isNonW, isNM, notNM, isBM, isnotBM, strW, joinM, xBmS, xIs, allBM, bolW, inM, keyW, dicts, ρC, splitM, gT2, xCallX, xMethX, xRaise, xTry, endX, fgt, xBmL, countM, slTM, isiX, tyX, kitA, clTy, catTM, tupleM, xLstN, countSM, indexSM, xLm, appM, xIr1, xRaiseI, xXf]) (by simp)⟩
  | 1, _ =>
    have e : h[p]? = some (.ins (Str.ofString "Line") fs) := e
    have z1 := h1 h p
    have z2 : (h ++ [O.dic dic1])[h.length]? = some (.dic dic1) := by simp
    simp only [dl, List.mem_cons, List.not_mem_nil, or_false] at hd
    rcases hd with rfl | rfl | rfl | rfl
    · exact ⟨[], selfF_ok rfl (by rw [List.append_nil, show nv 1 (Str.ofString "kind") = 0 from by decide +kernel]; simp [kg_0, kg_1, kg_2, kg_3, kg_4, kg_5, kg_6, runB, startW, Out.res, xSeq, xIfS, xRet, xRetN, xDrop, xAsg, gN, xNext, xVar, xC, xNil, xCons, xBin, xUn, xCb, xBm, xAnd, xOr, xNot, xIf, xChain, xTup, xLst, xCall0, xNo, Res.bind, Res.of, iop, iopC, subM, divM, modM, mulM, powM, bandM, borM, ltM, gtM, geM, leM, negM, invM, addM, items, ixM, seqs, eqO, neO, eqM, flatW, eqFl, isiM, tyN, absM, sizeLine_eq, xFor, xLoop, xIl, xIt, xSl, xPn, xPs, slM, lenM, truM, intW, sumM, intM, maxM, minM, ordM, listM, isNonW, isNM, notNM, isBM, isnotBM, strW, joinM, xBmS, xIs, allBM, bolW, inM, keyW, dicts, ρC, splitM, gT2, xCallX, xMethX, xRaise, xTry, endX, fgt, xBmL, countM, slTM, isiX, tyX, kitA, clTy, catTM, tupleM, xLstN, countSM, indexSM, xLm, appM, xIr1, xRaiseI, xXf]) (by simp)⟩
    · exact ⟨[.dic dic1], selfF_ok rfl (by rw [show nv 1 (Str.ofString "push") = 2 from by decide +kernel]; simp [e, l, t4_1, z1, z2, xMeth, dgetM, gk1_0, ne_kind_read, ne_kind_write, ne_kind_add, ne_read_kind, ne_read_write, ne_read_add, ne_write_kind, ne_write_read, ne_write_add, ne_add_kind, ne_add_read, ne_add_write, ne_kind_push, ne_kind_pull, ne_kind_count, ne_push_kind, ne_push_pull, ne_push_count, ne_pull_kind, ne_pull_push, ne_pull_count, ne_count_kind, ne_count_push, ne_count_pull, ne_kind_send, ne_kind_hear, ne_count_send, ne_count_hear, ne_send_kind, ne_send_count, ne_send_hear, ne_hear_kind, ne_hear_count, ne_hear_send, ne_kind_state, ne_kind_end, ne_state_kind, ne_state_end, ne_end_kind, ne_end_state, kg_0, kg_1, kg_2, kg_3, kg_4, kg_5, kg_6, runB, startW, Out.res, xSeq, xIfS, xRet, xRetN, xDrop, xAsg, gN, xNext, xVar, xC, xNil, xCons, xBin, xUn, xCb, xBm, xAnd, xOr, xNot, xIf, xChain, xTup, xLst, xCall0, xNo, Res.bind, Res.of, iop, iopC, subM, divM, modM, mulM, powM, bandM, borM, ltM, gtM, geM, leM, negM, invM, addM, items, ixM, seqs, eqO, neO, eqM, flatW, eqFl, isiM, tyN, absM, sizeLine_eq, xFor, xLoop, xIl, xIt, xSl, xPn, xPs, slM, lenM, truM, intW, sumM, intM, maxM, minM, ordM, listM, isNonW, isNM, notNM, isBM, isnotBM, strW, joinM, xBmS, xIs, allBM, bolW, inM, keyW, dicts, ρC, splitM, gT2, xCallX, xMethX, xRaise, xTry, endX, fgt, xBmL, countM, slTM, isiX, tyX, kitA, clTy, catTM, tupleM, xLstN, countSM, indexSM, xLm, appM, xIr1, xRaiseI, xXf]) (by simp)⟩
    · exact ⟨[.dic dic1], selfF_ok rfl (by rw [show nv 1 (Str.ofString "pull") = 3 from by decide +kernel]; simp [e, l, t4_1, z1, z2, xMeth, dgetM, gk1_1, ne_kind_read, ne_kind_write, ne_kind_add, ne_read_kind, ne_read_write, ne_read_add, ne_write_kind, ne_write_read, ne_write_add, ne_add_kind, ne_add_read, ne_add_write, ne_kind_push, ne_kind_pull, ne_kind_count, ne_push_kind, ne_push_pull, ne_push_count, ne_pull_kind, ne_pull_push, ne_pull_count, ne_count_kind, ne_count_push, ne_count_pull, ne_kind_send, ne_kind_hear, ne_count_send, ne_count_hear, ne_send_kind, ne_send_count, ne_send_hear, ne_hear_kind, ne_hear_count, ne_hear_send, ne_kind_state, ne_kind_end, ne_state_kind, ne_state_end, ne_end_kind, ne_end_state, kg_0, kg_1, kg_2, kg_3, kg_4, kg_5, kg_6, runB, startW, Out.res, xSeq, xIfS, xRet, xRetN, xDrop, xAsg, gN, xNext, xVar, xC, xNil, xCons, xBin, xUn, xCb, xBm, xAnd, xOr, xNot, xIf, xChain, xTup, xLst, xCall0, xNo, Res.bind, Res.of, iop, iopC, subM, divM, modM, mulM, powM, bandM, borM, ltM, gtM, geM, leM, negM, invM, addM, items, ixM, seqs, eqO, neO, eqM, flatW, eqFl, isiM, tyN, absM, sizeLine_eq, xFor, xLoop, xIl, xIt, xSl, xPn, xPs, slM, lenM, truM, intW, sumM, intM, maxM, minM, ordM, listM, isNonW, isNM, notNM, isBM, isnotBM, strW, joinM, xBmS, xIs, allBM, bolW, inM, keyW, dicts, ρC, splitM, gT2, xCallX, xMethX, xRaise, xTry, endX, fgt, xBmL, countM, slTM, isiX, tyX, kitA, clTy, catTM, tupleM, xLstN, countSM, indexSM, xLm, appM, xIr1, xRaiseI, xXf]) (by simp)⟩
    · exact ⟨[.dic dic1], selfF_ok rfl (by rw [show nv 1 (Str.ofString "count") = 1 from by decide +kernel]; simp [e, l, t4_1, z1, z2, xMeth, dgetM, gk1_2, ne_kind_read, ne_kind_write, ne_kind_add, ne_read_kind, ne_read_write, ne_read_add, ne_write_kind, ne_write_read, ne_write_add, ne_add_kind, ne_add_read, ne_add_write, ne_kind_push, ne_kind_pull, ne_kind_count, ne_push_kind, ne_push_pull, ne_push_count, ne_pull_kind, ne_pull_push, ne_pull_count, ne_count_kind, ne_count_push, ne_count_pull, ne_kind_send, ne_kind_hear, ne_count_send, ne_count_hear, ne_send_kind, ne_send_count, ne_send_hear, ne_hear_kind, ne_hear_count, ne_hear_send, ne_kind_state, ne_kind_end, ne_state_kind, ne_state_end, ne_end_kind, ne_end_state, kg_0, kg_1, kg_2, kg_3, kg_4, kg_5, kg_6, runB, startW, Out.res, xSeq, xIfS, xRet, xRetN, xDrop, xAsg, gN, xNext, xVar, xC, xNil, xCons, xBin, xUn, xCb, xBm, xAnd, xOr, xNot, xIf, xChain, xTup, xLst, xCall0, xNo, Res.bind, Res.of, iop, iopC, subM, divM, modM, mulM, powM, bandM, borM, ltM, gtM, geM, leM, negM, invM, addM, items, ixM, seqs, eqO, neO, eqM, flatW, eqFl, isiM, tyN, absM, sizeLine_eq, xFor, xLoop, xIl, xIt, xSl, xPn, xPs, slM, lenM, truM, intW, sumM, intM, maxM, minM, ordM, listM, isNonW, isNM, notNM, isBM, isnotBM, strW, joinM, xBmS, xIs, allBM, bolW, inM, keyW, dicts, ρC, splitM, gT2, xCallX, xMethX, xRaise, xTry, endX, fgt, xBmL, countM, slTM, isiX, tyX, kitA, clTy, catTM, tupleM, xLstN, countSM, indexSM, xLm, appM, xIr1, xRaiseI, xXf]) (by simp)⟩
  | 2, _ =>
    have e : h[p]? = some (.ins (Str.ofString "Door") fs) := e
    have z1 := h2 h p
    have z2 : (h ++ [O.dic dic2])[h.length]? = some (.dic dic2) := by simp
    simp only [dl, List.mem_cons, List.not_mem_nil, or_false] at hd
    rcases hd with rfl | rfl | rfl | rfl
    · exact ⟨[], selfF_ok rfl (by rw [List.append_nil, show nv 2 (Str.ofString "kind") = 0 from by decide +kernel]; simp [kg_0, kg_1, kg_2, kg_3, kg_4, kg_5, kg_6, runB, startW, Out.res, xSeq, xIfS, xRet, xRetN, xDrop, xAsg, gN, xNext, xVar, xC, xNil, xCons, xBin, xUn, xCb, xBm, xAnd, xOr, xNot, xIf, xChain, xTup, xLst, xCall0, xNo, Res.bind, Res.of, iop, iopC, subM, divM, modM, mulM, powM, bandM, borM, ltM, gtM, geM, leM, negM, invM, addM, items, ixM, seqs, eqO, neO, eqM, flatW, eqFl, isiM, tyN, absM, sizeLine_eq, xFor, xLoop, xIl, xIt, xSl, xPn, xPs, slM, lenM, truM, intW, sumM, intM, maxM, minM, ordM, listM, isNonW, isNM, notNM, isBM, isnotBM, strW, joinM, xBmS, xIs, allBM, bolW, inM, keyW, dicts, ρC, splitM, gT2, xCallX, xMethX, xRaise, xTry, endX, fgt, xBmL, countM, slTM, isiX, tyX, kitA, clTy, catTM, tupleM, xLstN, countSM, indexSM, xLm, appM, xIr1, xRaiseI, xXf]) (by simp)⟩
    · exact ⟨[.dic dic2], selfF_ok rfl (by rw [show nv 2 (Str.ofString "count") = 1 from by decide +kernel]; simp [e, l, t4_2, z1, z2, xMeth, dgetM, gk2_0, ne_kind_read, ne_kind_write, ne_kind_add, ne_read_kind, ne_read_write, ne_read_add, ne_write_kind, ne_write_read, ne_write_add, ne_add_kind, ne_add_read, ne_add_write, ne_kind_push, ne_kind_pull, ne_kind_count, ne_push_kind, ne_push_pull, ne_push_count, ne_pull_kind, ne_pull_push, ne_pull_count, ne_count_kind, ne_count_push, ne_count_pull, ne_kind_send, ne_kind_hear, ne_count_send, ne_count_hear, ne_send_kind, ne_send_count, ne_send_hear, ne_hear_kind, ne_hear_count, ne_hear_send, ne_kind_state, ne_kind_end, ne_state_kind, ne_state_end, ne_end_kind, ne_end_state, kg_0, kg_1, kg_2, kg_3, kg_4, kg_5, kg_6, runB, startW, Out.res, xSeq, xIfS, xRet, xRetN, xDrop, xAsg, gN, xNext, xVar, xC, xNil, xCons, xBin, xUn, xCb, xBm, xAnd, xOr, xNot, xIf, xChain, xTup, xLst, xCall0, xNo, Res.bind, Res.of, iop, iopC, subM, divM, modM, mulM, powM, bandM, borM, ltM, gtM, geM, leM, negM, invM, addM, items, ixM, seqs, eqO, neO, eqM, flatW, eqFl, isiM, tyN, absM, sizeLine_eq, xFor, xLoop, xIl, xIt, xSl, xPn, xPs, slM, lenM, truM, intW, sumM, intM, maxM, minM, ordM, listM, isNonW, isNM, notNM, isBM, isnotBM, strW, joinM, xBmS, xIs, allBM, bolW, inM, keyW, dicts, ρC, splitM, gT2, xCallX, xMethX, xRaise, xTry, endX, fgt, xBmL, countM, slTM, isiX, tyX, kitA, clTy, catTM, tupleM, xLstN, countSM, indexSM, xLm, appM, xIr1, xRaiseI, xXf]) (by simp)⟩
    · exact ⟨[.dic dic2], selfF_ok rfl (by rw [show nv 2 (Str.ofString "send") = 4 from by decide +kernel]; simp [e, l, t4_2, z1, z2, xMeth, dgetM, gk2_1, ne_kind_read, ne_kind_write, ne_kind_add, ne_read_kind, ne_read_write, ne_read_add, ne_write_kind, ne_write_read, ne_write_add, ne_add_kind, ne_add_read, ne_add_write, ne_kind_push, ne_kind_pull, ne_kind_count, ne_push_kind, ne_push_pull, ne_push_count, ne_pull_kind, ne_pull_push, ne_pull_count, ne_count_kind, ne_count_push, ne_count_pull, ne_kind_send, ne_kind_hear, ne_count_send, ne_count_hear, ne_send_kind, ne_send_count, ne_send_hear, ne_hear_kind, ne_hear_count, ne_hear_send, ne_kind_state, ne_kind_end, ne_state_kind, ne_state_end, ne_end_kind, ne_end_state, kg_0, kg_1, kg_2, kg_3, kg_4, kg_5, kg_6, runB, startW, Out.res, xSeq, xIfS, xRet, xRetN, xDrop, xAsg, gN, xNext, xVar, xC, xNil, xCons, xBin, xUn, xCb, xBm, xAnd, xOr, xNot, xIf, xChain, xTup, xLst, xCall0, xNo, Res.bind, Res.of, iop, iopC, subM, divM, modM, mulM, powM, bandM, borM, ltM, gtM, geM, leM, negM, invM, addM, items, ixM, seqs, eqO, neO, eqM, flatW, eqFl, isiM, tyN, absM, sizeLine_eq, xFor, xLoop, xIl, xIt, xSl, xPn, xPs, slM, lenM, truM, intW, sumM, intM, maxM, minM, ordM, listM, isNonW, isNM, notNM, isBM, isnotBM, strW, joinM, xBmS, xIs, allBM, bolW, inM, keyW, dicts, ρC, splitM, gT2, xCallX, xMethX, xRaise, xTry, endX, fgt, xBmL, countM, slTM, isiX, tyX, kitA, clTy, catTM, tupleM, xLstN, countSM, indexSM, xLm, appM, xIr1, xRaiseI, xXf]) (by simp)⟩
    · exact ⟨[.dic dic2], selfF_ok rfl (by rw [show nv 2 (Str.ofString "hear") = 8 from by decide +kernel]; simp [e, l, t4_2, z1, z2, xMeth, dgetM, gk2_2, ne_kind_read, ne_kind_write, ne_kind_add, ne_read_kind, ne_read_write, ne_read_add, ne_write_kind, ne_write_read, ne_write_add, ne_add_kind, ne_add_read, ne_add_write, ne_kind_push, ne_kind_pull, ne_kind_count, ne_push_kind, ne_push_pull, ne_push_count, ne_pull_kind, ne_pull_push, ne_pull_count, ne_count_kind, ne_count_push, ne_count_pull, ne_kind_send, ne_kind_hear, ne_count_send, ne_count_hear, ne_send_kind, ne_send_count, ne_send_hear, ne_hear_kind, ne_hear_count, ne_hear_send, ne_kind_state, ne_kind_end, ne_state_kind, ne_state_end, ne_end_kind, ne_end_state, kg_0, kg_1, kg_2, kg_3, kg_4, kg_5, kg_6, runB, startW, Out.res, xSeq, xIfS, xRet, xRetN, xDrop, xAsg, gN, xNext, xVar, xC, xNil, xCons, xBin, xUn, xCb, xBm, xAnd, xOr, xNot, xIf, xChain, xTup, xLst, xCall0, xNo, Res.bind, Res.of, iop, iopC, subM, divM, modM, mulM, powM, bandM, borM, ltM, gtM, geM, leM, negM, invM, addM, items, ixM, seqs, eqO, neO, eqM, flatW, eqFl, isiM, tyN, absM, sizeLine_eq, xFor, xLoop, xIl, xIt, xSl, xPn, xPs, slM, lenM, truM, intW, sumM, intM, maxM, minM, ordM, listM, isNonW, isNM, notNM, isBM, isnotBM, strW, joinM, xBmS, xIs, allBM, bolW, inM, keyW, dicts, ρC, splitM, gT2, xCallX, xMethX, xRaise, xTry, endX, fgt, xBmL, countM, slTM, isiX, tyX, kitA, clTy, catTM, tupleM, xLstN, countSM, indexSM, xLm, appM, xIr1, xRaiseI, xXf]) (by simp)⟩
  | 3, _ =>
    have e : h[p]? = some (.ins (Str.ofString "Post") fs) := e
    have z1 := h3 h p
    have z2 : (h ++ [O.dic dic3])[h.length]? = some (.dic dic3) := by simp
    simp only [dl, List.mem_cons, List.not_mem_nil, or_false] at hd
    rcases hd with rfl | rfl | rfl
    · exact ⟨[], selfF_ok rfl (by rw [List.append_nil, show nv 3 (Str.ofString "kind") = 0 from by decide +kernel]; simp [kg_0, kg_1, kg_2, kg_3, kg_4, kg_5, kg_6, runB, startW, Out.res, xSeq, xIfS, xRet, xRetN, xDrop, xAsg, gN, xNext, xVar, xC, xNil, xCons, xBin, xUn, xCb, xBm, xAnd, xOr, xNot, xIf, xChain, xTup, xLst, xCall0, xNo, Res.bind, Res.of, iop, iopC, subM, divM, modM, mulM, powM, bandM, borM, ltM, gtM, geM, leM, negM, invM, addM, items, ixM, seqs, eqO, neO, eqM, flatW, eqFl, isiM, tyN, absM, sizeLine_eq, xFor, xLoop, xIl, xIt, xSl, xPn, xPs, slM, lenM, truM, intW, sumM, intM, maxM, minM, ordM, listM, isNonW, isNM, notNM, isBM, isnotBM, strW, joinM, xBmS, xIs, allBM, bolW, inM, keyW, dicts, ρC, splitM, gT2, xCallX, xMethX, xRaise, xTry, endX, fgt, xBmL, countM, slTM, isiX, tyX, kitA, clTy, catTM, tupleM, xLstN, countSM, indexSM, xLm, appM, xIr1, xRaiseI, xXf]) (by simp)⟩
    · exact ⟨[.dic dic3], selfF_ok rfl (by rw [show nv 3 (Str.ofString "state") = 1 from by decide +kernel]; simp [e, l, t4_3, z1, z2, xMeth, dgetM, gk3_0, ne_kind_read, ne_kind_write, ne_kind_add, ne_read_kind, ne_read_write, ne_read_add, ne_write_kind, ne_write_read, ne_write_add, ne_add_kind, ne_add_read, ne_add_write, ne_kind_push, ne_kind_pull, ne_kind_count, ne_push_kind, ne_push_pull, ne_push_count, ne_pull_kind, ne_pull_push, ne_pull_count, ne_count_kind, ne_count_push, ne_count_pull, ne_kind_send, ne_kind_hear, ne_count_send, ne_count_hear, ne_send_kind, ne_send_count, ne_send_hear, ne_hear_kind, ne_hear_count, ne_hear_send, ne_kind_state, ne_kind_end, ne_state_kind, ne_state_end, ne_end_kind, ne_end_state, kg_0, kg_1, kg_2, kg_3, kg_4, kg_5, kg_6, runB, startW, Out.res, xSeq, xIfS, xRet, xRetN, xDrop, xAsg, gN, xNext, xVar, xC, xNil, xCons, xBin, xUn, xCb, xBm, xAnd, xOr, xNot, xIf, xChain, xTup, xLst, xCall0, xNo, Res.bind, Res.of, iop, iopC, subM, divM, modM, mulM, powM, bandM, borM, ltM, gtM, geM, leM, negM, invM, addM, items, ixM, seqs, eqO, neO, eqM, flatW, eqFl, isiM, tyN, absM, sizeLine_eq, xFor, xLoop, xIl, xIt, xSl, xPn, xPs, slM, lenM, truM, intW, sumM, intM, maxM, minM, ordM, listM, isNonW, isNM, notNM, isBM, isnotBM, strW, joinM, xBmS, xIs, allBM, bolW, inM, keyW, dicts, ρC, splitM, gT2, xCallX, xMethX, xRaise, xTry, endX, fgt, xBmL, countM, slTM, isiX, tyX, kitA, clTy, catTM, tupleM, xLstN, countSM, indexSM, xLm, appM, xIr1, xRaiseI, xXf]) (by simp)⟩
    · exact ⟨[.dic dic3], selfF_ok rfl (by rw [show nv 3 (Str.ofString "end") = 16 from by decide +kernel]; simp [e, l, t4_3, z1, z2, xMeth, dgetM, gk3_1, ne_kind_read, ne_kind_write, ne_kind_add, ne_read_kind, ne_read_write, ne_read_add, ne_write_kind, ne_write_read, ne_write_add, ne_add_kind, ne_add_read, ne_add_write, ne_kind_push, ne_kind_pull, ne_kind_count, ne_push_kind, ne_push_pull, ne_push_count, ne_pull_kind, ne_pull_push, ne_pull_count, ne_count_kind, ne_count_push, ne_count_pull, ne_kind_send, ne_kind_hear, ne_count_send, ne_count_hear, ne_send_kind, ne_send_count, ne_send_hear, ne_hear_kind, ne_hear_count, ne_hear_send, ne_kind_state, ne_kind_end, ne_state_kind, ne_state_end, ne_end_kind, ne_end_state, kg_0, kg_1, kg_2, kg_3, kg_4, kg_5, kg_6, runB, startW, Out.res, xSeq, xIfS, xRet, xRetN, xDrop, xAsg, gN, xNext, xVar, xC, xNil, xCons, xBin, xUn, xCb, xBm, xAnd, xOr, xNot, xIf, xChain, xTup, xLst, xCall0, xNo, Res.bind, Res.of, iop, iopC, subM, divM, modM, mulM, powM, bandM, borM, ltM, gtM, geM, leM, negM, invM, addM, items, ixM, seqs, eqO, neO, eqM, flatW, eqFl, isiM, tyN, absM, sizeLine_eq, xFor, xLoop, xIl, xIt, xSl, xPn, xPs, slM, lenM, truM, intW, sumM, intM, maxM, minM, ordM, listM, isNonW, isNM, notNM, isBM, isnotBM, strW, joinM, xBmS, xIs, allBM, bolW, inM, keyW, dicts, ρC, splitM, gT2, xCallX, xMethX, xRaise, xTry, endX, fgt, xBmL, countM, slTM, isiX, tyX, kitA, clTy, catTM, tupleM, xLstN, countSM, indexSM, xLm, appM, xIr1, xRaiseI, xXf]) (by simp)⟩
def S_did (F : Fm) : Prop := ∀ h p q a s d x, At h p q a s → s.wf → d ∈ dl s.cls → Did (F [.ref p, .str d, .int x] h) h p q a (step s d x)
theorem Did.app {r r' : Res} {h g : Mem} {p q : Nat} {a : Int} {s s' : TS} (A : At h p q a s) (hc : s'.cls = s.cls) (D : Did r (h ++ g) p q a s') (e : r' = r) : Did r' h p q a s' := by
  have hp := A.lt
  have key : K26.put (h ++ g) p q a s' = K26.put h p q a s' ++ g := by
    have := A.put_put (g := g) (s1 := s) (s2 := s') rfl hc
    rw [put_same A] at this
    exact this
  subst e
  obtain ⟨g', D⟩ := D
  rw [key] at D
  rcases D with ⟨w, D⟩ | ⟨c, hc, D⟩
  · exact ⟨g ++ g', .inl ⟨w, by rw [D, List.append_assoc]⟩⟩
  · exact ⟨g ++ g', .inr ⟨c, hc, by rw [D, List.append_assoc]⟩⟩
theorem step_kind (s : TS) (x : Int) : step s (Str.ofString "kind") x = s := by
  cases s with
  | cell v => simp [step, ne_kind_read, ne_kind_write, ne_kind_add, ne_read_kind, ne_read_write, ne_read_add, ne_write_kind, ne_write_read, ne_write_add, ne_add_kind, ne_add_read, ne_add_write, ne_kind_push, ne_kind_pull, ne_kind_count, ne_push_kind, ne_push_pull, ne_push_count, ne_pull_kind, ne_pull_push, ne_pull_count, ne_count_kind, ne_count_push, ne_count_pull, ne_kind_send, ne_kind_hear, ne_count_send, ne_count_hear, ne_send_kind, ne_send_count, ne_send_hear, ne_hear_kind, ne_hear_count, ne_hear_send, ne_kind_state, ne_kind_end, ne_state_kind, ne_state_end, ne_end_kind, ne_end_state]
  | line xs => simp [step, ne_kind_read, ne_kind_write, ne_kind_add, ne_read_kind, ne_read_write, ne_read_add, ne_write_kind, ne_write_read, ne_write_add, ne_add_kind, ne_add_read, ne_add_write, ne_kind_push, ne_kind_pull, ne_kind_count, ne_push_kind, ne_push_pull, ne_push_count, ne_pull_kind, ne_pull_push, ne_pull_count, ne_count_kind, ne_count_push, ne_count_pull, ne_kind_send, ne_kind_hear, ne_count_send, ne_count_hear, ne_send_kind, ne_send_count, ne_send_hear, ne_hear_kind, ne_hear_count, ne_hear_send, ne_kind_state, ne_kind_end, ne_state_kind, ne_state_end, ne_end_kind, ne_end_state]
  | door xs => simp [step, ne_kind_read, ne_kind_write, ne_kind_add, ne_read_kind, ne_read_write, ne_read_add, ne_write_kind, ne_write_read, ne_write_add, ne_add_kind, ne_add_read, ne_add_write, ne_kind_push, ne_kind_pull, ne_kind_count, ne_push_kind, ne_push_pull, ne_push_count, ne_pull_kind, ne_pull_push, ne_pull_count, ne_count_kind, ne_count_push, ne_count_pull, ne_kind_send, ne_kind_hear, ne_count_send, ne_count_hear, ne_send_kind, ne_send_count, ne_send_hear, ne_hear_kind, ne_hear_count, ne_hear_send, ne_kind_state, ne_kind_end, ne_state_kind, ne_state_end, ne_end_kind, ne_end_state]
  | post z r => simp [step, ne_kind_read, ne_kind_write, ne_kind_add, ne_read_kind, ne_read_write, ne_read_add, ne_write_kind, ne_write_read, ne_write_add, ne_add_kind, ne_add_read, ne_add_write, ne_kind_push, ne_kind_pull, ne_kind_count, ne_push_kind, ne_push_pull, ne_push_count, ne_pull_kind, ne_pull_push, ne_pull_count, ne_count_kind, ne_count_push, ne_count_pull, ne_kind_send, ne_kind_hear, ne_count_send, ne_count_hear, ne_send_kind, ne_send_count, ne_send_hear, ne_hear_kind, ne_hear_count, ne_hear_send, ne_kind_state, ne_kind_end, ne_state_kind, ne_state_end, ne_end_kind, ne_end_state]
theorem ok_did (T : Tx K mg C) {Fn K0 K1 K2 K3 D0 D1 D2 D3 : Fm} (hFn : S_needs Fn) (k0 : S_k0 K0) (k1 : S_k1 K1) (k2 : S_k2 K2) (k3 : S_k3 K3) (d0 : S_d0 D0) (d1 : S_d1 D1) (d2 : S_d2 D2) (d3 : S_d3 D3)
    (M_needs : TabAt P w K mg base (T0 C) 2 "needs" (tab4 Fn Fn Fn Fn)) (M_kind : TabX P w K mg base (T0 C) false 1 "kind" (tab4 K0 K1 K2 K3)) (M_own_did : TabX P w K mg base (T0 C) true 3 "own_did" (tab4 D0 D1 D2 D3)) :
    ∃ F, (∀ {f : Addr} {fd : FuncData}, Fun K "did" "Thing.did" s_Thing_did f fd → FnOk P w K mg base (CXe true P w) 4 f fd ["self", "deed", "value"] (spH (T0 C) F)) ∧ S_did F := by
  refine ⟨_, fun {f fd} R => (funX R sc_Thing_did (hB := fun cdv A outer s H E φ0 hr hx => (qb_cons (qs_expr (q_meth T.ins M_needs hr (by decide) (q_var 0) (qa_cons (q_var 1) qa_nil)))
      (qb_cons (qs_if (qt_cmp (op_eqF hr) eqO_ok (q_var 1) q_str (nomark _)) (qb_one (qs_ret (q_methX0 T.ins M_kind hx hr (by decide) (q_var 0)))) qb_nil)
      (qb_one (qs_ret (q_methX T.ins M_own_did hx hr (by decide) (q_var 0) (qa_cons (q_var 1) (qa_cons (q_var 2) qa_nil))))))))) selfX_told, ?_⟩
  intro h p q a s d x A hw hd
  obtain ⟨fs, e, l_kind, l_fits, l_told, l_own_needs, l_own_did, l_needs, l_did⟩ := A.ins
  obtain ⟨g, y⟩ := hFn h p s.cls fs (cls_lt s) e l_own_needs d hd
  have A2 := A.app g
  have e2 := kept (g := g) e
  have tn := tab_same (F := Fn) (cls_lt s)
  by_cases hk : d = Str.ofString "kind"
  · subst hk
    rw [step_kind]
    have tk := tab_cn (F1 := K0) (F2 := K1) (F3 := K2) (F4 := K3) (cls_lt s)
    obtain ⟨z, ek⟩ : ∃ z, sel4 K0 K1 K2 K3 s.cls [.ref p] (h ++ g) = .ok (.str z) (h ++ g) := by
      cases s with
      | cell v => exact ⟨_, k0 _ p⟩
      | line xs => exact ⟨_, k1 _ p⟩
      | door xs => exact ⟨_, k2 _ p⟩
      | post z r => exact ⟨_, k3 _ p⟩
    generalize sel4 K0 K1 K2 K3 s.cls = Fk at tk ek
    generalize cn s.cls = c at e e2 tn tk
    refine ⟨g, .inl ⟨.str z, ?_⟩⟩
    rw [put_same A]
    refine selfX_ok rfl ?_ (by simp)
    simp [e, e2, tn, tk, l_needs, l_kind, y, ek, xMeth, runB, startW, Out.res, xSeq, xIfS, xRet, xRetN, xDrop, xAsg, gN, xNext, xVar, xC, xNil, xCons, xBin, xUn, xCb, xBm, xAnd, xOr, xNot, xIf, xChain, xTup, xLst, xCall0, xNo, Res.bind, Res.of, iop, iopC, subM, divM, modM, mulM, powM, bandM, borM, ltM, gtM, geM, leM, negM, invM, addM, items, ixM, seqs, eqO, neO, eqM, flatW, eqFl, isiM, tyN, Kit.get, absM, sizeLine_eq, xFor, xLoop, xIl, xIt, xSl, xPn, xPs, slM, lenM, truM, intW, sumM, intM, maxM, minM, ordM, listM, isNonW, isNM, notNM, isBM, isnotBM, strW, joinM, xBmS, xIs, allBM, bolW, inM, keyW, dicts, ρC, splitM, gT2, xCallX, xMethX, xRaise, xTry, endX, fgt, xBmL, countM, slTM, isiX, tyX, kitA, clTy, catTM, tupleM, xLstN, countSM, indexSM, xLm, appM, xIr1, xRaiseI, xXf]
  · have to := tab_cn (F1 := D0) (F2 := D1) (F3 := D2) (F4 := D3) (cls_lt s)
    have dd : Did (sel4 D0 D1 D2 D3 s.cls [.ref p, .str d, .int x] (h ++ g)) (h ++ g) p q a (step s d x) := by
      cases s with
      | cell v => exact d0 _ p q a v d x A2 hd hk
      | line xs => exact d1 _ p q a xs d x A2 hw hd hk
      | door xs => exact d2 _ p q a xs d x A2 hw hd hk
      | post z r => exact d3 _ p q a z r d x A2 hd hk
    refine Did.app A (step_cls s d x) dd ?_
    generalize sel4 D0 D1 D2 D3 s.cls = Fo at to dd
    generalize cn s.cls = c at e e2 tn to
    obtain ⟨g', dd⟩ := dd
    rcases dd with ⟨w, dd⟩ | ⟨c', hc', dd⟩
    · rw [dd]
      refine selfX_ok rfl ?_ (by simp [put_len]; omega)
      simp [e, e2, tn, to, l_needs, l_own_did, y, dd, hk, xMeth, runB, startW, Out.res, xSeq, xIfS, xRet, xRetN, xDrop, xAsg, gN, xNext, xVar, xC, xNil, xCons, xBin, xUn, xCb, xBm, xAnd, xOr, xNot, xIf, xChain, xTup, xLst, xCall0, xNo, Res.bind, Res.of, iop, iopC, subM, divM, modM, mulM, powM, bandM, borM, ltM, gtM, geM, leM, negM, invM, addM, items, ixM, seqs, eqO, neO, eqM, flatW, eqFl, isiM, tyN, Kit.get, absM, sizeLine_eq, xFor, xLoop, xIl, xIt, xSl, xPn, xPs, slM, lenM, truM, intW, sumM, intM, maxM, minM, ordM, listM, isNonW, isNM, notNM, isBM, isnotBM, strW, joinM, xBmS, xIs, allBM, bolW, inM, keyW, dicts, ρC, splitM, gT2, xCallX, xMethX, xRaise, xTry, endX, fgt, xBmL, countM, slTM, isiX, tyX, kitA, clTy, catTM, tupleM, xLstN, countSM, indexSM, xLm, appM, xIr1, xRaiseI, xXf]
    · rw [dd]
      refine selfX_exc rfl ?_ (by simp [put_len]; omega)
      simp [e, e2, tn, to, l_needs, l_own_did, y, dd, hk, xMeth, runB, startW, Out.res, xSeq, xIfS, xRet, xRetN, xDrop, xAsg, gN, xNext, xVar, xC, xNil, xCons, xBin, xUn, xCb, xBm, xAnd, xOr, xNot, xIf, xChain, xTup, xLst, xCall0, xNo, Res.bind, Res.of, iop, iopC, subM, divM, modM, mulM, powM, bandM, borM, ltM, gtM, geM, leM, negM, invM, addM, items, ixM, seqs, eqO, neO, eqM, flatW, eqFl, isiM, tyN, Kit.get, absM, sizeLine_eq, xFor, xLoop, xIl, xIt, xSl, xPn, xPs, slM, lenM, truM, intW, sumM, intM, maxM, minM, ordM, listM, isNonW, isNM, notNM, isBM, isnotBM, strW, joinM, xBmS, xIs, allBM, bolW, inM, keyW, dicts, ρC, splitM, gT2, xCallX, xMethX, xRaise, xTry, endX, fgt, xBmL, countM, slTM, isiX, tyX, kitA, clTy, catTM, tupleM, xLstN, countSM, indexSM, xLm, appM, xIr1, xRaiseI, xXf]

def mkO (k n : Nat) : Mem := match k with
  | 0 => [cellO 0 0]
  | 1 => [cellO 1 0]
  | 2 => [lineO 2 (n + 1), .lst []]
  | 3 => [lineO 3 (n + 1), .lst []]
  | 4 => [doorO 4 (n + 1), .lst []]
  | 5 => [doorO 5 (n + 1), .lst []]
  | 6 => [postO 6 "a" true]
  | _ => [postO 7 "bob" true]
def ini (k : Nat) : TS := match k with
  | 0 => .cell 0
  | 1 => .cell 0
  | 2 => .line []
  | 3 => .line []
  | 4 => .door []
  | 5 => .door []
  | 6 => .post "a" true
  | _ => .post "bob" true
theorem ini_cls : ∀ k, k < 8 → (ini k).cls = k / 2
  | 0, _ => rfl
  | 1, _ => rfl
  | 2, _ => rfl
  | 3, _ => rfl
  | 4, _ => rfl
  | 5, _ => rfl
  | 6, _ => rfl
  | 7, _ => rfl
  | n + 8, h => absurd h (by omega)
theorem ini_wf (k : Nat) : (ini k).wf := by unfold ini; split <;> first | trivial | (show (0 : Nat) ≤ _; omega)
theorem ini_at (h : Mem) : ∀ k, k < 8 → At (h ++ mkO k h.length) h.length (h.length + 1) (k : Nat) (ini k)
  | 0, _ => by show (h ++ [cellO 0 0])[h.length]? = some _; simp
  | 1, _ => by show (h ++ [cellO 1 0])[h.length]? = some _; simp
  | 2, _ => ⟨by show (h ++ [lineO 2 (h.length + 1), .lst []])[h.length]? = some _; simp, by show (h ++ [lineO 2 (h.length + 1), .lst []])[h.length + 1]? = some _; rw [List.getElem?_append_right (by omega)]; simp, by omega⟩
  | 3, _ => ⟨by show (h ++ [lineO 3 (h.length + 1), .lst []])[h.length]? = some _; simp, by show (h ++ [lineO 3 (h.length + 1), .lst []])[h.length + 1]? = some _; rw [List.getElem?_append_right (by omega)]; simp, by omega⟩
  | 4, _ => ⟨by show (h ++ [doorO 4 (h.length + 1), .lst []])[h.length]? = some _; simp, by show (h ++ [doorO 4 (h.length + 1), .lst []])[h.length + 1]? = some _; rw [List.getElem?_append_right (by omega)]; simp, by omega⟩
  | 5, _ => ⟨by show (h ++ [doorO 5 (h.length + 1), .lst []])[h.length]? = some _; simp, by show (h ++ [doorO 5 (h.length + 1), .lst []])[h.length + 1]? = some _; rw [List.getElem?_append_right (by omega)]; simp, by omega⟩
  | 6, _ => by show (h ++ [postO 6 "a" true])[h.length]? = some _; simp
  | 7, _ => by show (h ++ [postO 7 "bob" true])[h.length]? = some _; simp
  | n + 8, h => absurd h (by omega)
def S_mis (F : Fm) : Prop := ∀ h n m, F [.int n, .int m] h = .ok (.int (Builtin.bitAnd n (Builtin.bitNot m))) h
theorem ok_mis (T : Tx K mg C) (R : DefAt K mg "missing" s_missing) : ∃ F, FnAt P w K mg base CX0 1 "missing" (spH (T0 C) F) ∧ S_mis F := by
  refine ⟨_, (def0s R sc_missing bd_missing (hB := fun f cdv A outer s H E φ0 H0 hr => (qb_one (qs_ret (q_bin op_and bandM_ok (q_var 0) (q_un un_inv invM_ok (q_var 1))))))), fun h n m => selfF_ok rfl ?_ (Nat.le_refl _)⟩
  simp [runB, startW, Out.res, xSeq, xIfS, xRet, xRetN, xDrop, xAsg, gN, xNext, xVar, xC, xNil, xCons, xBin, xUn, xCb, xBm, xAnd, xOr, xNot, xIf, xChain, xTup, xLst, xCall0, xNo, Res.bind, Res.of, iop, iopC, subM, divM, modM, mulM, powM, bandM, borM, ltM, gtM, geM, leM, negM, invM, addM, items, ixM, seqs, eqO, neO, eqM, flatW, eqFl, isiM, tyN, Kit.get, absM, sizeLine_eq, xFor, xLoop, xIl, xIt, xSl, xPn, xPs, slM, lenM, truM, intW, sumM, intM, maxM, minM, ordM, listM, isNonW, isNM, notNM, isBM, isnotBM, strW, joinM, xBmS, xIs, allBM, bolW, inM, keyW, dicts, ρC, splitM, gT2, xCallX, xMethX, xRaise, xTry, endX, fgt, xBmL, countM, slTM, isiX, tyX, kitA, clTy, catTM, tupleM, xLstN, countSM, indexSM, xLm, appM, xIr1, xRaiseI, xXf]
def S_within (F : Fm) : Prop := ∀ h i d, i < 4 → d ∈ dl i → F [.int (nv i d), .int (fv i)] h = .ok (.bl true) h
theorem band0 : ∀ i, i < 4 → ∀ d ∈ dl i, Builtin.bitAnd (nv i d) (Builtin.bitNot (fv i)) = 0
  | 0, _ => by decide +kernel
  | 1, _ => by decide +kernel
  | 2, _ => by decide +kernel
  | 3, _ => by decide +kernel
  | n + 4, h => absurd h (by omega)
theorem ok_within (T : Tx K mg C) {Fm_ : Fm} (hm : S_mis Fm_) (G_missing : FnAt P w K mg base CX0 1 "missing" (spH (T0 C) Fm_)) (R : DefAt K mg "within" s_within) : ∃ F, FnAt P w K mg base CX0 2 "within" (spH (T0 C) F) ∧ S_within F := by
  refine ⟨_, (def0s R sc_within bd_within (hB := fun f cdv A outer s H E φ0 H0 hr => (qb_one (qs_ret (q_cmp (op_eqF hr) eqO_ok (q_fn0 G_missing hr (by decide) rfl (qa_cons (q_var 0) (qa_cons (q_var 1) qa_nil))) q_int (nomark _)))))), fun h i d hi hd => selfF_ok rfl ?_ (Nat.le_refl _)⟩
  have e := hm h (nv i d) (fv i)
  rw [band0 i hi d hd] at e
  simp [e, runB, startW, Out.res, xSeq, xIfS, xRet, xRetN, xDrop, xAsg, gN, xNext, xVar, xC, xNil, xCons, xBin, xUn, xCb, xBm, xAnd, xOr, xNot, xIf, xChain, xTup, xLst, xCall0, xNo, Res.bind, Res.of, iop, iopC, subM, divM, modM, mulM, powM, bandM, borM, ltM, gtM, geM, leM, negM, invM, addM, items, ixM, seqs, eqO, neO, eqM, flatW, eqFl, isiM, tyN, Kit.get, absM, sizeLine_eq, xFor, xLoop, xIl, xIt, xSl, xPn, xPs, slM, lenM, truM, intW, sumM, intM, maxM, minM, ordM, listM, isNonW, isNM, notNM, isBM, isnotBM, strW, joinM, xBmS, xIs, allBM, bolW, inM, keyW, dicts, ρC, splitM, gT2, xCallX, xMethX, xRaise, xTry, endX, fgt, xBmL, countM, slTM, isiX, tyX, kitA, clTy, catTM, tupleM, xLstN, countSM, indexSM, xLm, appM, xIr1, xRaiseI, xXf]
def S_made (F : Fm) : Prop := ∀ h k, k < 8 → F [.int (k : Nat)] h = .ok (.ref h.length) (h ++ mkO k h.length)
theorem ok_made (T : Tx K mg C) {F0 F1 F2 F3 : Fm} (h0 : S_i0 F0) (h1 : S_i1 F1) (h2 : S_i2 F2) (h3 : S_i3 F3) (K_Cell : MkAt P w K mg base (T0 C) 2 "Cell" F0) (K_Line : MkAt P w K mg base (T0 C) 2 "Line" F1) (K_Door : MkAt P w K mg base (T0 C) 2 "Door" F2) (K_Post : MkAt P w K mg base (T0 C) 2 "Post" F3) (R : DefAt K mg "_law_made" s_l_made) : ∃ F, FnAt P w K mg base CX0 4 "_law_made" (spH (T0 C) F) ∧ S_made F := by
  refine ⟨_, (def0s R sc_l_made bd_l_made (hB := fun f cdv A outer s H E φ0 H0 hr => (qb_cons (qs_if (qt_cmp op_lt ltM_ok (q_var 0) q_int (nomark _)) (qb_one (qs_ret (q_make K_Cell hr (by decide) rfl (qa_cons (q_var 0) qa_nil)))) qb_nil)
      (qb_cons (qs_if (qt_cmp op_lt ltM_ok (q_var 0) q_int (nomark _)) (qb_one (qs_ret (q_make K_Line hr (by decide) rfl (qa_cons (q_var 0) qa_nil)))) qb_nil)
      (qb_cons (qs_if (qt_cmp op_lt ltM_ok (q_var 0) q_int (nomark _)) (qb_one (qs_ret (q_make K_Door hr (by decide) rfl (qa_cons (q_var 0) qa_nil)))) qb_nil)
      (qb_one (qs_ret (q_make K_Post hr (by decide) rfl (qa_cons (q_var 0) (qa_cons (q_ix ix_any ixM_ok (q_lst (qa_cons q_str (qa_cons q_str qa_nil))) (q_bin op_mod modM_ok (q_var 0) q_int) (fun _ _ => rfl)) qa_nil)))))))))), fun h k hk => ?_⟩
  have e0 := fun a => h0 (h ++ [.ins "Cell" []]) h.length a (by simp)
  have e1 := fun a => h1 (h ++ [.ins "Line" []]) h.length a (by simp)
  have e2 := fun a => h2 (h ++ [.ins "Door" []]) h.length a (by simp)
  have e3 := fun a z => h3 (h ++ [.ins "Post" []]) h.length a z (by simp)
  simp only [List.set_append_right _ _ (Nat.le_refl _), Nat.sub_self, List.set_cons_zero, List.length_append, List.length_cons, List.length_nil, List.append_assoc, List.cons_append, List.nil_append] at e0 e1 e2 e3
  match k, hk with
  | 0, _ => exact selfF_ok rfl (by simp [xMake, e0, e1, e2, e3, mkO, atI_0, atI_1, runB, startW, Out.res, xSeq, xIfS, xRet, xRetN, xDrop, xAsg, gN, xNext, xVar, xC, xNil, xCons, xBin, xUn, xCb, xBm, xAnd, xOr, xNot, xIf, xChain, xTup, xLst, xCall0, xNo, Res.bind, Res.of, iop, iopC, subM, divM, modM, mulM, powM, bandM, borM, ltM, gtM, geM, leM, negM, invM, addM, items, ixM, seqs, eqO, neO, eqM, flatW, eqFl, isiM, tyN, Kit.get, absM, sizeLine_eq, xFor, xLoop, xIl, xIt, xSl, xPn, xPs, slM, lenM, truM, intW, sumM, intM, maxM, minM, ordM, listM, isNonW, isNM, notNM, isBM, isnotBM, strW, joinM, xBmS, xIs, allBM, bolW, inM, keyW, dicts, ρC, splitM, gT2, xCallX, xMethX, xRaise, xTry, endX, fgt, xBmL, countM, slTM, isiX, tyX, kitA, clTy, catTM, tupleM, xLstN, countSM, indexSM, xLm, appM, xIr1, xRaiseI, xXf]) (by simp)
  | 1, _ => exact selfF_ok rfl (by simp [xMake, e0, e1, e2, e3, mkO, atI_0, atI_1, runB, startW, Out.res, xSeq, xIfS, xRet, xRetN, xDrop, xAsg, gN, xNext, xVar, xC, xNil, xCons, xBin, xUn, xCb, xBm, xAnd, xOr, xNot, xIf, xChain, xTup, xLst, xCall0, xNo, Res.bind, Res.of, iop, iopC, subM, divM, modM, mulM, powM, bandM, borM, ltM, gtM, geM, leM, negM, invM, addM, items, ixM, seqs, eqO, neO, eqM, flatW, eqFl, isiM, tyN, Kit.get, absM, sizeLine_eq, xFor, xLoop, xIl, xIt, xSl, xPn, xPs, slM, lenM, truM, intW, sumM, intM, maxM, minM, ordM, listM, isNonW, isNM, notNM, isBM, isnotBM, strW, joinM, xBmS, xIs, allBM, bolW, inM, keyW, dicts, ρC, splitM, gT2, xCallX, xMethX, xRaise, xTry, endX, fgt, xBmL, countM, slTM, isiX, tyX, kitA, clTy, catTM, tupleM, xLstN, countSM, indexSM, xLm, appM, xIr1, xRaiseI, xXf]) (by simp)
  | 2, _ => exact selfF_ok rfl (by simp [xMake, e0, e1, e2, e3, mkO, atI_0, atI_1, runB, startW, Out.res, xSeq, xIfS, xRet, xRetN, xDrop, xAsg, gN, xNext, xVar, xC, xNil, xCons, xBin, xUn, xCb, xBm, xAnd, xOr, xNot, xIf, xChain, xTup, xLst, xCall0, xNo, Res.bind, Res.of, iop, iopC, subM, divM, modM, mulM, powM, bandM, borM, ltM, gtM, geM, leM, negM, invM, addM, items, ixM, seqs, eqO, neO, eqM, flatW, eqFl, isiM, tyN, Kit.get, absM, sizeLine_eq, xFor, xLoop, xIl, xIt, xSl, xPn, xPs, slM, lenM, truM, intW, sumM, intM, maxM, minM, ordM, listM, isNonW, isNM, notNM, isBM, isnotBM, strW, joinM, xBmS, xIs, allBM, bolW, inM, keyW, dicts, ρC, splitM, gT2, xCallX, xMethX, xRaise, xTry, endX, fgt, xBmL, countM, slTM, isiX, tyX, kitA, clTy, catTM, tupleM, xLstN, countSM, indexSM, xLm, appM, xIr1, xRaiseI, xXf]) (by simp)
  | 3, _ => exact selfF_ok rfl (by simp [xMake, e0, e1, e2, e3, mkO, atI_0, atI_1, runB, startW, Out.res, xSeq, xIfS, xRet, xRetN, xDrop, xAsg, gN, xNext, xVar, xC, xNil, xCons, xBin, xUn, xCb, xBm, xAnd, xOr, xNot, xIf, xChain, xTup, xLst, xCall0, xNo, Res.bind, Res.of, iop, iopC, subM, divM, modM, mulM, powM, bandM, borM, ltM, gtM, geM, leM, negM, invM, addM, items, ixM, seqs, eqO, neO, eqM, flatW, eqFl, isiM, tyN, Kit.get, absM, sizeLine_eq, xFor, xLoop, xIl, xIt, xSl, xPn, xPs, slM, lenM, truM, intW, sumM, intM, maxM, minM, ordM, listM, isNonW, isNM, notNM, isBM, isnotBM, strW, joinM, xBmS, xIs, allBM, bolW, inM, keyW, dicts, ρC, splitM, gT2, xCallX, xMethX, xRaise, xTry, endX, fgt, xBmL, countM, slTM, isiX, tyX, kitA, clTy, catTM, tupleM, xLstN, countSM, indexSM, xLm, appM, xIr1, xRaiseI, xXf]) (by simp)
  | 4, _ => exact selfF_ok rfl (by simp [xMake, e0, e1, e2, e3, mkO, atI_0, atI_1, runB, startW, Out.res, xSeq, xIfS, xRet, xRetN, xDrop, xAsg, gN, xNext, xVar, xC, xNil, xCons, xBin, xUn, xCb, xBm, xAnd, xOr, xNot, xIf, xChain, xTup, xLst, xCall0, xNo, Res.bind, Res.of, iop, iopC, subM, divM, modM, mulM, powM, bandM, borM, ltM, gtM, geM, leM, negM, invM, addM, items, ixM, seqs, eqO, neO, eqM, flatW, eqFl, isiM, tyN, Kit.get, absM, sizeLine_eq, xFor, xLoop, xIl, xIt, xSl, xPn, xPs, slM, lenM, truM, intW, sumM, intM, maxM, minM, ordM, listM, isNonW, isNM, notNM, isBM, isnotBM, strW, joinM, xBmS, xIs, allBM, bolW, inM, keyW, dicts, ρC, splitM, gT2, xCallX, xMethX, xRaise, xTry, endX, fgt, xBmL, countM, slTM, isiX, tyX, kitA, clTy, catTM, tupleM, xLstN, countSM, indexSM, xLm, appM, xIr1, xRaiseI, xXf]) (by simp)
  | 5, _ => exact selfF_ok rfl (by simp [xMake, e0, e1, e2, e3, mkO, atI_0, atI_1, runB, startW, Out.res, xSeq, xIfS, xRet, xRetN, xDrop, xAsg, gN, xNext, xVar, xC, xNil, xCons, xBin, xUn, xCb, xBm, xAnd, xOr, xNot, xIf, xChain, xTup, xLst, xCall0, xNo, Res.bind, Res.of, iop, iopC, subM, divM, modM, mulM, powM, bandM, borM, ltM, gtM, geM, leM, negM, invM, addM, items, ixM, seqs, eqO, neO, eqM, flatW, eqFl, isiM, tyN, Kit.get, absM, sizeLine_eq, xFor, xLoop, xIl, xIt, xSl, xPn, xPs, slM, lenM, truM, intW, sumM, intM, maxM, minM, ordM, listM, isNonW, isNM, notNM, isBM, isnotBM, strW, joinM, xBmS, xIs, allBM, bolW, inM, keyW, dicts, ρC, splitM, gT2, xCallX, xMethX, xRaise, xTry, endX, fgt, xBmL, countM, slTM, isiX, tyX, kitA, clTy, catTM, tupleM, xLstN, countSM, indexSM, xLm, appM, xIr1, xRaiseI, xXf]) (by simp)
  | 6, _ => exact selfF_ok rfl (by simp [xMake, e0, e1, e2, e3, mkO, atI_0, atI_1, runB, startW, Out.res, xSeq, xIfS, xRet, xRetN, xDrop, xAsg, gN, xNext, xVar, xC, xNil, xCons, xBin, xUn, xCb, xBm, xAnd, xOr, xNot, xIf, xChain, xTup, xLst, xCall0, xNo, Res.bind, Res.of, iop, iopC, subM, divM, modM, mulM, powM, bandM, borM, ltM, gtM, geM, leM, negM, invM, addM, items, ixM, seqs, eqO, neO, eqM, flatW, eqFl, isiM, tyN, Kit.get, absM, sizeLine_eq, xFor, xLoop, xIl, xIt, xSl, xPn, xPs, slM, lenM, truM, intW, sumM, intM, maxM, minM, ordM, listM, isNonW, isNM, notNM, isBM, isnotBM, strW, joinM, xBmS, xIs, allBM, bolW, inM, keyW, dicts, ρC, splitM, gT2, xCallX, xMethX, xRaise, xTry, endX, fgt, xBmL, countM, slTM, isiX, tyX, kitA, clTy, catTM, tupleM, xLstN, countSM, indexSM, xLm, appM, xIr1, xRaiseI, xXf]) (by simp)
  | 7, _ => exact selfF_ok rfl (by simp [xMake, e0, e1, e2, e3, mkO, atI_0, atI_1, runB, startW, Out.res, xSeq, xIfS, xRet, xRetN, xDrop, xAsg, gN, xNext, xVar, xC, xNil, xCons, xBin, xUn, xCb, xBm, xAnd, xOr, xNot, xIf, xChain, xTup, xLst, xCall0, xNo, Res.bind, Res.of, iop, iopC, subM, divM, modM, mulM, powM, bandM, borM, ltM, gtM, geM, leM, negM, invM, addM, items, ixM, seqs, eqO, neO, eqM, flatW, eqFl, isiM, tyN, Kit.get, absM, sizeLine_eq, xFor, xLoop, xIl, xIt, xSl, xPn, xPs, slM, lenM, truM, intW, sumM, intM, maxM, minM, ordM, listM, isNonW, isNM, notNM, isBM, isnotBM, strW, joinM, xBmS, xIs, allBM, bolW, inM, keyW, dicts, ρC, splitM, gT2, xCallX, xMethX, xRaise, xTry, endX, fgt, xBmL, countM, slTM, isiX, tyX, kitA, clTy, catTM, tupleM, xLstN, countSM, indexSM, xLm, appM, xIr1, xRaiseI, xXf]) (by simp)
def S_deed (F : Fm) : Prop := ∀ h k c, k < 8 → ∃ d, d ∈ dl (k / 2) ∧ F [.int (k : Nat), .int c] h = .ok (.str d) h
theorem pick {l : List Str} {i : Int} (h0 : 0 ≤ i) (h1 : i < l.length) : ∃ y ∈ l, atI (l.map W.str) i = some (.str y) := by
  refine ⟨l.getD i.toNat "", ?_, ?_⟩
  · have h : i.toNat < l.length := by omega
    rw [List.getD_eq_getElem?_getD, List.getElem?_eq_getElem h]
    exact List.getElem_mem h
  · rw [atI_getD (.str "") h0 (by simpa using h1)]
    have h : i.toNat < l.length := by omega
    simp [List.getD, h]
theorem ok_deed (T : Tx K mg C) (R : DefAt K mg "_law_deed" s_l_deed) : ∃ F, FnAt P w K mg base CX0 1 "_law_deed" (spH (T0 C) F) ∧ S_deed F := by
  refine ⟨_, (def0s R sc_l_deed bd_l_deed (hB := fun f cdv A outer s H E φ0 H0 hr => (qb_one (qs_ret (q_ix ix_any ixM_ok (q_ix ix_any ixM_ok (q_lst (qa_cons (q_lst (qa_cons q_str (qa_cons q_str (qa_cons q_str (qa_cons q_str qa_nil))))) (qa_cons (q_lst (qa_cons q_str (qa_cons q_str (qa_cons q_str (qa_cons q_str (qa_cons q_str (qa_cons q_str qa_nil))))))) (qa_cons (q_lst (qa_cons q_str (qa_cons q_str (qa_cons q_str (qa_cons q_str (qa_cons q_str qa_nil)))))) (qa_cons (q_lst (qa_cons q_str (qa_cons q_str (qa_cons q_str (qa_cons q_str qa_nil))))) qa_nil))))) (q_bin op_fdiv divM_ok (q_var 0) q_int) (fun _ _ => rfl)) (q_bin op_mod modM_ok (q_var 1) (q_ix ix_any ixM_ok (q_lst (qa_cons q_int (qa_cons q_int (qa_cons q_int (qa_cons q_int qa_nil))))) (q_bin op_fdiv divM_ok (q_var 0) q_int) (fun _ _ => rfl))) (fun _ _ => rfl)))))), fun h k c hk => ?_⟩
  have hq : (k : Int) / 2 = ((k / 2 : Nat) : Int) := by omega
  have hk2 : k / 2 < 4 := by omega
  generalize (k : Int) = ki at hq
  generalize k / 2 = j at hq hk2
  match j, hk2 with
  | 0, _ =>
    have hq : ki / 2 = 0 := hq
    obtain ⟨y, hy, ey⟩ := pick (l := ["kind", "read", "write", "add"]) (i := c % 4) (by omega) (by show _ < (4 : Int); omega)
    simp only [List.map_cons, List.map_nil] at ey
    refine ⟨y, (by decide +kernel : ∀ y ∈ (["kind", "read", "write", "add"] : List Str), y ∈ dl 0) y hy, selfF_ok rfl ?_ (Nat.le_refl _)⟩
    simp [hq, ey, atI_0, atI_1, atI_2, atI_3, runB, startW, Out.res, xSeq, xIfS, xRet, xRetN, xDrop, xAsg, gN, xNext, xVar, xC, xNil, xCons, xBin, xUn, xCb, xBm, xAnd, xOr, xNot, xIf, xChain, xTup, xLst, xCall0, xNo, Res.bind, Res.of, iop, iopC, subM, divM, modM, mulM, powM, bandM, borM, ltM, gtM, geM, leM, negM, invM, addM, items, ixM, seqs, eqO, neO, eqM, flatW, eqFl, isiM, tyN, Kit.get, absM, sizeLine_eq, xFor, xLoop, xIl, xIt, xSl, xPn, xPs, slM, lenM, truM, intW, sumM, intM, maxM, minM, ordM, listM, isNonW, isNM, notNM, isBM, isnotBM, strW, joinM, xBmS, xIs, allBM, bolW, inM, keyW, dicts, ρC, splitM, gT2, xCallX, xMethX, xRaise, xTry, endX, fgt, xBmL, countM, slTM, isiX, tyX, kitA, clTy, catTM, tupleM, xLstN, countSM, indexSM, xLm, appM, xIr1, xRaiseI, xXf]
  | 1, _ =>
    have hq : ki / 2 = 1 := hq
    obtain ⟨y, hy, ey⟩ := pick (l := ["kind", "push", "pull", "count", "push", "push"]) (i := c % 6) (by omega) (by show _ < (6 : Int); omega)
    simp only [List.map_cons, List.map_nil] at ey
    refine ⟨y, (by decide +kernel : ∀ y ∈ (["kind", "push", "pull", "count", "push", "push"] : List Str), y ∈ dl 1) y hy, selfF_ok rfl ?_ (Nat.le_refl _)⟩
    simp [hq, ey, atI_0, atI_1, atI_2, atI_3, runB, startW, Out.res, xSeq, xIfS, xRet, xRetN, xDrop, xAsg, gN, xNext, xVar, xC, xNil, xCons, xBin, xUn, xCb, xBm, xAnd, xOr, xNot, xIf, xChain, xTup, xLst, xCall0, xNo, Res.bind, Res.of, iop, iopC, subM, divM, modM, mulM, powM, bandM, borM, ltM, gtM, geM, leM, negM, invM, addM, items, ixM, seqs, eqO, neO, eqM, flatW, eqFl, isiM, tyN, Kit.get, absM, sizeLine_eq, xFor, xLoop, xIl, xIt, xSl, xPn, xPs, slM, lenM, truM, intW, sumM, intM, maxM, minM, ordM, listM, isNonW, isNM, notNM, isBM, isnotBM, strW, joinM, xBmS, xIs, allBM, bolW, inM, keyW, dicts, ρC, splitM, gT2, xCallX, xMethX, xRaise, xTry, endX, fgt, xBmL, countM, slTM, isiX, tyX, kitA, clTy, catTM, tupleM, xLstN, countSM, indexSM, xLm, appM, xIr1, xRaiseI, xXf]
  | 2, _ =>
    have hq : ki / 2 = 2 := hq
    obtain ⟨y, hy, ey⟩ := pick (l := ["kind", "count", "send", "hear", "send"]) (i := c % 5) (by omega) (by show _ < (5 : Int); omega)
    simp only [List.map_cons, List.map_nil] at ey
    refine ⟨y, (by decide +kernel : ∀ y ∈ (["kind", "count", "send", "hear", "send"] : List Str), y ∈ dl 2) y hy, selfF_ok rfl ?_ (Nat.le_refl _)⟩
    simp [hq, ey, atI_0, atI_1, atI_2, atI_3, runB, startW, Out.res, xSeq, xIfS, xRet, xRetN, xDrop, xAsg, gN, xNext, xVar, xC, xNil, xCons, xBin, xUn, xCb, xBm, xAnd, xOr, xNot, xIf, xChain, xTup, xLst, xCall0, xNo, Res.bind, Res.of, iop, iopC, subM, divM, modM, mulM, powM, bandM, borM, ltM, gtM, geM, leM, negM, invM, addM, items, ixM, seqs, eqO, neO, eqM, flatW, eqFl, isiM, tyN, Kit.get, absM, sizeLine_eq, xFor, xLoop, xIl, xIt, xSl, xPn, xPs, slM, lenM, truM, intW, sumM, intM, maxM, minM, ordM, listM, isNonW, isNM, notNM, isBM, isnotBM, strW, joinM, xBmS, xIs, allBM, bolW, inM, keyW, dicts, ρC, splitM, gT2, xCallX, xMethX, xRaise, xTry, endX, fgt, xBmL, countM, slTM, isiX, tyX, kitA, clTy, catTM, tupleM, xLstN, countSM, indexSM, xLm, appM, xIr1, xRaiseI, xXf]
  | 3, _ =>
    have hq : ki / 2 = 3 := hq
    obtain ⟨y, hy, ey⟩ := pick (l := ["kind", "state", "state", "end"]) (i := c % 4) (by omega) (by show _ < (4 : Int); omega)
    simp only [List.map_cons, List.map_nil] at ey
    refine ⟨y, (by decide +kernel : ∀ y ∈ (["kind", "state", "state", "end"] : List Str), y ∈ dl 3) y hy, selfF_ok rfl ?_ (Nat.le_refl _)⟩
    simp [hq, ey, atI_0, atI_1, atI_2, atI_3, runB, startW, Out.res, xSeq, xIfS, xRet, xRetN, xDrop, xAsg, gN, xNext, xVar, xC, xNil, xCons, xBin, xUn, xCb, xBm, xAnd, xOr, xNot, xIf, xChain, xTup, xLst, xCall0, xNo, Res.bind, Res.of, iop, iopC, subM, divM, modM, mulM, powM, bandM, borM, ltM, gtM, geM, leM, negM, invM, addM, items, ixM, seqs, eqO, neO, eqM, flatW, eqFl, isiM, tyN, Kit.get, absM, sizeLine_eq, xFor, xLoop, xIl, xIt, xSl, xPn, xPs, slM, lenM, truM, intW, sumM, intM, maxM, minM, ordM, listM, isNonW, isNM, notNM, isBM, isnotBM, strW, joinM, xBmS, xIs, allBM, bolW, inM, keyW, dicts, ρC, splitM, gT2, xCallX, xMethX, xRaise, xTry, endX, fgt, xBmL, countM, slTM, isiX, tyX, kitA, clTy, catTM, tupleM, xLstN, countSM, indexSM, xLm, appM, xIr1, xRaiseI, xXf]
def enc (y : Str × Int) : W := .tup [.str y.1, .int y.2]
def S_done (F : Fm) : Prop := ∀ h p q a s (l : List (Str × Int)) dw, At h p q a s → s.wf → (∀ y ∈ l, y.1 ∈ dl s.cls) → (dw = .tl (l.map enc) ∨ ∃ n, dw = .ref n ∧ h[n]? = some (.lst (l.map enc)) ∧ n ≠ p ∧ n ≠ q) → ∃ g, F [.ref p, dw] h = .ok (tv (fold s l)) (put h p q a (fold s l) ++ g)
theorem ok_done (T : Tx K mg C) {Fd K0 K1 K2 K3 T1 T2 T3 T4 : Fm} (hd : S_did Fd) (k0 : S_k0 K0) (k1 : S_k1 K1) (k2 : S_k2 K2) (k3 : S_k3 K3) (t0 : S_t0 T1) (t1 : S_t1 T2) (t2 : S_t2 T3) (t3 : S_t3 T4)
    (M_did : TabX P w K mg base (T0 C) true 4 "did" (tab4 Fd Fd Fd Fd)) (M_kind : TabX P w K mg base (T0 C) false 1 "kind" (tab4 K0 K1 K2 K3)) (M_told : TabAt P w K mg base (T0 C) 1 "told" (tab4 T1 T2 T3 T4)) (R : DefAt K mg "_law_done" s_l_done) : ∃ F, FnAt P w K mg base CX0 5 "_law_done" (spH (T0 C) F) ∧ S_done F := by
  refine ⟨_, (def0s R sc_l_done bd_l_done (hB := fun f cdv A outer s H E φ0 H0 hr => (qb_cons (qs_forS (tg_tup2 (fun _ _ _ => trivial) (fun _ _ _ => trivial)) PassesOwn.never rfl (qi_list (q_var 1)) (qg_tupV (n := 2) rfl (qgs_cons (qg_name (i := 2) sc_l_done.nd rfl (Or.inl rfl)) (qgs_cons (qg_name (i := 3) sc_l_done.nd rfl (Or.inl rfl)) qgs_nil)))
        (qb_one (qs_try0 (asg := []) T.cat_PassError rfl (fun _ => trivial) rfl rfl
          (fun E1 pn1 φ1 H1 sg1 xw1 hsg hx => (qb_one (qs_expr (q_methX T.ins M_did hx hr (by decide) (q_var 0) (qa_cons (q_var 2) (qa_cons (q_var 3) qa_nil))))))
          (fun e1 φ1 H1 => have hr := hr.mark (some (.ref e1)); (qb_one (qs_expr (q_methX0 T.ins M_kind (xok_no fun _ _ h => h) hr (by decide) (q_var 0))))))))
      (qb_one (qs_ret (q_meth0 T.ins M_told hr (by decide) (q_var 0))))))), fun h p q a s l dw A hw hdl hdw => ?_⟩
  generalize hB : xTry0 _ _ _ _ = B
  have turn : ∀ (s' : TS) (y : Str × Int), s'.cls = s.cls → s'.wf → y.1 ∈ dl s.cls → ∀ g v2 v3, ∃ ρ1, gT2 2 3 (enc y) [some (.ref p), some dw, v2, v3] = some ρ1 ∧ ∃ g', B ρ1 (put h p q a s' ++ g) = .nx [some (.ref p), some dw, some (.str y.1), some (.int y.2)] (put h p q a (step s' y.1 y.2) ++ g') := by
    intro s' y hc hw' hy g v2 v3
    refine ⟨_, rfl, ?_⟩
    have A' := A.put hc g
    obtain ⟨g1, D⟩ := hd _ p q a s' y.1 y.2 A' hw' (by rw [hc]; exact hy)
    have hc2 : (step s' y.1 y.2).cls = s.cls := (step_cls _ _ _).trans hc
    rw [A.put_put hc hc2] at D
    obtain ⟨fs, e, l_kind, l_fits, l_told, l_own_needs, l_own_did, l_needs, l_did⟩ := A'.ins
    have tn := tab_same (F := Fd) (cls_lt s')
    refine ⟨g ++ g1, ?_⟩
    rw [← hB]
    rw [List.append_assoc] at D
    generalize hcn : cn s'.cls = c at e tn
    rcases D with ⟨w, D⟩ | ⟨c', hc', D⟩
    · simp [e, tn, l_did, D, xTry0, runB, startW, Out.res, xSeq, xIfS, xRet, xRetN, xDrop, xAsg, gN, xNext, xVar, xC, xNil, xCons, xBin, xUn, xCb, xBm, xAnd, xOr, xNot, xIf, xChain, xTup, xLst, xCall0, xNo, Res.bind, Res.of, iop, iopC, subM, divM, modM, mulM, powM, bandM, borM, ltM, gtM, geM, leM, negM, invM, addM, items, ixM, seqs, eqO, neO, eqM, flatW, eqFl, isiM, tyN, Kit.get, absM, sizeLine_eq, xFor, xLoop, xIl, xIt, xSl, xPn, xPs, slM, lenM, truM, intW, sumM, intM, maxM, minM, ordM, listM, isNonW, isNM, notNM, isBM, isnotBM, strW, joinM, xBmS, xIs, allBM, bolW, inM, keyW, dicts, ρC, splitM, gT2, xCallX, xMethX, xRaise, xTry, endX, fgt, xBmL, countM, slTM, isiX, tyX, kitA, clTy, catTM, tupleM, xLstN, countSM, indexSM, xLm, appM, xIr1, xRaiseI, xXf]
    · have A2 := A.put hc2 (g ++ g1)
      obtain ⟨fs2, e2, m_kind, m_fits, m_told, m_own_needs, m_own_did, m_needs, m_did⟩ := A2.ins
      have tk := tab_cn (F1 := K0) (F2 := K1) (F3 := K2) (F4 := K3) (cls_lt (step s' y.1 y.2))
      obtain ⟨z, ek⟩ : ∃ z, sel4 K0 K1 K2 K3 (step s' y.1 y.2).cls [.ref p] (put h p q a (step s' y.1 y.2) ++ (g ++ g1)) = .ok (.str z) (put h p q a (step s' y.1 y.2) ++ (g ++ g1)) := by
        cases (step s' y.1 y.2) with
        | cell v => exact ⟨_, k0 _ p⟩
        | line xs => exact ⟨_, k1 _ p⟩
        | door xs => exact ⟨_, k2 _ p⟩
        | post z r => exact ⟨_, k3 _ p⟩
      generalize sel4 K0 K1 K2 K3 (step s' y.1 y.2).cls = Fk at tk ek
      generalize cn (step s' y.1 y.2).cls = c2 at e2 tk
      simp [e, tn, l_did, D, hc', e2, tk, m_kind, ek, xTry0, endX0, runB, startW, Out.res, xSeq, xIfS, xRet, xRetN, xDrop, xAsg, gN, xNext, xVar, xC, xNil, xCons, xBin, xUn, xCb, xBm, xAnd, xOr, xNot, xIf, xChain, xTup, xLst, xCall0, xNo, Res.bind, Res.of, iop, iopC, subM, divM, modM, mulM, powM, bandM, borM, ltM, gtM, geM, leM, negM, invM, addM, items, ixM, seqs, eqO, neO, eqM, flatW, eqFl, isiM, tyN, Kit.get, absM, sizeLine_eq, xFor, xLoop, xIl, xIt, xSl, xPn, xPs, slM, lenM, truM, intW, sumM, intM, maxM, minM, ordM, listM, isNonW, isNM, notNM, isBM, isnotBM, strW, joinM, xBmS, xIs, allBM, bolW, inM, keyW, dicts, ρC, splitM, gT2, xCallX, xMethX, xRaise, xTry, endX, fgt, xBmL, countM, slTM, isiX, tyX, kitA, clTy, catTM, tupleM, xLstN, countSM, indexSM, xLm, appM, xIr1, xRaiseI, xXf]
  have tolds : ∀ (s' : TS) g, s'.cls = s.cls → s'.wf → ∃ c fs Ft, (put h p q a s' ++ g)[p]? = some (.ins c fs) ∧ List.lookup (Str.ofString "told") fs = none ∧ tab4 T1 T2 T3 T4 c = some Ft ∧ Ft [.ref p] (put h p q a s' ++ g) = .ok (tv s') (put h p q a s' ++ g) := by
    intro s' g hc hw'
    have A' := A.put hc g
    obtain ⟨fs, e, l_kind, l_fits, l_told, l_own_needs, l_own_did, l_needs, l_did⟩ := A'.ins
    refine ⟨_, fs, _, e, l_told, tab_cn (cls_lt s'), ?_⟩
    cases s' with
    | cell v => exact t0 _ p q a v A' hw'
    | line xs => exact t1 _ p q a xs A' hw'
    | door xs => exact t2 _ p q a xs A' hw'
    | post z r => exact t3 _ p q a z r A' hw'
  have loop : ∀ (l : List (Str × Int)) (s' : TS), s'.cls = s.cls → s'.wf → (∀ y ∈ l, y.1 ∈ dl s.cls) → ∀ g v2 v3, ∃ g' v2' v3', xLoop (gT2 2 3) B (l.map enc) [some (.ref p), some dw, v2, v3] (put h p q a s' ++ g) = .nx [some (.ref p), some dw, v2', v3'] (put h p q a (fold s' l) ++ g') := by
    intro l
    induction l with
    | nil => exact fun s' _ _ _ g v2 v3 => ⟨g, v2, v3, rfl⟩
    | cons y l ih =>
      intro s' hc hw' hy g v2 v3
      obtain ⟨ρ1, e1, g1, e2⟩ := turn s' y hc hw' (hy y List.mem_cons_self) g v2 v3
      obtain ⟨g2, w2, w3, e3⟩ := ih (step s' y.1 y.2) ((step_cls _ _ _).trans hc) (step_wf hw') (fun z hz => hy z (List.mem_cons_of_mem _ hz)) g1 _ _
      refine ⟨g2, w2, w3, ?_⟩
      rw [List.map_cons]
      unfold xLoop
      rw [e1]
      dsimp only
      rw [e2]
      exact e3
  have loopS : ∀ (n : Nat) (all : List W), (∀ s' g, s'.cls = s.cls → (put h p q a s' ++ g)[n]? = some (.lst all)) → ∀ (l : List (Str × Int)) (s' : TS), s'.cls = s.cls → s'.wf → (∀ y ∈ l, y.1 ∈ dl s.cls) → ∀ g v2 v3, ∃ g' v2' v3', xLoopS (gT2 2 3) B n all (l.map enc) [some (.ref p), some dw, v2, v3] (put h p q a s' ++ g) = .nx [some (.ref p), some dw, v2', v3'] (put h p q a (fold s' l) ++ g') := by
    intro n all hall l
    induction l with
    | nil =>
      intro s' hc _ _ g v2 v3
      refine ⟨g, v2, v3, ?_⟩
      rw [List.map_nil]
      unfold xLoopS
      rw [if_pos (hall s' g hc)]
      rfl
    | cons y l ih =>
      intro s' hc hw' hy g v2 v3
      obtain ⟨ρ1, e1, g1, e2⟩ := turn s' y hc hw' (hy y List.mem_cons_self) g v2 v3
      obtain ⟨g2, w2, w3, e3⟩ := ih (step s' y.1 y.2) ((step_cls _ _ _).trans hc) (step_wf hw') (fun z hz => hy z (List.mem_cons_of_mem _ hz)) g1 _ _
      refine ⟨g2, w2, w3, ?_⟩
      rw [List.map_cons]
      unfold xLoopS
      rw [if_pos (hall s' g hc), e1]
      dsimp only
      rw [e2]
      exact e3
  have start : put h p q a s ++ [] = h := by rw [put_same A, List.append_nil]
  have cf := fold_cls l s
  have wf := fold_wf l hw
  rcases hdw with rfl | ⟨n, rfl, en, np, nq⟩
  · obtain ⟨g, v2, v3, e⟩ := loop l s rfl hw hdl [] none none
    rw [start] at e
    obtain ⟨c, fs, Ft, q1, q2, q3, q4⟩ := tolds (fold s l) g cf wf
    refine ⟨g, selfF_ok rfl ?_ (by simp [put_len])⟩
    refine congrArg Out.res (?_ : _ = Out.rt _ _)
    refine (xSeq_nx ((xForS_none (ws := l.map enc) (h' := h) (by simp [runB, startW, Out.res, xSeq, xIfS, xRet, xRetN, xDrop, xAsg, gN, xNext, xVar, xC, xNil, xCons, xBin, xUn, xCb, xBm, xAnd, xOr, xNot, xIf, xChain, xTup, xLst, xCall0, xNo, Res.bind, Res.of, iop, iopC, subM, divM, modM, mulM, powM, bandM, borM, ltM, gtM, geM, leM, negM, invM, addM, items, ixM, seqs, eqO, neO, eqM, flatW, eqFl, isiM, tyN, Kit.get, absM, sizeLine_eq, xFor, xLoop, xIl, xIt, xSl, xPn, xPs, slM, lenM, truM, intW, sumM, intM, maxM, minM, ordM, listM, isNonW, isNM, notNM, isBM, isnotBM, strW, joinM, xBmS, xIs, allBM, bolW, inM, keyW, dicts, ρC, splitM, gT2, xCallX, xMethX, xRaise, xTry, endX, fgt, xBmL, countM, slTM, isiX, tyX, kitA, clTy, catTM, tupleM, xLstN, countSM, indexSM, xLm, appM, xIr1, xRaiseI, xXf])).trans e)).trans ?_
    simp [q1, q2, q3, q4, xMeth, runB, startW, Out.res, xSeq, xIfS, xRet, xRetN, xDrop, xAsg, gN, xNext, xVar, xC, xNil, xCons, xBin, xUn, xCb, xBm, xAnd, xOr, xNot, xIf, xChain, xTup, xLst, xCall0, xNo, Res.bind, Res.of, iop, iopC, subM, divM, modM, mulM, powM, bandM, borM, ltM, gtM, geM, leM, negM, invM, addM, items, ixM, seqs, eqO, neO, eqM, flatW, eqFl, isiM, tyN, Kit.get, absM, sizeLine_eq, xFor, xLoop, xIl, xIt, xSl, xPn, xPs, slM, lenM, truM, intW, sumM, intM, maxM, minM, ordM, listM, isNonW, isNM, notNM, isBM, isnotBM, strW, joinM, xBmS, xIs, allBM, bolW, inM, keyW, dicts, ρC, splitM, gT2, xCallX, xMethX, xRaise, xTry, endX, fgt, xBmL, countM, slTM, isiX, tyX, kitA, clTy, catTM, tupleM, xLstN, countSM, indexSM, xLm, appM, xIr1, xRaiseI, xXf]
  · have hn : n < h.length := (List.getElem?_eq_some_iff.mp en).1
    obtain ⟨g, v2, v3, e⟩ := loopS n (l.map enc) (fun s' g _ => by rw [put_get hn np nq]; exact en) l s rfl hw hdl [] none none
    rw [start] at e
    obtain ⟨c, fs, Ft, q1, q2, q3, q4⟩ := tolds (fold s l) g cf wf
    refine ⟨g, selfF_ok rfl ?_ (by simp [put_len])⟩
    refine congrArg Out.res (?_ : _ = Out.rt _ _)
    refine (xSeq_nx ((xForS_loop (n := n) (ws := l.map enc) (h' := h) (by simp [en, runB, startW, Out.res, xSeq, xIfS, xRet, xRetN, xDrop, xAsg, gN, xNext, xVar, xC, xNil, xCons, xBin, xUn, xCb, xBm, xAnd, xOr, xNot, xIf, xChain, xTup, xLst, xCall0, xNo, Res.bind, Res.of, iop, iopC, subM, divM, modM, mulM, powM, bandM, borM, ltM, gtM, geM, leM, negM, invM, addM, items, ixM, seqs, eqO, neO, eqM, flatW, eqFl, isiM, tyN, Kit.get, absM, sizeLine_eq, xFor, xLoop, xIl, xIt, xSl, xPn, xPs, slM, lenM, truM, intW, sumM, intM, maxM, minM, ordM, listM, isNonW, isNM, notNM, isBM, isnotBM, strW, joinM, xBmS, xIs, allBM, bolW, inM, keyW, dicts, ρC, splitM, gT2, xCallX, xMethX, xRaise, xTry, endX, fgt, xBmL, countM, slTM, isiX, tyX, kitA, clTy, catTM, tupleM, xLstN, countSM, indexSM, xLm, appM, xIr1, xRaiseI, xXf])).trans e)).trans ?_
    simp [q1, q2, q3, q4, xMeth, runB, startW, Out.res, xSeq, xIfS, xRet, xRetN, xDrop, xAsg, gN, xNext, xVar, xC, xNil, xCons, xBin, xUn, xCb, xBm, xAnd, xOr, xNot, xIf, xChain, xTup, xLst, xCall0, xNo, Res.bind, Res.of, iop, iopC, subM, divM, modM, mulM, powM, bandM, borM, ltM, gtM, geM, leM, negM, invM, addM, items, ixM, seqs, eqO, neO, eqM, flatW, eqFl, isiM, tyN, Kit.get, absM, sizeLine_eq, xFor, xLoop, xIl, xIt, xSl, xPn, xPs, slM, lenM, truM, intW, sumM, intM, maxM, minM, ordM, listM, isNonW, isNM, notNM, isBM, isnotBM, strW, joinM, xBmS, xIs, allBM, bolW, inM, keyW, dicts, ρC, splitM, gT2, xCallX, xMethX, xRaise, xTry, endX, fgt, xBmL, countM, slTM, isiX, tyX, kitA, clTy, catTM, tupleM, xLstN, countSM, indexSM, xLm, appM, xIr1, xRaiseI, xXf]

def Pa (k : Nat) : Nat := match k with
  | 0 => 1
  | 1 => 2
  | 2 => 3
  | 3 => 5
  | 4 => 7
  | 5 => 9
  | 6 => 11
  | _ => 12
def Qa (k : Nat) : Nat := match k with
  | 0 => 1
  | 1 => 2
  | 2 => 4
  | 3 => 6
  | 4 => 8
  | 5 => 10
  | 6 => 11
  | _ => 12
theorem pq_ne : ∀ j, j < 8 → ∀ k, k < 8 → j ≠ k → Pa j ≠ Pa k ∧ Pa j ≠ Qa k ∧ Qa j ≠ Pa k ∧ Qa j ≠ Qa k := by decide +kernel
theorem pq_in : ∀ k, k < 8 → 1 ≤ Pa k ∧ Pa k ≤ 12 ∧ 1 ≤ Qa k ∧ Qa k ≤ 12 := by decide +kernel
def thW : List W := [.ref 1, .ref 2, .ref 3, .ref 5, .ref 7, .ref 9, .ref 11, .ref 12]
def deW : List W := [.ref 14, .ref 15, .ref 16, .ref 17, .ref 18, .ref 19, .ref 20, .ref 21]
theorem th_at : ∀ k, k < 8 → atI thW (k : Nat) = some (.ref (Pa k))
  | 0, _ => atI_0
  | 1, _ => atI_1
  | 2, _ => atI_2
  | 3, _ => atI_3
  | 4, _ => atI_4
  | 5, _ => atI_5
  | 6, _ => atI_6
  | 7, _ => atI_7
  | n + 8, h => absurd h (by omega)
theorem de_at : ∀ k, k < 8 → atI deW (k : Nat) = some (.ref (14 + k))
  | 0, _ => atI_0
  | 1, _ => atI_1
  | 2, _ => atI_2
  | 3, _ => atI_3
  | 4, _ => atI_4
  | 5, _ => atI_5
  | 6, _ => atI_6
  | 7, _ => atI_7
  | n + 8, h => absurd h (by omega)
def seL (s : Nat → TS) : List W := (List.range 8).map fun k => tv (s k)
theorem se_at (s : Nat → TS) {k : Nat} (hk : k < 8) : atI (seL s) (k : Nat) = some (tv (s k)) := by
  rw [atI_get' (by omega)]
  simp [seL, hk]
def up {α : Type} (f : Nat → α) (k : Nat) (v : α) : Nat → α := fun i => if i = k then v else f i
theorem up_same {α : Type} (f : Nat → α) (k : Nat) (v : α) : up f k v k = v := if_pos rfl
theorem up_ne {α : Type} (f : Nat → α) {k i : Nat} (v : α) (h : i ≠ k) : up f k v i = f i := if_neg h
theorem se_up (s : Nat → TS) {k : Nat} (hk : k < 8) (v : TS) : (seL s).set k (tv v) = seL (up s k v) := by
  refine List.ext_getElem? fun i => ?_
  rw [List.getElem?_set]
  unfold seL
  by_cases h : k = i
  · subst h
    simp [hk, up_same]
  · rw [if_neg h, List.getElem?_map, List.getElem?_map]
    by_cases hi : i < 8
    · simp [hi, up_ne s v (fun e => h e.symm)]
    · simp [hi]
structure J (h : Mem) (s : Nat → TS) (ds : Nat → List (Str × Int)) (sn : Nat → TS) : Prop where
  ln : 23 ≤ h.length
  o0 : h[0]? = some (.lst thW)
  o13 : h[13]? = some (.lst deW)
  pl : ∀ k, k < 8 → At h (Pa k) (Qa k) (k : Nat) (s k)
  de : ∀ k, k < 8 → h[14 + k]? = some (.lst ((ds k).map enc))
  fo : ∀ k, k < 8 → s k = fold (ini k) (ds k)
  dk : ∀ k, k < 8 → ∀ y ∈ ds k, y.1 ∈ dl (k / 2)
  se : h[22]? = some (.lst (seL sn))
theorem J.frame {h h' : Mem} {s sn : Nat → TS} {ds : Nat → List (Str × Int)} (j : J h s ds sn) (hl : 23 ≤ h'.length) (hf : ∀ i, i < 23 → h'[i]? = h[i]?) : J h' s ds sn :=
  ⟨hl, (hf 0 (by omega)).trans j.o0, (hf 13 (by omega)).trans j.o13, fun k hk => (j.pl k hk).frame (hf _ (by have := pq_in k hk; omega)) (hf _ (by have := pq_in k hk; omega)), fun k hk => (hf _ (by omega)).trans (j.de k hk), j.fo, j.dk, (hf 22 (by omega)).trans j.se⟩
theorem J.cls {h : Mem} {s sn : Nat → TS} {ds : Nat → List (Str × Int)} (j : J h s ds sn) {k : Nat} (hk : k < 8) : (s k).cls = k / 2 := by rw [j.fo k hk, fold_cls, ini_cls k hk]
theorem J.wf {h : Mem} {s sn : Nat → TS} {ds : Nat → List (Str × Int)} (j : J h s ds sn) {k : Nat} (hk : k < 8) : (s k).wf := by rw [j.fo k hk]; exact fold_wf _ (ini_wf k)
/-- a deed done on one of the things -/
theorem J.deed {h g g3 : Mem} {s sn : Nat → TS} {ds : Nat → List (Str × Int)} (j : J h s ds sn) {k : Nat} (hk : k < 8) {d : Str} {x : Int} (hd : d ∈ dl (k / 2)) :
    J (put ((h ++ g).set (14 + k) (.lst ((ds k).map enc ++ [enc (d, x)]))) (Pa k) (Qa k) (k : Nat) (step (s k) d x) ++ g3) (up s k (step (s k) d x)) (up ds k (ds k ++ [(d, x)])) sn := by
  have pq := pq_in k hk
  have hln := j.ln
  have hg : ∀ i, i < 23 → i ≠ 14 + k → ((h ++ g).set (14 + k) (O.lst ((ds k).map enc ++ [enc (d, x)])))[i]? = h[i]? := fun i hi hn => by
    rw [List.getElem?_set_ne (by omega), List.getElem?_append_left (by omega)]
  have h2l : ((h ++ g).set (14 + k) (O.lst ((ds k).map enc ++ [enc (d, x)]))).length = h.length + g.length := by simp
  have hp : ∀ i, i < 23 → i ≠ Pa k → i ≠ Qa k → i ≠ 14 + k → (put ((h ++ g).set (14 + k) (O.lst ((ds k).map enc ++ [enc (d, x)]))) (Pa k) (Qa k) (k : Nat) (step (s k) d x) ++ g3)[i]? = h[i]? := fun i hi h1 h2 h3 => by
    rw [put_get (by rw [h2l]; omega) h1 h2, hg i hi h3]
  refine ⟨by rw [List.length_append, put_len, h2l]; omega, (hp 0 (by omega) (by omega) (by omega) (by omega)).trans j.o0, (hp 13 (by omega) (by omega) (by omega) (by omega)).trans j.o13, fun i hi => ?_, fun i hi => ?_, fun i hi => ?_, fun i hi => ?_, (hp 22 (by omega) (by omega) (by omega) (by omega)).trans j.se⟩
  · by_cases e : i = k
    · subst e
      rw [up_same]
      have A : At ((h ++ g).set (14 + i) (O.lst ((ds i).map enc ++ [enc (d, x)]))) (Pa i) (Qa i) (i : Nat) (s i) := (j.pl i hi).frame (hg _ (by omega) (by omega)) (hg _ (by omega) (by omega))
      exact A.put (step_cls _ _ _) g3
    · rw [up_ne _ _ e]
      have ne := pq_ne i hi k hk e
      have pi := pq_in i hi
      exact (j.pl i hi).frame (hp _ (by omega) ne.1 ne.2.1 (by omega)) (hp _ (by omega) ne.2.2.1 ne.2.2.2 (by omega))
  · by_cases e : i = k
    · subst e
      rw [up_same, put_get (by rw [h2l]; omega) (by omega) (by omega), List.getElem?_set_self (by simp; omega)]
      simp
    · rw [up_ne _ _ e]
      exact (hp _ (by omega) (by omega) (by omega) (by omega)).trans (j.de i hi)
  · by_cases e : i = k
    · subst e
      rw [up_same, up_same, fold_snoc, ← j.fo i hi]
    · rw [up_ne _ _ e, up_ne _ _ e]; exact j.fo i hi
  · by_cases e : i = k
    · subst e
      rw [up_same]
      intro y hy
      rcases List.mem_append.mp hy with hy | hy
      · exact j.dk i hi y hy
      · rw [List.mem_singleton.mp hy]; exact hd
    · rw [up_ne _ _ e]; exact j.dk i hi
theorem xBlkS_map {α : Type} {src : Option Nat} {all : List W} {G : Tg} {c el : Ex} {ρ0 : Sg} {h1 : Mem} (g r : α → W) (hs : ∀ acc, srcP src all (h1 ++ [.lst acc])) : ∀ (l : List α) (acc : List W), acc.length + l.length ≤ 1000 →
    (∀ a ∈ l, ∀ acc, ∃ ρ, G (g a) ρ0 = some ρ ∧ c ρ (h1 ++ [.lst acc]) = .ok (.bl true) (h1 ++ [.lst acc]) ∧ el ρ (h1 ++ [.lst acc]) = .ok (r a) (h1 ++ [.lst acc])) → xBlkS src all G c el ρ0 h1.length (l.map g) (h1 ++ [.lst acc]) = some (h1 ++ [.lst (acc ++ l.map r)])
  | [], acc, _, _ => by
    rw [List.map_nil, List.map_nil, List.append_nil]
    unfold xBlkS
    rw [if_pos (hs acc)]
  | a :: l, acc, hl, ht => by
    obtain ⟨ρ, e1, e2, e3⟩ := ht a List.mem_cons_self acc
    have ih := xBlkS_map g r hs l (acc ++ [r a]) (by simp at hl ⊢; omega) fun b hb => ht b (List.mem_cons_of_mem _ hb)
    rw [List.map_cons, List.map_cons]
    unfold xBlkS
    rw [if_pos (hs acc), e1]
    dsimp only
    rw [e2]
    dsimp only
    rw [e3]
    dsimp only
    have e4 : (h1 ++ [O.lst acc])[h1.length]? = some (.lst acc) := by simp
    have e5 : (h1 ++ [O.lst acc]).set h1.length (.lst (acc ++ [r a])) = h1 ++ [.lst (acc ++ [r a])] := by rw [List.set_append_right _ _ (Nat.le_refl _)]; simp
    rw [e4]
    dsimp only
    have e6 : decide (acc.length < sizeLine) = true := decide_eq_true (by rw [sizeLine_eq]; simp at hl; omega)
    rw [e6, e5]
    show xBlkS src all G c el ρ0 h1.length (l.map g) _ = _
    rw [ih]
    simp

theorem kit_cn : ∀ i, i < 4 → Kit.get kitL (.inr (cn i)) (.inr (Str.ofString "Thing")) = some true
  | 0, _ => kg_3
  | 1, _ => kg_4
  | 2, _ => kg_5
  | 3, _ => kg_6
  | n + 4, h => absurd h (by omega)
theorem tv_eq (h : Mem) (s : TS) : eqM h 4 (tv s) (tv s) = some true := by
  cases s with
  | cell v => exact eqM_tup (by intro w hw; simp at hw; rcases hw with rfl | rfl <;> rfl)
  | line xs => exact eqM_tup (by intro w hw; simp at hw; rcases hw with rfl | ⟨x, _, rfl⟩ <;> rfl)
  | door xs => exact eqM_tup (by intro w hw; simp at hw; rcases hw with rfl | rfl <;> rfl)
  | post z r => exact eqM_tup (by intro w hw; simp at hw; rcases hw with rfl | rfl | rfl <;> rfl)
theorem cut_last (l : List W) (y : W) : cutW (l ++ [y]) (some (-1)) none = [y] := by
  unfold cutW
  have e : HT.sIx (l ++ [y]).length 0 (some (-1)) = l.length := by simp [HT.sIx]; try omega
  rw [e]
  simp [HT.sIx]
theorem facts {Fn F0 F1 F2 F3 T1 T2 T3 T4 : Fm} (hn : S_needs Fn) (f0 : S_f0 F0) (f1 : S_f1 F1) (f2 : S_f2 F2) (f3 : S_f3 F3) (t0 : S_t0 T1) (t1 : S_t1 T2) (t2 : S_t2 T3) (t3 : S_t3 T4) {m : Mem} {p q : Nat} {a : Int} {s : TS} (A : At m p q a s) (hw : s.wf) :
    ∃ c fs Ff Ft, m[p]? = some (.ins c fs) ∧ Kit.get kitL (.inr c) (.inr (Str.ofString "Thing")) = some true ∧ List.lookup (Str.ofString "needs") fs = none ∧ List.lookup (Str.ofString "fits") fs = none ∧ List.lookup (Str.ofString "told") fs = none ∧ tab4 Fn Fn Fn Fn c = some Fn ∧ tab4 F0 F1 F2 F3 c = some Ff ∧ tab4 T1 T2 T3 T4 c = some Ft ∧
      (∀ m', Ff [.ref p] m' = .ok (.int (fv s.cls)) m') ∧ Ft [.ref p] m = .ok (tv s) m ∧ ∀ d ∈ dl s.cls, ∃ g, Fn [.ref p, .str d] m = .ok (.int (nv s.cls d)) (m ++ g) := by
  obtain ⟨fs, e, l_kind, l_fits, l_told, l_own_needs, l_own_did, l_needs, l_did⟩ := A.ins
  refine ⟨_, fs, _, _, e, kit_cn _ (cls_lt s), l_needs, l_fits, l_told, tab_same (cls_lt s), tab_cn (cls_lt s), tab_cn (cls_lt s), ?_, ?_, fun d hd => hn m p s.cls fs (cls_lt s) e l_own_needs d hd⟩
  · cases s with
    | cell v => exact fun m' => f0 m' p
    | line xs => exact fun m' => f1 m' p
    | door xs => exact fun m' => f2 m' p
    | post z r => exact fun m' => f3 m' p
  · cases s with
    | cell v => exact t0 _ p q a v A hw
    | line xs => exact t1 _ p q a xs A hw
    | door xs => exact t2 _ p q a xs A hw
    | post z r => exact t3 _ p q a z r A hw

theorem ok_law {f : Addr} {fd : FuncData} (T : Tx K mg C) (R : Fun K "law" "law" s_law f fd) {Fn F0 F1 F2 F3 T1 T2 T3 T4 Fw Fma Fde Fdn : Fm} (hn : S_needs Fn) (f0 : S_f0 F0) (f1 : S_f1 F1) (f2 : S_f2 F2) (f3 : S_f3 F3) (t0 : S_t0 T1) (t1 : S_t1 T2) (t2 : S_t2 T3) (t3 : S_t3 T4) (hw : S_within Fw) (hm : S_made Fma) (hde : S_deed Fde) (hdn : S_done Fdn)
    (M_needs : TabAt P w K mg base (T0 C) 2 "needs" (tab4 Fn Fn Fn Fn)) (M_fits : TabAt P w K mg base (T0 C) 1 "fits" (tab4 F0 F1 F2 F3)) (M_told : TabAt P w K mg base (T0 C) 1 "told" (tab4 T1 T2 T3 T4)) (G_within : FnAt P w K mg base CX0 2 "within" (spH (T0 C) Fw)) (G_l_made : FnAt P w K mg base CX0 4 "_law_made" (spH (T0 C) Fma)) (G_l_deed : FnAt P w K mg base CX0 1 "_law_deed" (spH (T0 C) Fde)) (G_l_done : FnAt P w K mg base CX0 5 "_law_done" (spH (T0 C) Fdn)) : FnOk P w K mg base CX0 6 f fd ["_law_script"] (spH (T0 C) lawF) := by
  refine fun0q R sc_law (hB := fun cdv A outer s H E φ0 H0 hr => (qb_cons (qs_setcN (osc := defScope s_law) (N := ["_law_script", "_law_things", "_law_deeds", "_law_seen", "_law_cell", "_law_way", "_law_deed_here", "_law_fresh", "_law_one", "_law_k", "_law_at"]) (own := ["_law_way"]) (fr := []) (ix := []) (i := 1) sc_law.nd rfl rfl (fun _ _ _ => trivial) rfl rfl rfl (by decide +kernel) (qi_range1 rfl T.b_range q_int) (fun _ => (tg_name (zb_set (by decide)))) (fun _ _ _ _ _ => (qg_cn 0 (by decide +kernel) rfl (by decide +kernel) rfl)) (fun _ _ _ _ _ _ => qc_nil) (fun _ _ _ _ _ _ => (q_fn0 G_l_made hr (by decide) rfl (qa_cons (q_var 0) qa_nil))))
      (qb_cons (qs_setcN (osc := defScope s_law) (N := ["_law_script", "_law_things", "_law_deeds", "_law_seen", "_law_cell", "_law_way", "_law_deed_here", "_law_fresh", "_law_one", "_law_k", "_law_at"]) (own := ["_law_way"]) (fr := []) (ix := []) (i := 2) sc_law.nd rfl rfl (fun _ _ _ => trivial) rfl rfl rfl (by decide +kernel) (qi_range1 rfl T.b_range q_int) (fun _ => (tg_name (zb_set (by decide)))) (fun _ _ _ _ _ => (qg_cn 0 (by decide +kernel) rfl (by decide +kernel) rfl)) (fun _ _ _ _ _ _ => qc_nil) (fun _ _ _ _ _ _ => (q_lstN qa_nil)))
      (qb_cons (qs_setcS (osc := defScope s_law) (N := ["_law_script", "_law_things", "_law_deeds", "_law_seen", "_law_cell", "_law_way", "_law_deed_here", "_law_fresh", "_law_one", "_law_k", "_law_at"]) (own := ["_law_one"]) (fr := []) (ix := []) (i := 3) sc_law.nd rfl rfl (fun _ _ _ => trivial) rfl rfl rfl (by decide +kernel) (qi_list (q_var 1)) (fun _ => (tg_name (zb_set (by decide)))) (fun _ _ _ _ _ => (qg_cn 0 (by decide +kernel) rfl (by decide +kernel) rfl)) (fun _ _ _ _ _ _ => qc_nil) (fun _ _ _ _ _ _ => (q_meth0 T.ins M_told hr (by decide) (q_var 0))))
      (qb_cons (qs_for (tg_name (fun _ _ _ => trivial)) PassesOwn.never rfl (qi_list (q_var 0)) (qg_name (i := 4) sc_law.nd rfl (Or.inl rfl))
        (qb_cons (qs_set (i := 5) sc_law.nd rfl (Or.inl rfl) (fun _ _ _ => trivial) (q_bin op_mod modM_ok (q_var 4) q_int))
        (qb_cons (qs_set (i := 6) sc_law.nd rfl (Or.inl rfl) (fun _ _ _ => trivial) (q_fn0 G_l_deed hr (by decide) rfl (qa_cons (q_var 5) (qa_cons (q_bin op_fdiv divM_ok (q_var 4) q_int) qa_nil))))
        (qb_cons (qs_if (qt_w (qw_or (qt_not (qt_val (q_cb (isiX_ok T.ins T.exo T.kit) (call_isiX K rfl) rfl T.b_isinstance (by first | exact boot_b_isinstance | rfl) (qa_cons (q_ix ix_any ixM_ok (q_var 1) (q_var 5) (fun _ _ => rfl)) (qa_cons (q_cls rfl T.g_Thing T.t_Thing) qa_nil))))) (qw_or1 (qt_cmp op_isnotB isnotBM_ok (q_fn0 G_within hr (by decide) rfl (qa_cons (q_meth T.ins M_needs hr (by decide) (q_ix ix_any ixM_ok (q_var 1) (q_var 5) (fun _ _ => rfl)) (qa_cons (q_var 6) qa_nil)) (qa_cons (q_meth0 T.ins M_fits hr (by decide) (q_ix ix_any ixM_ok (q_var 1) (q_var 5) (fun _ _ => rfl))) qa_nil))) q_bl (nomark _))))) (qb_one (qs_ret q_bl)) qb_nil)
        (qb_cons (qs_expr (q_append (q_ix ix_any ixM_ok (q_var 2) (q_var 5) (fun _ _ => rfl)) (qa_cons (q_tup (qa_cons (q_var 6) (qa_cons (q_bin op_sub subM_ok (q_bin op_mod modM_ok (q_bin op_fdiv divM_ok (q_var 4) q_int) q_int) q_int) qa_nil))) qa_nil)))
        (qb_cons (qs_expr (q_fn0 G_l_done hr (by decide) rfl (qa_cons (q_ix ix_any ixM_ok (q_var 1) (q_var 5) (fun _ _ => rfl)) (qa_cons (q_sl sl_any slM_ok (q_ix ix_any ixM_ok (q_var 2) (q_var 5) (fun _ _ => rfl)) (qo_some (q_un un_neg negM_ok q_int)) qo_none) qa_nil))))
        (qb_cons (qs_set (i := 7) sc_law.nd rfl (Or.inl rfl) (fun _ _ _ => trivial) (q_fn0 G_l_made hr (by decide) rfl (qa_cons (q_var 5) qa_nil)))
        (qb_cons (qs_for (tg_name (fun _ _ _ => trivial)) PassesOwn.never rfl (qi_list (q_lst (qa_cons q_str (qa_cons (q_var 6) (qa_cons (q_fn0 G_l_deed hr (by decide) rfl (qa_cons (q_var 5) (qa_cons (q_bin op_fdiv divM_ok (q_var 4) q_int) qa_nil))) qa_nil))))) (qg_name (i := 8) sc_law.nd rfl (Or.inl rfl))
          (qb_one (qs_if (qt_w (qw_or (qt_cmp (op_neF hr) neO_ok (q_meth T.ins M_needs hr (by decide) (q_ix ix_any ixM_ok (q_var 1) (q_var 5) (fun _ _ => rfl)) (qa_cons (q_var 8) qa_nil)) (q_meth T.ins M_needs hr (by decide) (q_var 7) (qa_cons (q_var 8) qa_nil)) (nomark _)) (qw_or1 (qt_cmp (op_neF hr) neO_ok (q_meth0 T.ins M_fits hr (by decide) (q_ix ix_any ixM_ok (q_var 1) (q_var 5) (fun _ _ => rfl))) (q_meth0 T.ins M_fits hr (by decide) (q_var 7)) (nomark _))))) (qb_one (qs_ret q_bl)) qb_nil)))
        (qb_cons (qs_seti (q_var 3) (q_var 5) (q_fn0 G_l_done hr (by decide) rfl (qa_cons (q_var 7) (qa_cons (q_ix ix_any ixM_ok (q_var 2) (q_var 5) (fun _ _ => rfl)) qa_nil))))
        (qb_one (qs_for (tg_name (fun _ _ _ => trivial)) PassesOwn.never rfl (qi_range1 rfl T.b_range q_int) (qg_name (i := 9) sc_law.nd rfl (Or.inl rfl))
          (qb_cons (qs_set (i := 10) sc_law.nd rfl (Or.inl rfl) (fun _ _ _ => trivial) (q_bin op_mod modM_ok (q_bin op_addV addM_ok (q_bin op_mul mulM_ok (q_var 9) (q_ix ix_any ixM_ok (q_lst (qa_cons q_int (qa_cons q_int (qa_cons q_int (qa_cons q_int qa_nil))))) (q_bin op_mod modM_ok (q_bin op_fdiv divM_ok (q_var 4) q_int) q_int) (fun _ _ => rfl))) (q_var 4)) q_int))
          (qb_one (qs_if (qt_cmp (op_neF hr) neO_ok (q_meth0 T.ins M_told hr (by decide) (q_ix ix_any ixM_ok (q_var 1) (q_var 10) (fun _ _ => rfl))) (q_ix ix_any ixM_ok (q_var 3) (q_var 10) (fun _ _ => rfl)) (nomark _)) (qb_one (qs_ret q_bl)) qb_nil))))))))))))))
      (qb_one (qs_ret q_bl))))))) ?_ ?_
  · exact lawF_ex
  · refine lawF_told fun ns hl => ?_
    generalize hC1 : xCompN _ _ _ _ _ (xCall0 Fma _) = C1
    generalize hC2 : xCompN _ _ _ _ _ (xLstN _) = C2
    generalize hC3 : xCompS _ _ _ _ _ _ = C3
    generalize hF7 : xFor (xIl _) (gN 8) _ = F7
    generalize hF9 : xFor (xIr1 _) (gN 9) _ = F9
    generalize hB : xSeq (xAsg (gN 5) _) _ = B
    have fa := @facts Fn F0 F1 F2 F3 T1 T2 T3 T4 hn f0 f1 f2 f3 t0 t1 t2 t3
    have turn : ∀ (f : Nat), ∀ u ∈ ns.map W.int, ∀ (ρ : Sg) (h : Mem), (∃ v4 v5 v6 v7 v8 v9 v10 s ds, ρ = [some (.tl (ns.map W.int)), some (.ref 0), some (.ref 13), some (.ref 22), v4, v5, v6, v7, v8, v9, v10] ∧ J h s ds s ∧ ∀ k, k < 8 → (ds k).length + (f + 1) ≤ 63) →
        ∃ ρ1, gN 4 u ρ = some ρ1 ∧ ∃ ρ' h', B ρ1 h = .nx ρ' h' ∧ ∃ v4 v5 v6 v7 v8 v9 v10 s ds, ρ' = [some (.tl (ns.map W.int)), some (.ref 0), some (.ref 13), some (.ref 22), v4, v5, v6, v7, v8, v9, v10] ∧ J h' s ds s ∧ ∀ k, k < 8 → (ds k).length + f ≤ 63 := by
      rintro f u hu ρ h ⟨v4, v5, v6, v7, v8, v9, v10, s, ds, rfl, j, hds⟩
      obtain ⟨c, _, rfl⟩ := List.mem_map.mp hu
      refine ⟨_, rfl, ?_⟩
      obtain ⟨k, hkc, hk⟩ : ∃ k : Nat, c % 8 = (k : Int) ∧ k < 8 := ⟨(c % 8).toNat, by omega, by omega⟩
      obtain ⟨d, hd, e2⟩ := hde h k (c / 8) hk
      have A := j.pl k hk
      have hcl := j.cls hk
      have hwf := j.wf hk
      obtain ⟨cc, fs, Ff, Ft, a1, a2, a3, a4, a5, a6, a7, a8, a9, a10, a11⟩ := fa A hwf
      obtain ⟨g, y1⟩ := a11 d (by rw [hcl]; exact hd)
      have b1 := kept (g := g) a1
      have w1 := hw (h ++ g) (s k).cls d (cls_lt _) (by rw [hcl]; exact hd)
      have th0 := th_at k hk
      have o0 := j.o0
      have o0g := kept (g := g) o0
      have o13g := kept (g := g) j.o13
      have de0 := de_at k hk
      have dg := kept (g := g) (j.de k hk)
      have dl63 := hds k hk
      obtain ⟨x, hx⟩ : ∃ x : Int, c / 240 % 199 - 99 = x := ⟨_, rfl⟩
      have hlen : (ds k).length < 16777216 := by omega
      obtain ⟨h2, eh2⟩ : ∃ h2, (h ++ g).set (14 + k) (.lst ((ds k).map enc ++ [enc (d, x)])) = h2 := ⟨_, rfl⟩
      have pq := pq_in k hk
      have hln := j.ln
      have g2 : ∀ i, i ≠ 14 + k → h2[i]? = (h ++ g)[i]? := fun i hi => by rw [← eh2, List.getElem?_set_ne (by omega)]
      have o0_2 : h2[0]? = some (.lst thW) := (g2 0 (by omega)).trans o0g
      have o13_2 : h2[13]? = some (.lst deW) := (g2 13 (by omega)).trans o13g
      have de_2 : h2[14 + k]? = some (.lst ((ds k).map enc ++ [enc (d, x)])) := by rw [← eh2, List.getElem?_set_self (by simp; omega)]
      have A2 : At h2 (Pa k) (Qa k) (k : Nat) (s k) := (A.app g).frame (g2 _ (by omega)) (g2 _ (by omega))
      obtain ⟨g3, e5⟩ := hdn h2 (Pa k) (Qa k) (k : Nat) (s k) [(d, x)] (.tl [enc (d, x)]) A2 hwf (by intro y hy; rw [List.mem_singleton.mp hy, hcl]; exact hd) (.inl rfl)
      have j3 := j.deed (g := g) (g3 := g3) hk (d := d) (x := x) hd
      rw [eh2] at j3
      have efold : fold (s k) [(d, x)] = step (s k) d x := rfl
      rw [efold] at e5
      obtain ⟨h3, eh3⟩ : ∃ h3, put h2 (Pa k) (Qa k) (k : Nat) (step (s k) d x) ++ g3 = h3 := ⟨_, rfl⟩
      rw [eh3] at j3 e5
      obtain ⟨s', es'⟩ : ∃ s', up s k (step (s k) d x) = s' := ⟨_, rfl⟩
      obtain ⟨ds', eds'⟩ : ∃ ds', up ds k (ds k ++ [(d, x)]) = ds' := ⟨_, rfl⟩
      rw [es', eds'] at j3
      have e6 := hm h3 k hk
      have j4 : J (h3 ++ mkO k h3.length) s' ds' s := j3.frame (by rw [List.length_append]; have := j3.ln; omega) (fun i hi => List.getElem?_append_left (by have := j3.ln; omega))
      have A4 := ini_at h3 k hk
      obtain ⟨h4, eh4⟩ : ∃ h4, h3 ++ mkO k h3.length = h4 := ⟨_, rfl⟩
      rw [eh4] at e6 j4 A4
      obtain ⟨d2, hd2, e7⟩ := hde h4 k (c / 16) hk
      have kd : Str.ofString "kind" ∈ dl (k / 2) := by
        have : k / 2 < 4 := by omega
        match k / 2, this with
        | 0, _ => simp [dl]
        | 1, _ => simp [dl]
        | 2, _ => simp [dl]
        | 3, _ => simp [dl]
      have hcl4 := j4.cls hk
      have icl := ini_cls k hk
      have s7 : ∃ ρ' h', F7 [some (.tl (ns.map W.int)), some (.ref 0), some (.ref 13), some (.ref 22), some (.int c), some (.int k), some (.str d), some (.ref h3.length), v8, v9, v10] h4 = .nx ρ' h' ∧ (∃ v8 g, ρ' = [some (.tl (ns.map W.int)), some (.ref 0), some (.ref 13), some (.ref 22), some (.int c), some (.int k), some (.str d), some (.ref h3.length), v8, v9, v10] ∧ h' = h4 ++ g) := by
        rw [← hF7]
        rw [xFor_loop (ws := [.str (Str.ofString "kind"), .str d, .str d2]) (h' := h4) (by simp [e7, runB, startW, Out.res, xSeq, xIfS, xRet, xRetN, xDrop, xAsg, gN, xNext, xVar, xC, xNil, xCons, xBin, xUn, xCb, xBm, xAnd, xOr, xNot, xIf, xChain, xTup, xLst, xCall0, xNo, Res.bind, Res.of, iop, iopC, subM, divM, modM, mulM, powM, bandM, borM, ltM, gtM, geM, leM, negM, invM, addM, items, ixM, seqs, eqO, neO, eqM, flatW, eqFl, isiM, tyN, Kit.get, absM, sizeLine_eq, xFor, xLoop, xIl, xIt, xSl, xPn, xPs, slM, lenM, truM, intW, sumM, intM, maxM, minM, ordM, listM, isNonW, isNM, notNM, isBM, isnotBM, strW, joinM, xBmS, xIs, allBM, bolW, inM, keyW, dicts, ρC, splitM, gT2, xCallX, xMethX, xRaise, xTry, endX, fgt, xBmL, countM, slTM, isiX, tyX, kitA, clTy, catTM, tupleM, xLstN, countSM, indexSM, xLm, appM, xIr1, xRaiseI, xXf])]
        refine xLoop_nx (fun ρ' h' => ∃ v8 g, ρ' = [some (.tl (ns.map W.int)), some (.ref 0), some (.ref 13), some (.ref 22), some (.int c), some (.int k), some (.str d), some (.ref h3.length), v8, v9, v10] ∧ h' = h4 ++ g) _ _ _ ⟨v8, [], rfl, by rw [List.append_nil]⟩ ?_
        rintro u hu ρ h ⟨v8, g, rfl, rfl⟩
        obtain ⟨z, rfl, hz⟩ : ∃ z, u = .str z ∧ z ∈ dl (k / 2) := by
          simp only [List.mem_cons, List.not_mem_nil, or_false] at hu
          rcases hu with rfl | rfl | rfl
          · exact ⟨_, rfl, kd⟩
          · exact ⟨_, rfl, hd⟩
          · exact ⟨_, rfl, hd2⟩
        refine ⟨_, rfl, ?_⟩
        obtain ⟨c1, fs1, Ff1, Ft1, p1, p2, p3, p4, p5, p6, p7, p8, p9, p10, p11⟩ := fa ((j4.pl k hk).app g) (j4.wf hk)
        obtain ⟨g1, q1⟩ := p11 z (by rw [hcl4]; exact hz)
        obtain ⟨c2, fs2, Ff2, Ft2, r1, r2, r3, r4, r5, r6, r7, r8, r9, r10, r11⟩ := fa ((A4.app g).app g1) (ini_wf k)
        obtain ⟨g5, q2⟩ := r11 z (by rw [icl]; exact hz)
        rw [hcl4] at q1 p9
        rw [icl] at q2 r9
        have p1' := kept (g := g5) (kept (g := g1) p1)
        have r1' := kept (g := g5) r1
        have o0_5 := kept (g := g) j4.o0
        have o0_6 := kept (g := g5) (kept (g := g1) o0_5)
        refine ⟨[some (.tl (ns.map W.int)), some (.ref 0), some (.ref 13), some (.ref 22), some (.int c), some (.int k), some (.str d), some (.ref h3.length), some (.str z), v9, v10], h4 ++ g ++ g1 ++ g5, .inl ?_, some (.str z), g ++ (g1 ++ g5), rfl, by simp only [List.append_assoc]⟩
        simp [-List.append_assoc, -List.getElem?_append_left, o0_5, o0_6, th0, p1, p1', p3, p4, p6, p7, p9, q1, r1, r1', r3, r4, r6, r7, r9, q2, xMeth, runB, startW, Out.res, xSeq, xIfS, xRet, xRetN, xDrop, xAsg, gN, xNext, xVar, xC, xNil, xCons, xBin, xUn, xCb, xBm, xAnd, xOr, xNot, xIf, xChain, xTup, xLst, xCall0, xNo, Res.bind, Res.of, iop, iopC, subM, divM, modM, mulM, powM, bandM, borM, ltM, gtM, geM, leM, negM, invM, addM, items, ixM, seqs, eqO, neO, eqM, flatW, eqFl, isiM, tyN, Kit.get, absM, sizeLine_eq, xFor, xLoop, xIl, xIt, xSl, xPn, xPs, slM, lenM, truM, intW, sumM, intM, maxM, minM, ordM, listM, isNonW, isNM, notNM, isBM, isnotBM, strW, joinM, xBmS, xIs, allBM, bolW, inM, keyW, dicts, ρC, splitM, gT2, xCallX, xMethX, xRaise, xTry, endX, fgt, xBmL, countM, slTM, isiX, tyX, kitA, clTy, catTM, tupleM, xLstN, countSM, indexSM, xLm, appM, xIr1, xRaiseI, xXf]
      obtain ⟨ρ7, h5, s7, v8', g5, rfl, rfl⟩ := s7
      have j5 : J (h4 ++ g5) s' ds' s := j4.frame (by rw [List.length_append]; have := j4.ln; omega) (fun i hi => List.getElem?_append_left (by have := j4.ln; omega))
      have l3 := j3.ln
      obtain ⟨g6, e8⟩ := hdn (h4 ++ g5) h3.length (h3.length + 1) (k : Nat) (ini k) (ds' k) (.ref (14 + k)) (A4.app g5) (ini_wf k) (by rw [icl]; exact j5.dk k hk) (.inr ⟨14 + k, rfl, j5.de k hk, by omega, by omega⟩)
      rw [← j5.fo k hk] at e8
      have j6 : J (put (h4 ++ g5) h3.length (h3.length + 1) (k : Nat) (s' k) ++ g6) s' ds' s := j5.frame (by rw [List.length_append, put_len]; have := j5.ln; omega) (fun i hi => put_get (by have := j5.ln; omega) (by omega) (by omega))
      obtain ⟨h6, eh6⟩ : ∃ h6, put (h4 ++ g5) h3.length (h3.length + 1) (k : Nat) (s' k) ++ g6 = h6 := ⟨_, rfl⟩
      rw [eh6] at e8 j6
      have l6 := j6.ln
      have j7 : J (h6.set 22 (.lst (seL s'))) s' ds' s' := by
        have hf : ∀ i, i < 22 → (h6.set 22 (O.lst (seL s')))[i]? = h6[i]? := fun i hi => List.getElem?_set_ne (by omega)
        exact ⟨by simp; omega, (hf 0 (by omega)).trans j6.o0, (hf 13 (by omega)).trans j6.o13, fun i hi => (j6.pl i hi).frame (hf _ (by have := pq_in i hi; omega)) (hf _ (by have := pq_in i hi; omega)), fun i hi => (hf _ (by omega)).trans (j6.de i hi), j6.fo, j6.dk, by rw [List.getElem?_set_self (by omega)]⟩
      have eset : (seL s).set k (tv (s' k)) = seL s' := by
        rw [← es', up_same, se_up s hk]
      obtain ⟨h7, eh7⟩ : ∃ h7, h6.set 22 (.lst (seL s')) = h7 := ⟨_, rfl⟩
      rw [eh7] at j7
      have s9 : ∃ ρ' h', F9 [some (.tl (ns.map W.int)), some (.ref 0), some (.ref 13), some (.ref 22), some (.int c), some (.int k), some (.str d), some (.ref h3.length), v8', v9, v10] h7 = .nx ρ' h' ∧ (∃ v9 v10, ρ' = [some (.tl (ns.map W.int)), some (.ref 0), some (.ref 13), some (.ref 22), some (.int c), some (.int k), some (.str d), some (.ref h3.length), v8', v9, v10] ∧ h' = h7) := by
        rw [← hF9]
        rw [xFor_loop (ws := rngW 0 8) (h' := h7) (by simp [xIr1, rngW, runB, startW, Out.res, xSeq, xIfS, xRet, xRetN, xDrop, xAsg, gN, xNext, xVar, xC, xNil, xCons, xBin, xUn, xCb, xBm, xAnd, xOr, xNot, xIf, xChain, xTup, xLst, xCall0, xNo, Res.bind, Res.of, iop, iopC, subM, divM, modM, mulM, powM, bandM, borM, ltM, gtM, geM, leM, negM, invM, addM, items, ixM, seqs, eqO, neO, eqM, flatW, eqFl, isiM, tyN, Kit.get, absM, sizeLine_eq, xFor, xLoop, xIl, xIt, xSl, xPn, xPs, slM, lenM, truM, intW, sumM, intM, maxM, minM, ordM, listM, isNonW, isNM, notNM, isBM, isnotBM, strW, joinM, xBmS, xIs, allBM, bolW, inM, keyW, dicts, ρC, splitM, gT2, xCallX, xMethX, xRaise, xTry, endX, fgt, xBmL, countM, slTM, isiX, tyX, kitA, clTy, catTM, tupleM, xLstN, countSM, indexSM, xLm, appM, xIr1, xRaiseI, xXf])]
        refine xLoop_nx (fun ρ' h' => ∃ v9 v10, ρ' = [some (.tl (ns.map W.int)), some (.ref 0), some (.ref 13), some (.ref 22), some (.int c), some (.int k), some (.str d), some (.ref h3.length), v8', v9, v10] ∧ h' = h7) _ _ _ ⟨v9, v10, rfl, rfl⟩ ?_
        rintro u hu ρ hh ⟨v9, v10, rfl, rfl⟩
        unfold rngW at hu
        obtain ⟨i, hi, rfl⟩ := List.mem_map.mp hu
        have hi' := List.mem_range.mp hi
        refine ⟨_, rfl, ?_⟩
        obtain ⟨t, ht0, ht1, ht2⟩ : ∃ t : Int, 0 + (i : Int) = t ∧ 0 ≤ t ∧ t < 8 := ⟨_, rfl, by omega, by omega⟩
        rw [ht0]
        have b3 : -18446744073709551616 < t := by omega
        have b4 : t < 18446744073709551616 := by omega
        obtain ⟨qq, hq1⟩ : ∃ qq : Int, atI [W.int 1, W.int 3, W.int 5, W.int 7] (c / 48 % 4) = some (.int qq) := by
          have : c / 48 % 4 = 0 ∨ c / 48 % 4 = 1 ∨ c / 48 % 4 = 2 ∨ c / 48 % 4 = 3 := by omega
          rcases this with e | e | e | e <;> rw [e]
          · exact ⟨_, atI_0⟩
          · exact ⟨_, atI_1⟩
          · exact ⟨_, atI_2⟩
          · exact ⟨_, atI_3⟩
        obtain ⟨m, hmq, hm8⟩ : ∃ m : Nat, (t * qq + c) % 8 = (m : Int) ∧ m < 8 := ⟨((t * qq + c) % 8).toNat, by omega, by omega⟩
        obtain ⟨c1, fs1, Ff1, Ft1, p1, p2, p3, p4, p5, p6, p7, p8, p9, p10, p11⟩ := fa (j7.pl m hm8) (j7.wf hm8)
        have q0 := j7.o0
        have q22 := j7.se
        have tm := th_at m hm8
        have sm := se_at s' hm8
        have ee := tv_eq hh (s' m)
        refine ⟨[some (.tl (ns.map W.int)), some (.ref 0), some (.ref 13), some (.ref 22), some (.int c), some (.int k), some (.str d), some (.ref h3.length), v8', some (.int t), some (.int m)], hh, .inl ?_, _, _, rfl, rfl⟩
        simp [b3, b4, hq1, hmq, q0, q22, tm, sm, p1, p5, p8, p10, ee, xMeth, runB, startW, Out.res, xSeq, xIfS, xRet, xRetN, xDrop, xAsg, gN, xNext, xVar, xC, xNil, xCons, xBin, xUn, xCb, xBm, xAnd, xOr, xNot, xIf, xChain, xTup, xLst, xCall0, xNo, Res.bind, Res.of, iop, iopC, subM, divM, modM, mulM, powM, bandM, borM, ltM, gtM, geM, leM, negM, invM, addM, items, ixM, seqs, eqO, neO, flatW, eqFl, isiM, tyN, Kit.get, absM, sizeLine_eq, xFor, xLoop, xIl, xIt, xSl, xPn, xPs, slM, lenM, truM, intW, sumM, intM, maxM, minM, ordM, listM, isNonW, isNM, notNM, isBM, isnotBM, strW, joinM, xBmS, xIs, allBM, bolW, inM, keyW, dicts, ρC, splitM, gT2, xCallX, xMethX, xRaise, xTry, endX, fgt, xBmL, countM, slTM, isiX, tyX, kitA, clTy, catTM, tupleM, xLstN, countSM, indexSM, xLm, appM, xIr1, xRaiseI, xXf]
      obtain ⟨ρ9, h9, s9, v9', v10', rfl, rfl⟩ := s9
      refine ⟨[some (.tl (ns.map W.int)), some (.ref 0), some (.ref 13), some (.ref 22), some (.int c), some (.int k), some (.str d), some (.ref h3.length), v8', v9', v10'], h9, ?_, some (.int c), some (.int k), some (.str d), some (.ref h3.length), v8', v9', v10', s', ds', rfl, j7, fun i hi => ?_⟩
      · rw [← hB]
        have en : W.tup [.str d, .int x] = enc (d, x) := rfl
        have ix8 : ixN (seL s).length (k : Int) = some k := by
          have : (seL s).length = 8 := by simp [seL]
          rw [this]
          unfold ixN
          simp
          omega
        have o13_5 := j5.o13
        have se6 := j6.se
        refine (xSeq_nx (ρ' := [some (.tl (ns.map W.int)), some (.ref 0), some (.ref 13), some (.ref 22), some (.int c), some (.int k), v6, v7, v8, v9, v10]) (h' := h) (by simp [hkc, runB, startW, Out.res, xSeq, xIfS, xRet, xRetN, xDrop, xAsg, gN, xNext, xVar, xC, xNil, xCons, xBin, xUn, xCb, xBm, xAnd, xOr, xNot, xIf, xChain, xTup, xLst, xCall0, xNo, Res.bind, Res.of, iop, iopC, subM, divM, modM, mulM, powM, bandM, borM, ltM, gtM, geM, leM, negM, invM, addM, items, ixM, seqs, eqO, neO, eqM, flatW, eqFl, isiM, tyN, Kit.get, absM, sizeLine_eq, xFor, xLoop, xIl, xIt, xSl, xPn, xPs, slM, lenM, truM, intW, sumM, intM, maxM, minM, ordM, listM, isNonW, isNM, notNM, isBM, isnotBM, strW, joinM, xBmS, xIs, allBM, bolW, inM, keyW, dicts, ρC, splitM, gT2, xCallX, xMethX, xRaise, xTry, endX, fgt, xBmL, countM, slTM, isiX, tyX, kitA, clTy, catTM, tupleM, xLstN, countSM, indexSM, xLm, appM, xIr1, xRaiseI, xXf])).trans ?_
        refine (xSeq_nx (ρ' := [some (.tl (ns.map W.int)), some (.ref 0), some (.ref 13), some (.ref 22), some (.int c), some (.int k), some (.str d), v7, v8, v9, v10]) (h' := h) (by simp [e2, runB, startW, Out.res, xSeq, xIfS, xRet, xRetN, xDrop, xAsg, gN, xNext, xVar, xC, xNil, xCons, xBin, xUn, xCb, xBm, xAnd, xOr, xNot, xIf, xChain, xTup, xLst, xCall0, xNo, Res.bind, Res.of, iop, iopC, subM, divM, modM, mulM, powM, bandM, borM, ltM, gtM, geM, leM, negM, invM, addM, items, ixM, seqs, eqO, neO, eqM, flatW, eqFl, isiM, tyN, Kit.get, absM, sizeLine_eq, xFor, xLoop, xIl, xIt, xSl, xPn, xPs, slM, lenM, truM, intW, sumM, intM, maxM, minM, ordM, listM, isNonW, isNM, notNM, isBM, isnotBM, strW, joinM, xBmS, xIs, allBM, bolW, inM, keyW, dicts, ρC, splitM, gT2, xCallX, xMethX, xRaise, xTry, endX, fgt, xBmL, countM, slTM, isiX, tyX, kitA, clTy, catTM, tupleM, xLstN, countSM, indexSM, xLm, appM, xIr1, xRaiseI, xXf])).trans ?_
        refine (xSeq_nx (ρ' := [some (.tl (ns.map W.int)), some (.ref 0), some (.ref 13), some (.ref 22), some (.int c), some (.int k), some (.str d), v7, v8, v9, v10]) (h' := h ++ g) (by simp [o0, o0g, th0, a1, a2, a3, a4, a6, a7, a9, y1, b1, w1, xMeth, runB, startW, Out.res, xSeq, xIfS, xRet, xRetN, xDrop, xAsg, gN, xNext, xVar, xC, xNil, xCons, xBin, xUn, xCb, xBm, xAnd, xOr, xNot, xIf, xChain, xTup, xLst, xCall0, xNo, Res.bind, Res.of, iop, iopC, subM, divM, modM, mulM, powM, bandM, borM, ltM, gtM, geM, leM, negM, invM, addM, items, ixM, seqs, eqO, neO, eqM, flatW, eqFl, isiM, tyN, absM, sizeLine_eq, xFor, xLoop, xIl, xIt, xSl, xPn, xPs, slM, lenM, truM, intW, sumM, intM, maxM, minM, ordM, listM, isNonW, isNM, notNM, isBM, isnotBM, strW, joinM, xBmS, xIs, allBM, bolW, inM, keyW, dicts, ρC, splitM, gT2, xCallX, xMethX, xRaise, xTry, endX, fgt, xBmL, countM, slTM, isiX, tyX, kitA, clTy, catTM, tupleM, xLstN, countSM, indexSM, xLm, appM, xIr1, xRaiseI, xXf])).trans ?_
        refine (xSeq_nx (ρ' := [some (.tl (ns.map W.int)), some (.ref 0), some (.ref 13), some (.ref 22), some (.int c), some (.int k), some (.str d), v7, v8, v9, v10]) (h' := h2) (by simp [o13g, de0, dg, hlen, hx, en, eh2, runB, startW, Out.res, xSeq, xIfS, xRet, xRetN, xDrop, xAsg, gN, xNext, xVar, xC, xNil, xCons, xBin, xUn, xCb, xBm, xAnd, xOr, xNot, xIf, xChain, xTup, xLst, xCall0, xNo, Res.bind, Res.of, iop, iopC, subM, divM, modM, mulM, powM, bandM, borM, ltM, gtM, geM, leM, negM, invM, addM, items, ixM, seqs, eqO, neO, eqM, flatW, eqFl, isiM, tyN, Kit.get, absM, sizeLine_eq, xFor, xLoop, xIl, xIt, xSl, xPn, xPs, slM, lenM, truM, intW, sumM, intM, maxM, minM, ordM, listM, isNonW, isNM, notNM, isBM, isnotBM, strW, joinM, xBmS, xIs, allBM, bolW, inM, keyW, dicts, ρC, splitM, gT2, xCallX, xMethX, xRaise, xTry, endX, fgt, xBmL, countM, slTM, isiX, tyX, kitA, clTy, catTM, tupleM, xLstN, countSM, indexSM, xLm, appM, xIr1, xRaiseI, xXf])).trans ?_
        refine (xSeq_nx (ρ' := [some (.tl (ns.map W.int)), some (.ref 0), some (.ref 13), some (.ref 22), some (.int c), some (.int k), some (.str d), v7, v8, v9, v10]) (h' := h3) (by simp [o0_2, o13_2, th0, de0, de_2, cut_last, e5, runB, startW, Out.res, xSeq, xIfS, xRet, xRetN, xDrop, xAsg, gN, xNext, xVar, xC, xNil, xCons, xBin, xUn, xCb, xBm, xAnd, xOr, xNot, xIf, xChain, xTup, xLst, xCall0, xNo, Res.bind, Res.of, iop, iopC, subM, divM, modM, mulM, powM, bandM, borM, ltM, gtM, geM, leM, negM, invM, addM, items, ixM, seqs, eqO, neO, eqM, flatW, eqFl, isiM, tyN, Kit.get, absM, sizeLine_eq, xFor, xLoop, xIl, xIt, xSl, xPn, xPs, slM, lenM, truM, intW, sumM, intM, maxM, minM, ordM, listM, isNonW, isNM, notNM, isBM, isnotBM, strW, joinM, xBmS, xIs, allBM, bolW, inM, keyW, dicts, ρC, splitM, gT2, xCallX, xMethX, xRaise, xTry, endX, fgt, xBmL, countM, slTM, isiX, tyX, kitA, clTy, catTM, tupleM, xLstN, countSM, indexSM, xLm, appM, xIr1, xRaiseI, xXf])).trans ?_
        refine (xSeq_nx (ρ' := [some (.tl (ns.map W.int)), some (.ref 0), some (.ref 13), some (.ref 22), some (.int c), some (.int k), some (.str d), some (.ref h3.length), v8, v9, v10]) (h' := h4) (by simp [e6, runB, startW, Out.res, xSeq, xIfS, xRet, xRetN, xDrop, xAsg, gN, xNext, xVar, xC, xNil, xCons, xBin, xUn, xCb, xBm, xAnd, xOr, xNot, xIf, xChain, xTup, xLst, xCall0, xNo, Res.bind, Res.of, iop, iopC, subM, divM, modM, mulM, powM, bandM, borM, ltM, gtM, geM, leM, negM, invM, addM, items, ixM, seqs, eqO, neO, eqM, flatW, eqFl, isiM, tyN, Kit.get, absM, sizeLine_eq, xFor, xLoop, xIl, xIt, xSl, xPn, xPs, slM, lenM, truM, intW, sumM, intM, maxM, minM, ordM, listM, isNonW, isNM, notNM, isBM, isnotBM, strW, joinM, xBmS, xIs, allBM, bolW, inM, keyW, dicts, ρC, splitM, gT2, xCallX, xMethX, xRaise, xTry, endX, fgt, xBmL, countM, slTM, isiX, tyX, kitA, clTy, catTM, tupleM, xLstN, countSM, indexSM, xLm, appM, xIr1, xRaiseI, xXf])).trans ?_
        refine (xSeq_nx s7).trans ?_
        refine (xSeq_nx (ρ' := [some (.tl (ns.map W.int)), some (.ref 0), some (.ref 13), some (.ref 22), some (.int c), some (.int k), some (.str d), some (.ref h3.length), v8', v9, v10]) (h' := h9) (by simp [xSetI, setM, o13_5, de0, e8, se6, ix8, eset, eh7, runB, startW, Out.res, xSeq, xIfS, xRet, xRetN, xDrop, xAsg, gN, xNext, xVar, xC, xNil, xCons, xBin, xUn, xCb, xBm, xAnd, xOr, xNot, xIf, xChain, xTup, xLst, xCall0, xNo, Res.bind, Res.of, iop, iopC, subM, divM, modM, mulM, powM, bandM, borM, ltM, gtM, geM, leM, negM, invM, addM, items, ixM, seqs, eqO, neO, eqM, flatW, eqFl, isiM, tyN, Kit.get, absM, sizeLine_eq, xFor, xLoop, xIl, xIt, xSl, xPn, xPs, slM, lenM, truM, intW, sumM, intM, maxM, minM, ordM, listM, isNonW, isNM, notNM, isBM, isnotBM, strW, joinM, xBmS, xIs, allBM, bolW, inM, keyW, dicts, ρC, splitM, gT2, xCallX, xMethX, xRaise, xTry, endX, fgt, xBmL, countM, slTM, isiX, tyX, kitA, clTy, catTM, tupleM, xLstN, countSM, indexSM, xLm, appM, xIr1, xRaiseI, xXf])).trans ?_
        exact s9
      · have := hds i hi
        rw [← eds']
        by_cases e : i = k
        · subst e; rw [up_same]; simp; omega
        · rw [up_ne _ _ e]; omega
    have m0 : Fma [.int 0] [.lst []] = .ok (.ref 1) ([.lst [], cellO 0 0]) := hm [.lst []] 0 (by decide)
    have m1 : Fma [.int 1] [.lst [.ref 1], cellO 0 0] = .ok (.ref 2) ([.lst [.ref 1], cellO 0 0, cellO 1 0]) := hm [.lst [.ref 1], cellO 0 0] 1 (by decide)
    have m2 : Fma [.int 2] [.lst [.ref 1, .ref 2], cellO 0 0, cellO 1 0] = .ok (.ref 3) ([.lst [.ref 1, .ref 2], cellO 0 0, cellO 1 0, lineO 2 4, .lst []]) := hm [.lst [.ref 1, .ref 2], cellO 0 0, cellO 1 0] 2 (by decide)
    have m3 : Fma [.int 3] [.lst [.ref 1, .ref 2, .ref 3], cellO 0 0, cellO 1 0, lineO 2 4, .lst []] = .ok (.ref 5) ([.lst [.ref 1, .ref 2, .ref 3], cellO 0 0, cellO 1 0, lineO 2 4, .lst [], lineO 3 6, .lst []]) := hm [.lst [.ref 1, .ref 2, .ref 3], cellO 0 0, cellO 1 0, lineO 2 4, .lst []] 3 (by decide)
    have m4 : Fma [.int 4] [.lst [.ref 1, .ref 2, .ref 3, .ref 5], cellO 0 0, cellO 1 0, lineO 2 4, .lst [], lineO 3 6, .lst []] = .ok (.ref 7) ([.lst [.ref 1, .ref 2, .ref 3, .ref 5], cellO 0 0, cellO 1 0, lineO 2 4, .lst [], lineO 3 6, .lst [], doorO 4 8, .lst []]) := hm [.lst [.ref 1, .ref 2, .ref 3, .ref 5], cellO 0 0, cellO 1 0, lineO 2 4, .lst [], lineO 3 6, .lst []] 4 (by decide)
    have m5 : Fma [.int 5] [.lst [.ref 1, .ref 2, .ref 3, .ref 5, .ref 7], cellO 0 0, cellO 1 0, lineO 2 4, .lst [], lineO 3 6, .lst [], doorO 4 8, .lst []] = .ok (.ref 9) ([.lst [.ref 1, .ref 2, .ref 3, .ref 5, .ref 7], cellO 0 0, cellO 1 0, lineO 2 4, .lst [], lineO 3 6, .lst [], doorO 4 8, .lst [], doorO 5 10, .lst []]) := hm [.lst [.ref 1, .ref 2, .ref 3, .ref 5, .ref 7], cellO 0 0, cellO 1 0, lineO 2 4, .lst [], lineO 3 6, .lst [], doorO 4 8, .lst []] 5 (by decide)
    have m6 : Fma [.int 6] [.lst [.ref 1, .ref 2, .ref 3, .ref 5, .ref 7, .ref 9], cellO 0 0, cellO 1 0, lineO 2 4, .lst [], lineO 3 6, .lst [], doorO 4 8, .lst [], doorO 5 10, .lst []] = .ok (.ref 11) ([.lst [.ref 1, .ref 2, .ref 3, .ref 5, .ref 7, .ref 9], cellO 0 0, cellO 1 0, lineO 2 4, .lst [], lineO 3 6, .lst [], doorO 4 8, .lst [], doorO 5 10, .lst [], postO 6 "a" true]) := hm [.lst [.ref 1, .ref 2, .ref 3, .ref 5, .ref 7, .ref 9], cellO 0 0, cellO 1 0, lineO 2 4, .lst [], lineO 3 6, .lst [], doorO 4 8, .lst [], doorO 5 10, .lst []] 6 (by decide)
    have m7 : Fma [.int 7] [.lst [.ref 1, .ref 2, .ref 3, .ref 5, .ref 7, .ref 9, .ref 11], cellO 0 0, cellO 1 0, lineO 2 4, .lst [], lineO 3 6, .lst [], doorO 4 8, .lst [], doorO 5 10, .lst [], postO 6 "a" true] = .ok (.ref 12) ([.lst [.ref 1, .ref 2, .ref 3, .ref 5, .ref 7, .ref 9, .ref 11], cellO 0 0, cellO 1 0, lineO 2 4, .lst [], lineO 3 6, .lst [], doorO 4 8, .lst [], doorO 5 10, .lst [], postO 6 "a" true, postO 7 "bob" true]) := hm [.lst [.ref 1, .ref 2, .ref 3, .ref 5, .ref 7, .ref 9, .ref 11], cellO 0 0, cellO 1 0, lineO 2 4, .lst [], lineO 3 6, .lst [], doorO 4 8, .lst [], doorO 5 10, .lst [], postO 6 "a" true] 7 (by decide)
    obtain ⟨M1, hM1⟩ : ∃ M1 : Mem, [.lst [.ref 1, .ref 2, .ref 3, .ref 5, .ref 7, .ref 9, .ref 11, .ref 12], cellO 0 0, cellO 1 0, lineO 2 4, .lst [], lineO 3 6, .lst [], doorO 4 8, .lst [], doorO 5 10, .lst [], postO 6 "a" true, postO 7 "bob" true] = M1 := ⟨_, rfl⟩
    have eC1 : C1 [some (.tl (ns.map W.int)), none, none, none, none, none, none, none, none, none, none] [] = .ok (.ref 0) M1 := by
      rw [← hC1, ← hM1]
      simp [xCompN, xIr1, rngW, List.range_succ, xBlkN, m0, m1, m2, m3, m4, m5, m6, m7, runB, startW, Out.res, xSeq, xIfS, xRet, xRetN, xDrop, xAsg, gN, xNext, xVar, xC, xNil, xCons, xBin, xUn, xCb, xBm, xAnd, xOr, xNot, xIf, xChain, xTup, xLst, xCall0, xNo, Res.bind, Res.of, iop, iopC, subM, divM, modM, mulM, powM, bandM, borM, ltM, gtM, geM, leM, negM, invM, addM, items, ixM, seqs, eqO, neO, eqM, flatW, eqFl, isiM, tyN, Kit.get, absM, sizeLine_eq, xFor, xLoop, xIl, xIt, xSl, xPn, xPs, slM, lenM, truM, intW, sumM, intM, maxM, minM, ordM, listM, isNonW, isNM, notNM, isBM, isnotBM, strW, joinM, xBmS, xIs, allBM, bolW, inM, keyW, dicts, ρC, splitM, gT2, xCallX, xMethX, xRaise, xTry, endX, fgt, xBmL, countM, slTM, isiX, tyX, kitA, clTy, catTM, tupleM, xLstN, countSM, indexSM, xLm, appM, xIr1, xRaiseI, xXf]
    have eC2 : C2 [some (.tl (ns.map W.int)), some (.ref 0), none, none, none, none, none, none, none, none, none] M1 = .ok (.ref 13) (M1 ++ [.lst deW, .lst [], .lst [], .lst [], .lst [], .lst [], .lst [], .lst [], .lst []]) := by
      rw [← hC2, ← hM1]
      simp [xCompN, xIr1, rngW, List.range_succ, xBlkN, deW, runB, startW, Out.res, xSeq, xIfS, xRet, xRetN, xDrop, xAsg, gN, xNext, xVar, xC, xNil, xCons, xBin, xUn, xCb, xBm, xAnd, xOr, xNot, xIf, xChain, xTup, xLst, xCall0, xNo, Res.bind, Res.of, iop, iopC, subM, divM, modM, mulM, powM, bandM, borM, ltM, gtM, geM, leM, negM, invM, addM, items, ixM, seqs, eqO, neO, eqM, flatW, eqFl, isiM, tyN, Kit.get, absM, sizeLine_eq, xFor, xLoop, xIl, xIt, xSl, xPn, xPs, slM, lenM, truM, intW, sumM, intM, maxM, minM, ordM, listM, isNonW, isNM, notNM, isBM, isnotBM, strW, joinM, xBmS, xIs, allBM, bolW, inM, keyW, dicts, ρC, splitM, gT2, xCallX, xMethX, xRaise, xTry, endX, fgt, xBmL, countM, slTM, isiX, tyX, kitA, clTy, catTM, tupleM, xLstN, countSM, indexSM, xLm, appM, xIr1, xRaiseI, xXf]
    obtain ⟨M2, hM2⟩ : ∃ M2 : Mem, M1 ++ [.lst deW, .lst [], .lst [], .lst [], .lst [], .lst [], .lst [], .lst [], .lst []] = M2 := ⟨_, rfl⟩
    rw [hM2] at eC2
    have hl22 : M2.length = 22 := by rw [← hM2, ← hM1]; rfl
    have pl0 : ∀ k, k < 8 → At M2 (Pa k) (Qa k) (k : Nat) (ini k) := by
      rw [← hM2, ← hM1]
      intro k hk
      match k, hk with
      | 0, _ => exact (rfl : _ = _)
      | 1, _ => exact (rfl : _ = _)
      | 2, _ => exact ⟨rfl, rfl, by decide⟩
      | 3, _ => exact ⟨rfl, rfl, by decide⟩
      | 4, _ => exact ⟨rfl, rfl, by decide⟩
      | 5, _ => exact ⟨rfl, rfl, by decide⟩
      | 6, _ => exact (rfl : _ = _)
      | 7, _ => exact (rfl : _ = _)
    have o00 : M2[0]? = some (.lst thW) := by rw [← hM2, ← hM1]; rfl
    have o130 : M2[13]? = some (.lst deW) := by rw [← hM2, ← hM1]; rfl
    have de00 : ∀ k, k < 8 → M2[14 + k]? = some (.lst []) := by
      rw [← hM2, ← hM1]
      intro k hk
      match k, hk with
      | 0, _ => rfl
      | 1, _ => rfl
      | 2, _ => rfl
      | 3, _ => rfl
      | 4, _ => rfl
      | 5, _ => rfl
      | 6, _ => rfl
      | 7, _ => rfl
    have eC3 : C3 [some (.tl (ns.map W.int)), some (.ref 0), some (.ref 13), none, none, none, none, none, none, none, none] M2 = .ok (.ref 22) (M2 ++ [.lst (seL ini)]) := by
      rw [← hC3]
      have efi : xIl (xVar 1) [some (.tl (ns.map W.int)), some (.ref 0), some (.ref 13), none, none, none, none, none, none, none, none] M2 = .ok (some 0) thW M2 := by simp [o00, runB, startW, Out.res, xSeq, xIfS, xRet, xRetN, xDrop, xAsg, gN, xNext, xVar, xC, xNil, xCons, xBin, xUn, xCb, xBm, xAnd, xOr, xNot, xIf, xChain, xTup, xLst, xCall0, xNo, Res.bind, Res.of, iop, iopC, subM, divM, modM, mulM, powM, bandM, borM, ltM, gtM, geM, leM, negM, invM, addM, items, ixM, seqs, eqO, neO, eqM, flatW, eqFl, isiM, tyN, Kit.get, absM, sizeLine_eq, xFor, xLoop, xIl, xIt, xSl, xPn, xPs, slM, lenM, truM, intW, sumM, intM, maxM, minM, ordM, listM, isNonW, isNM, notNM, isBM, isnotBM, strW, joinM, xBmS, xIs, allBM, bolW, inM, keyW, dicts, ρC, splitM, gT2, xCallX, xMethX, xRaise, xTry, endX, fgt, xBmL, countM, slTM, isiX, tyX, kitA, clTy, catTM, tupleM, xLstN, countSM, indexSM, xLm, appM, xIr1, xRaiseI, xXf]
      unfold xCompS
      rw [efi]
      dsimp only
      have ethw : thW = (List.range 8).map fun k => W.ref (Pa k) := rfl
      have eb := xBlkS_map (src := some 0) (all := thW) (h1 := M2) (fun k : Nat => W.ref (Pa k)) (fun k => tv (ini k)) (fun acc => kept o00) (List.range 8) [] (by simp) (G := gN 0) (c := xC (.bl true)) (el := xMeth (Str.ofString "told") (tab4 T1 T2 T3 T4) (xVar 0) xNil) (ρ0 := ρC 1 [] [some (.tl (ns.map W.int)), some (.ref 0), some (.ref 13), none, none, none, none, none, none, none, none]) (fun k hk acc => by
        have hk8 := List.mem_range.mp hk
        obtain ⟨c1, fs1, Ff1, Ft1, p1, p2, p3, p4, p5, p6, p7, p8, p9, p10, p11⟩ := fa ((pl0 k hk8).app [.lst acc]) (ini_wf k)
        refine ⟨_, rfl, rfl, ?_⟩
        simp [p1, p5, p8, p10, xMeth, runB, startW, Out.res, xSeq, xIfS, xRet, xRetN, xDrop, xAsg, gN, xNext, xVar, xC, xNil, xCons, xBin, xUn, xCb, xBm, xAnd, xOr, xNot, xIf, xChain, xTup, xLst, xCall0, xNo, Res.bind, Res.of, iop, iopC, subM, divM, modM, mulM, powM, bandM, borM, ltM, gtM, geM, leM, negM, invM, addM, items, ixM, seqs, eqO, neO, eqM, flatW, eqFl, isiM, tyN, Kit.get, absM, sizeLine_eq, xFor, xLoop, xIl, xIt, xSl, xPn, xPs, slM, lenM, truM, intW, sumM, intM, maxM, minM, ordM, listM, isNonW, isNM, notNM, isBM, isnotBM, strW, joinM, xBmS, xIs, allBM, bolW, inM, keyW, dicts, ρC, splitM, gT2, xCallX, xMethX, xRaise, xTry, endX, fgt, xBmL, countM, slTM, isiX, tyX, kitA, clTy, catTM, tupleM, xLstN, countSM, indexSM, xLm, appM, xIr1, xRaiseI, xXf])
      rw [← ethw, List.nil_append] at eb
      rw [hl22] at eb ⊢
      erw [eb]
      rfl
    have j0 : J (M2 ++ [.lst (seL ini)]) ini (fun _ => []) ini := by
      refine ⟨by rw [List.length_append, hl22]; simp, kept o00, kept o130, fun k hk => (pl0 k hk).app _, fun k hk => kept (de00 k hk), fun k hk => rfl, fun k hk y hy => (by cases hy), ?_⟩
      rw [List.getElem?_append_right (by omega), hl22]; rfl
    obtain ⟨ρ1, h1, e1, v4, v5, v6, v7, v8, v9, v10, s, ds, rfl, j1, _⟩ := xLoop_dn (fun f ρ h => ∃ v4 v5 v6 v7 v8 v9 v10 s ds, ρ = [some (.tl (ns.map W.int)), some (.ref 0), some (.ref 13), some (.ref 22), v4, v5, v6, v7, v8, v9, v10] ∧ J h s ds s ∧ ∀ k, k < 8 → (ds k).length + f ≤ 63) (ns.map W.int) [some (.tl (ns.map W.int)), some (.ref 0), some (.ref 13), some (.ref 22), none, none, none, none, none, none, none] (M2 ++ [.lst (seL ini)]) ⟨_, _, _, _, _, _, _, ini, fun _ => [], rfl, j0, fun k hk => by simpa using hl⟩ turn
    refine ⟨h1, congrArg Out.res (?_ : _ = Out.rt (.bl true) h1)⟩
    refine (xSeq_nx (ρ' := [some (.tl (ns.map W.int)), some (.ref 0), none, none, none, none, none, none, none, none, none]) (h' := M1) (by show xAsg (gN 1) C1 [some (.tl (ns.map W.int)), none, none, none, none, none, none, none, none, none, none] [] = _; rw [xAsg, eC1]; rfl)).trans ?_
    refine (xSeq_nx (ρ' := [some (.tl (ns.map W.int)), some (.ref 0), some (.ref 13), none, none, none, none, none, none, none, none]) (h' := M2) (by rw [xAsg, eC2]; rfl)).trans ?_
    refine (xSeq_nx (ρ' := [some (.tl (ns.map W.int)), some (.ref 0), some (.ref 13), some (.ref 22), none, none, none, none, none, none, none]) (h' := M2 ++ [.lst (seL ini)]) (by rw [xAsg, eC3]; rfl)).trans ?_
    refine (xSeq_nx ((xFor_loop (ws := ns.map W.int) (h' := M2 ++ [.lst (seL ini)]) (by simp [runB, startW, Out.res, xSeq, xIfS, xRet, xRetN, xDrop, xAsg, gN, xNext, xVar, xC, xNil, xCons, xBin, xUn, xCb, xBm, xAnd, xOr, xNot, xIf, xChain, xTup, xLst, xCall0, xNo, Res.bind, Res.of, iop, iopC, subM, divM, modM, mulM, powM, bandM, borM, ltM, gtM, geM, leM, negM, invM, addM, items, ixM, seqs, eqO, neO, eqM, flatW, eqFl, isiM, tyN, Kit.get, absM, sizeLine_eq, xFor, xLoop, xIl, xIt, xSl, xPn, xPs, slM, lenM, truM, intW, sumM, intM, maxM, minM, ordM, listM, isNonW, isNM, notNM, isBM, isnotBM, strW, joinM, xBmS, xIs, allBM, bolW, inM, keyW, dicts, ρC, splitM, gT2, xCallX, xMethX, xRaise, xTry, endX, fgt, xBmL, countM, slTM, isiX, tyX, kitA, clTy, catTM, tupleM, xLstN, countSM, indexSM, xLm, appM, xIr1, xRaiseI, xXf])).trans e1)).trans ?_
    simp [runB, startW, Out.res, xSeq, xIfS, xRet, xRetN, xDrop, xAsg, gN, xNext, xVar, xC, xNil, xCons, xBin, xUn, xCb, xBm, xAnd, xOr, xNot, xIf, xChain, xTup, xLst, xCall0, xNo, Res.bind, Res.of, iop, iopC, subM, divM, modM, mulM, powM, bandM, borM, ltM, gtM, geM, leM, negM, invM, addM, items, ixM, seqs, eqO, neO, eqM, flatW, eqFl, isiM, tyN, Kit.get, absM, sizeLine_eq, xFor, xLoop, xIl, xIt, xSl, xPn, xPs, slM, lenM, truM, intW, sumM, intM, maxM, minM, ordM, listM, isNonW, isNM, notNM, isBM, isnotBM, strW, joinM, xBmS, xIs, allBM, bolW, inM, keyW, dicts, ρC, splitM, gT2, xCallX, xMethX, xRaise, xTry, endX, fgt, xBmL, countM, slTM, isiX, tyX, kitA, clTy, catTM, tupleM, xLstN, countSM, indexSM, xLm, appM, xIr1, xRaiseI, xXf]

theorem mt {c m : Str} {F : Fm} {k : Nat} {f A : Addr} {fd : FuncData} {ps : List Str} (hA : T0 C c = some A) (hm : Meth K A m f) (Fk : FnOk P w K mg base CX0 k f fd ps (spH (T0 C) F)) (hb : Binds K fd ps []) : MtAt P w K mg base (T0 C) k c m F := ⟨A, f, fd, ps, hA, hm, Fk, hb⟩
theorem mtx {c m : Str} {F : Fm} {k : Nat} {f A : Addr} {fd : FuncData} {ps : List Str} {q : Bool} (hA : T0 C c = some A) (hm : Meth K A m f) (Fk : FnOk P w K mg base (CXe q P w) k f fd ps (spH (T0 C) F)) (hb : Binds K fd ps []) : MtX P w K mg base (T0 C) q k c m F := ⟨A, f, fd, ps, hA, hm, Fk, hb⟩
theorem fin {w : World} {h : Heap} {fa C_Cell C_Line C_Door C_Post C_Thing C_PassError C_Empty C_Full C_TooGreat : Addr} (KX : K.In h) (G : h.Ns mainGlobals mg) (hmg : mg "law" = some (.ref fa)) (hNL : noList K = true) (D0 : DefAt K mg "is_number" s_is_number) (D1 : DefAt K mg "is_value" s_is_value) (D2 : DefAt K mg "missing" s_missing) (D3 : DefAt K mg "within" s_within) (D4 : DefAt K mg "put_last" s_put_last) (D5 : DefAt K mg "first_out" s_first_out) (D6 : DefAt K mg "_law_made" s_l_made) (D7 : DefAt K mg "_law_deed" s_l_deed) (D8 : DefAt K mg "_law_done" s_l_done) (D9 : DefAt K mg "law" s_law) (n0 : mg "isinstance" = none) (n1 : mg "str" = none) (n2 : mg "int" = none) (n3 : mg "bool" = none) (n4 : mg "len" = none) (n5 : mg "range" = none) (n6 : mg "abs" = none) (n7 : mg "tuple" = none) (kt0 : PySem.W.kitOne K (.type "str") (.type "str") = some true) (kt1 : PySem.W.kitOne K (.type "int") (.type "int") = some true) (kt2 : PySem.W.kitOne K (.type "int") (.type "bool") = some false) (c0 : GC mg "LOOK" (.int 1)) (c1 : GC mg "PUT" (.int 2)) (c2 : GC mg "SEND" (.int 4)) (c3 : GC mg "HEAR" (.int 8)) (c4 : GC mg "END" (.int 16)) (c5 : GC mg "LINE_ROOM" (.int 9)) (c6 : GC mg "DOOR_ROOM" (.int 8)) (o_Cell : PySem.W.nsIn K mainGlobals "Cell" = some (some (.ref C_Cell))) (o_Line : PySem.W.nsIn K mainGlobals "Line" = some (some (.ref C_Line))) (o_Door : PySem.W.nsIn K mainGlobals "Door" = some (some (.ref C_Door))) (o_Post : PySem.W.nsIn K mainGlobals "Post" = some (some (.ref C_Post))) (o_Thing : PySem.W.nsIn K mainGlobals "Thing" = some (some (.ref C_Thing))) (o_PassError : PySem.W.nsIn K mainGlobals "PassError" = some (some (.ref C_PassError))) (o_Empty : PySem.W.nsIn K mainGlobals "Empty" = some (some (.ref C_Empty))) (o_Full : PySem.W.nsIn K mainGlobals "Full" = some (some (.ref C_Full))) (o_TooGreat : PySem.W.nsIn K mainGlobals "TooGreat" = some (some (.ref C_TooGreat))) (i_Cell : InsTy K C_Cell) (i_Line : InsTy K C_Line) (i_Door : InsTy K C_Door) (i_Post : InsTy K C_Post) (i_Thing : InsTy K C_Thing) (a_Cell_number : NoAttr K C_Cell "number") (a_Cell_amount : NoAttr K C_Cell "amount") (a_Cell_numbers : NoAttr K C_Cell "numbers") (a_Cell_waiting : NoAttr K C_Cell "waiting") (a_Cell_name : NoAttr K C_Cell "name") (a_Cell_runs : NoAttr K C_Cell "runs") (a_Line_number : NoAttr K C_Line "number") (a_Line_amount : NoAttr K C_Line "amount") (a_Line_numbers : NoAttr K C_Line "numbers") (a_Line_waiting : NoAttr K C_Line "waiting") (a_Line_name : NoAttr K C_Line "name") (a_Line_runs : NoAttr K C_Line "runs") (a_Door_number : NoAttr K C_Door "number") (a_Door_amount : NoAttr K C_Door "amount") (a_Door_numbers : NoAttr K C_Door "numbers") (a_Door_waiting : NoAttr K C_Door "waiting") (a_Door_name : NoAttr K C_Door "name") (a_Door_runs : NoAttr K C_Door "runs") (a_Post_number : NoAttr K C_Post "number") (a_Post_amount : NoAttr K C_Post "amount") (a_Post_numbers : NoAttr K C_Post "numbers") (a_Post_waiting : NoAttr K C_Post "waiting") (a_Post_name : NoAttr K C_Post "name") (a_Post_runs : NoAttr K C_Post "runs") (a_Thing_number : NoAttr K C_Thing "number") (a_Thing_amount : NoAttr K C_Thing "amount") (a_Thing_numbers : NoAttr K C_Thing "numbers") (a_Thing_waiting : NoAttr K C_Thing "waiting") (a_Thing_name : NoAttr K C_Thing "name") (a_Thing_runs : NoAttr K C_Thing "runs") (kT_Cell : PySem.W.kitOne K (.ref C_Cell) (.ref C_Thing) = some true) (kT_Line : PySem.W.kitOne K (.ref C_Line) (.ref C_Thing) = some true) (kT_Door : PySem.W.kitOne K (.ref C_Door) (.ref C_Thing) = some true) (kT_Post : PySem.W.kitOne K (.ref C_Post) (.ref C_Thing) = some true) (xa : excAll K [C_Empty, C_Full, C_TooGreat] = true) (cp : capAll K C_PassError [C_Empty, C_Full, C_TooGreat] = true) (ra : rzAll K [C_Empty, C_Full, C_TooGreat] = true) (cl : ClX K C_Thing "__init__" "Thing.__init__" s_Thing__init) (mk_Cell : MkX K C_Cell "Cell.__init__" s_Cell__init) (mk_Line : MkX K C_Line "Line.__init__" s_Line__init) (mk_Door : MkX K C_Door "Door.__init__" s_Door__init) (mk_Post : MkX K C_Post "Post.__init__" s_Post__init) (m_Cell_kind : MthX K C_Cell "kind" "Cell.kind" s_Cell_kind) (m_Cell_fits : MthX K C_Cell "fits" "Cell.fits" s_Cell_fits) (m_Cell_told : MthX K C_Cell "told" "Cell.told" s_Cell_told) (m_Cell_own_needs : MthX K C_Cell "own_needs" "Cell.own_needs" s_Cell_own_needs) (m_Cell_own_did : MthX K C_Cell "own_did" "Cell.own_did" s_Cell_own_did) (m_Line_kind : MthX K C_Line "kind" "Line.kind" s_Line_kind) (m_Line_fits : MthX K C_Line "fits" "Line.fits" s_Line_fits) (m_Line_told : MthX K C_Line "told" "Line.told" s_Line_told) (m_Line_own_needs : MthX K C_Line "own_needs" "Line.own_needs" s_Line_own_needs) (m_Line_own_did : MthX K C_Line "own_did" "Line.own_did" s_Line_own_did) (m_Door_kind : MthX K C_Door "kind" "Door.kind" s_Door_kind) (m_Door_fits : MthX K C_Door "fits" "Door.fits" s_Door_fits) (m_Door_told : MthX K C_Door "told" "Door.told" s_Door_told) (m_Door_own_needs : MthX K C_Door "own_needs" "Door.own_needs" s_Door_own_needs) (m_Door_own_did : MthX K C_Door "own_did" "Door.own_did" s_Door_own_did) (m_Post_kind : MthX K C_Post "kind" "Post.kind" s_Post_kind) (m_Post_fits : MthX K C_Post "fits" "Post.fits" s_Post_fits) (m_Post_told : MthX K C_Post "told" "Post.told" s_Post_told) (m_Post_own_needs : MthX K C_Post "own_needs" "Post.own_needs" s_Post_own_needs) (m_Post_own_did : MthX K C_Post "own_did" "Post.own_did" s_Post_own_did) (m_Cell_needs : MthX K C_Cell "needs" "Thing.needs" s_Thing_needs) (m_Cell_did : MthX K C_Cell "did" "Thing.did" s_Thing_did) (m_Line_needs : MthX K C_Line "needs" "Thing.needs" s_Thing_needs) (m_Line_did : MthX K C_Line "did" "Thing.did" s_Thing_did) (m_Door_needs : MthX K C_Door "needs" "Thing.needs" s_Thing_needs) (m_Door_did : MthX K C_Door "did" "Thing.did" s_Thing_did) (m_Post_needs : MthX K C_Post "needs" "Thing.needs" s_Thing_needs) (m_Post_did : MthX K C_Post "did" "Thing.did" s_Thing_did) :
    ∃ fd : FuncData, (∀ (s : Shared) (u : Value), BindsTo s fd ⟨[u], []⟩ [("_law_script", u)]) ∧ ∀ base : Heap, K.In base → base.Ns mainGlobals mg → FnOk P w K mg base CX0 6 fa fd ["_law_script"] (sp_law K) := by
  obtain ⟨C, hC⟩ : ∃ C : Cs, C = ⟨C_Cell, C_Line, C_Door, C_Post, C_Thing, C_Empty, C_Full, C_TooGreat⟩ := ⟨_, rfl⟩
  have hT : ∀ c A, T0 C c = some A → A = C_Cell ∨ A = C_Line ∨ A = C_Door ∨ A = C_Post ∨ A = C_Thing := fun c A e => by
    subst hC
    have e : (if c = "Cell" then some C_Cell else if c = "Line" then some C_Line else if c = "Door" then some C_Door else if c = "Post" then some C_Post else if c = "Thing" then some C_Thing else none) = some A := e
    split at e
    · cases e; exact .inl rfl
    · split at e
      · cases e; exact .inr (.inl rfl)
      · split at e
        · cases e; exact .inr (.inr (.inl rfl))
        · split at e
          · cases e; exact .inr (.inr (.inr (.inl rfl)))
          · split at e
            · cases e; exact .inr (.inr (.inr (.inr rfl)))
            · cases e
  have hX : ∀ c A, (T0 C).x c = some A → (c = "Empty" ∧ A = C_Empty) ∨ (c = "Full" ∧ A = C_Full) ∨ (c = "TooGreat" ∧ A = C_TooGreat) := fun c A e => by
    subst hC
    have e : (if c = "Empty" then some C_Empty else if c = "Full" then some C_Full else if c = "TooGreat" then some C_TooGreat else none) = some A := e
    split at e
    · rename_i hc; cases e; exact .inl ⟨hc, rfl⟩
    · split at e
      · rename_i hc; cases e; exact .inr (.inl ⟨hc, rfl⟩)
      · split at e
        · rename_i hc; cases e; exact .inr (.inr ⟨hc, rfl⟩)
        · cases e
  have hM : ∀ c A, (T0 C).x c = some A → A ∈ [C_Empty, C_Full, C_TooGreat] := fun c A e => by
    rcases hX c A e with ⟨_, rfl⟩ | ⟨_, rfl⟩ | ⟨_, rfl⟩ <;> simp
  have hE : ExcOk K (T0 C) := fun c A e => ⟨by
    rcases hX c A e with ⟨rfl, _⟩ | ⟨rfl, _⟩ | ⟨rfl, _⟩ <;> (subst hC; rfl), excAll_of xa (hM c A e)⟩
  have hI : InsOk K (T0 C) := fun c A e => by
    rcases hT c A e with rfl | rfl | rfl | rfl | rfl
    · exact i_Cell
    · exact i_Line
    · exact i_Door
    · exact i_Post
    · exact i_Thing
  have f_number : FldOk K (T0 C) "number" := fun c A e => by
    rcases hT c A e with rfl | rfl | rfl | rfl | rfl
    · exact ⟨i_Cell.cl, a_Cell_number⟩
    · exact ⟨i_Line.cl, a_Line_number⟩
    · exact ⟨i_Door.cl, a_Door_number⟩
    · exact ⟨i_Post.cl, a_Post_number⟩
    · exact ⟨i_Thing.cl, a_Thing_number⟩
  have f_amount : FldOk K (T0 C) "amount" := fun c A e => by
    rcases hT c A e with rfl | rfl | rfl | rfl | rfl
    · exact ⟨i_Cell.cl, a_Cell_amount⟩
    · exact ⟨i_Line.cl, a_Line_amount⟩
    · exact ⟨i_Door.cl, a_Door_amount⟩
    · exact ⟨i_Post.cl, a_Post_amount⟩
    · exact ⟨i_Thing.cl, a_Thing_amount⟩
  have f_numbers : FldOk K (T0 C) "numbers" := fun c A e => by
    rcases hT c A e with rfl | rfl | rfl | rfl | rfl
    · exact ⟨i_Cell.cl, a_Cell_numbers⟩
    · exact ⟨i_Line.cl, a_Line_numbers⟩
    · exact ⟨i_Door.cl, a_Door_numbers⟩
    · exact ⟨i_Post.cl, a_Post_numbers⟩
    · exact ⟨i_Thing.cl, a_Thing_numbers⟩
  have f_waiting : FldOk K (T0 C) "waiting" := fun c A e => by
    rcases hT c A e with rfl | rfl | rfl | rfl | rfl
    · exact ⟨i_Cell.cl, a_Cell_waiting⟩
    · exact ⟨i_Line.cl, a_Line_waiting⟩
    · exact ⟨i_Door.cl, a_Door_waiting⟩
    · exact ⟨i_Post.cl, a_Post_waiting⟩
    · exact ⟨i_Thing.cl, a_Thing_waiting⟩
  have f_name : FldOk K (T0 C) "name" := fun c A e => by
    rcases hT c A e with rfl | rfl | rfl | rfl | rfl
    · exact ⟨i_Cell.cl, a_Cell_name⟩
    · exact ⟨i_Line.cl, a_Line_name⟩
    · exact ⟨i_Door.cl, a_Door_name⟩
    · exact ⟨i_Post.cl, a_Post_name⟩
    · exact ⟨i_Thing.cl, a_Thing_name⟩
  have f_runs : FldOk K (T0 C) "runs" := fun c A e => by
    rcases hT c A e with rfl | rfl | rfl | rfl | rfl
    · exact ⟨i_Cell.cl, a_Cell_runs⟩
    · exact ⟨i_Line.cl, a_Line_runs⟩
    · exact ⟨i_Door.cl, a_Door_runs⟩
    · exact ⟨i_Post.cl, a_Post_runs⟩
    · exact ⟨i_Thing.cl, a_Thing_runs⟩
  have hK : KitOk K (T0 C) kitL := by
    subst hC
    intro e he
    simp only [kitL, List.mem_cons, List.not_mem_nil, or_false] at he
    rcases he with rfl | rfl | rfl | rfl | rfl | rfl | rfl
    · exact ⟨_, _, rfl, rfl, kt0⟩
    · exact ⟨_, _, rfl, rfl, kt1⟩
    · exact ⟨_, _, rfl, rfl, kt2⟩
    · exact ⟨_, _, ⟨C_Cell, rfl, rfl⟩, ⟨C_Thing, rfl, rfl⟩, kT_Cell⟩
    · exact ⟨_, _, ⟨C_Line, rfl, rfl⟩, ⟨C_Thing, rfl, rfl⟩, kT_Line⟩
    · exact ⟨_, _, ⟨C_Door, rfl, rfl⟩, ⟨C_Thing, rfl, rfl⟩, kT_Door⟩
    · exact ⟨_, _, ⟨C_Post, rfl, rfl⟩, ⟨C_Thing, rfl, rfl⟩, kT_Post⟩
  have gc : ∀ {x : Str} {A : Addr}, PySem.W.nsIn K mainGlobals x = some (some (.ref A)) → GC mg x (.ref A) := fun o => gc_mk KX G o rfl
  have T : Tx K mg C := ⟨n0, n1, n2, n3, n4, n5, n6, n7, c0, c1, c2, c3, c4, c5, c6, hI, hE, hK, f_number, f_amount, f_numbers, f_waiting, f_name, f_runs, ⟨C_Empty, by subst hC; rfl, PySem.W.mg_of KX G o_Empty, rzAll_of ra (by simp)⟩, ⟨C_Full, by subst hC; rfl, PySem.W.mg_of KX G o_Full, rzAll_of ra (by simp)⟩, ⟨C_TooGreat, by subst hC; rfl, PySem.W.mg_of KX G o_TooGreat, rzAll_of ra (by simp)⟩, cap_of cp (PySem.W.mg_of KX G o_PassError) (fun c A _ e => hM c A e), by subst hC; exact gc o_Thing, by subst hC; rfl⟩
  refine law_mk D9 hmg bd_law fun f fd F base => ?_
  obtain ⟨f0, d0, x0, R0⟩ := cl
  obtain ⟨F0, G0, h0⟩ := ok_ti (P := P) (w := w) (base := base) T R0
  have Gv := ok_val (P := P) (w := w) (base := base) T (ok_num T D0) D1
  obtain ⟨Fp, Gp, hp⟩ := ok_put (P := P) (w := w) (base := base) T D4
  obtain ⟨Fo, Go, ho⟩ := ok_out (P := P) (w := w) (base := base) T D5
  obtain ⟨Fm_, Gm_, hm_⟩ := ok_mis (P := P) (w := w) (base := base) T D2
  obtain ⟨Fw, Gw, hw⟩ := ok_within (P := P) (w := w) (base := base) T hm_ Gm_ D3
  obtain ⟨fi0, di0, xi0, Ri0⟩ := mk_Cell
  obtain ⟨Fi0, Gi0, hi0⟩ := ok_i0 (P := P) (w := w) (base := base) T h0 ⟨C_Thing, f0, d0, _, PySem.W.mg_of KX G o_Thing, x0, G0, R0.binds bd_Thing__init⟩ Ri0
  obtain ⟨fk0, dk0, xk0, Rk0⟩ := m_Cell_kind
  obtain ⟨Fk0, Gk0, hk0⟩ := ok_k0 (P := P) (w := w) (mg := mg) (base := base) (C := C) Rk0
  obtain ⟨ff0, df0, xf0, Rf0⟩ := m_Cell_fits
  obtain ⟨Ff0, Gf0, hf0⟩ := ok_f0 (P := P) (w := w) (mg := mg) (base := base) (C := C) T Rf0
  obtain ⟨ft0, dt0, xt0, Rt0⟩ := m_Cell_told
  obtain ⟨Ft0, Gt0, ht0⟩ := ok_t0 (P := P) (w := w) (mg := mg) (base := base) (C := C) T Rt0
  obtain ⟨fo0, do0, xo0, Ro0⟩ := m_Cell_own_needs
  obtain ⟨Fo0, Go0, ho0⟩ := ok_o0 (P := P) (w := w) (mg := mg) (base := base) (C := C) T Ro0
  obtain ⟨fd0, dd0, xd0, Rd0⟩ := m_Cell_own_did
  obtain ⟨Fd0, Gd0, hd0⟩ := ok_d0 (P := P) (w := w) (mg := mg) (base := base) (C := C) T Gv Rd0
  obtain ⟨fneeds0, dneeds0, xneeds0, Rneeds0⟩ := m_Cell_needs
  obtain ⟨fdid0, ddid0, xdid0, Rdid0⟩ := m_Cell_did
  obtain ⟨fi1, di1, xi1, Ri1⟩ := mk_Line
  obtain ⟨Fi1, Gi1, hi1⟩ := ok_i1 (P := P) (w := w) (base := base) T h0 ⟨C_Thing, f0, d0, _, PySem.W.mg_of KX G o_Thing, x0, G0, R0.binds bd_Thing__init⟩ Ri1
  obtain ⟨fk1, dk1, xk1, Rk1⟩ := m_Line_kind
  obtain ⟨Fk1, Gk1, hk1⟩ := ok_k1 (P := P) (w := w) (mg := mg) (base := base) (C := C) Rk1
  obtain ⟨ff1, df1, xf1, Rf1⟩ := m_Line_fits
  obtain ⟨Ff1, Gf1, hf1⟩ := ok_f1 (P := P) (w := w) (mg := mg) (base := base) (C := C) T Rf1
  obtain ⟨ft1, dt1, xt1, Rt1⟩ := m_Line_told
  obtain ⟨Ft1, Gt1, ht1⟩ := ok_t1 (P := P) (w := w) (mg := mg) (base := base) (C := C) T Rt1
  obtain ⟨fo1, do1, xo1, Ro1⟩ := m_Line_own_needs
  obtain ⟨Fo1, Go1, ho1⟩ := ok_o1 (P := P) (w := w) (mg := mg) (base := base) (C := C) T Ro1
  obtain ⟨fd1, dd1, xd1, Rd1⟩ := m_Line_own_did
  obtain ⟨Fd1, Gd1, hd1⟩ := ok_d1 (P := P) (w := w) (mg := mg) (base := base) (C := C) T hp ho Gp Go Rd1
  obtain ⟨fneeds1, dneeds1, xneeds1, Rneeds1⟩ := m_Line_needs
  obtain ⟨fdid1, ddid1, xdid1, Rdid1⟩ := m_Line_did
  obtain ⟨fi2, di2, xi2, Ri2⟩ := mk_Door
  obtain ⟨Fi2, Gi2, hi2⟩ := ok_i2 (P := P) (w := w) (base := base) T h0 ⟨C_Thing, f0, d0, _, PySem.W.mg_of KX G o_Thing, x0, G0, R0.binds bd_Thing__init⟩ Ri2
  obtain ⟨fk2, dk2, xk2, Rk2⟩ := m_Door_kind
  obtain ⟨Fk2, Gk2, hk2⟩ := ok_k2 (P := P) (w := w) (mg := mg) (base := base) (C := C) Rk2
  obtain ⟨ff2, df2, xf2, Rf2⟩ := m_Door_fits
  obtain ⟨Ff2, Gf2, hf2⟩ := ok_f2 (P := P) (w := w) (mg := mg) (base := base) (C := C) T Rf2
  obtain ⟨ft2, dt2, xt2, Rt2⟩ := m_Door_told
  obtain ⟨Ft2, Gt2, ht2⟩ := ok_t2 (P := P) (w := w) (mg := mg) (base := base) (C := C) T Rt2
  obtain ⟨fo2, do2, xo2, Ro2⟩ := m_Door_own_needs
  obtain ⟨Fo2, Go2, ho2⟩ := ok_o2 (P := P) (w := w) (mg := mg) (base := base) (C := C) T Ro2
  obtain ⟨fd2, dd2, xd2, Rd2⟩ := m_Door_own_did
  obtain ⟨Fd2, Gd2, hd2⟩ := ok_d2 (P := P) (w := w) (mg := mg) (base := base) (C := C) T hp ho Gp Go Rd2
  obtain ⟨fneeds2, dneeds2, xneeds2, Rneeds2⟩ := m_Door_needs
  obtain ⟨fdid2, ddid2, xdid2, Rdid2⟩ := m_Door_did
  obtain ⟨fi3, di3, xi3, Ri3⟩ := mk_Post
  obtain ⟨Fi3, Gi3, hi3⟩ := ok_i3 (P := P) (w := w) (base := base) T h0 ⟨C_Thing, f0, d0, _, PySem.W.mg_of KX G o_Thing, x0, G0, R0.binds bd_Thing__init⟩ Ri3
  obtain ⟨fk3, dk3, xk3, Rk3⟩ := m_Post_kind
  obtain ⟨Fk3, Gk3, hk3⟩ := ok_k3 (P := P) (w := w) (mg := mg) (base := base) (C := C) Rk3
  obtain ⟨ff3, df3, xf3, Rf3⟩ := m_Post_fits
  obtain ⟨Ff3, Gf3, hf3⟩ := ok_f3 (P := P) (w := w) (mg := mg) (base := base) (C := C) T Rf3
  obtain ⟨ft3, dt3, xt3, Rt3⟩ := m_Post_told
  obtain ⟨Ft3, Gt3, ht3⟩ := ok_t3 (P := P) (w := w) (mg := mg) (base := base) (C := C) T Rt3
  obtain ⟨fo3, do3, xo3, Ro3⟩ := m_Post_own_needs
  obtain ⟨Fo3, Go3, ho3⟩ := ok_o3 (P := P) (w := w) (mg := mg) (base := base) (C := C) T Ro3
  obtain ⟨fd3, dd3, xd3, Rd3⟩ := m_Post_own_did
  obtain ⟨Fd3, Gd3, hd3⟩ := ok_d3 (P := P) (w := w) (mg := mg) (base := base) (C := C) T Rd3
  obtain ⟨fneeds3, dneeds3, xneeds3, Rneeds3⟩ := m_Post_needs
  obtain ⟨fdid3, ddid3, xdid3, Rdid3⟩ := m_Post_did
  have Mk := (tab4_x (P := P) (w := w) (mg := mg) (base := base) (C := C) (mtx (by subst hC; rfl) xk0 Gk0 (Rk0.binds bd_Cell_kind)) (mtx (by subst hC; rfl) xk1 Gk1 (Rk1.binds bd_Line_kind)) (mtx (by subst hC; rfl) xk2 Gk2 (Rk2.binds bd_Door_kind)) (mtx (by subst hC; rfl) xk3 Gk3 (Rk3.binds bd_Post_kind)))
  have Mf := (tab4_at (P := P) (w := w) (mg := mg) (base := base) (C := C) (mt (by subst hC; rfl) xf0 Gf0 (Rf0.binds bd_Cell_fits)) (mt (by subst hC; rfl) xf1 Gf1 (Rf1.binds bd_Line_fits)) (mt (by subst hC; rfl) xf2 Gf2 (Rf2.binds bd_Door_fits)) (mt (by subst hC; rfl) xf3 Gf3 (Rf3.binds bd_Post_fits)))
  have Mt := (tab4_at (P := P) (w := w) (mg := mg) (base := base) (C := C) (mt (by subst hC; rfl) xt0 Gt0 (Rt0.binds bd_Cell_told)) (mt (by subst hC; rfl) xt1 Gt1 (Rt1.binds bd_Line_told)) (mt (by subst hC; rfl) xt2 Gt2 (Rt2.binds bd_Door_told)) (mt (by subst hC; rfl) xt3 Gt3 (Rt3.binds bd_Post_told)))
  have Mo := (tab4_at (P := P) (w := w) (mg := mg) (base := base) (C := C) (mt (by subst hC; rfl) xo0 Go0 (Ro0.binds bd_Cell_own_needs)) (mt (by subst hC; rfl) xo1 Go1 (Ro1.binds bd_Line_own_needs)) (mt (by subst hC; rfl) xo2 Go2 (Ro2.binds bd_Door_own_needs)) (mt (by subst hC; rfl) xo3 Go3 (Ro3.binds bd_Post_own_needs)))
  have Md := (tab4_x (P := P) (w := w) (mg := mg) (base := base) (C := C) (mtx (by subst hC; rfl) xd0 Gd0 (Rd0.binds bd_Cell_own_did)) (mtx (by subst hC; rfl) xd1 Gd1 (Rd1.binds bd_Line_own_did)) (mtx (by subst hC; rfl) xd2 Gd2 (Rd2.binds bd_Door_own_did)) (mtx (by subst hC; rfl) xd3 Gd3 (Rd3.binds bd_Post_own_did)))
  obtain ⟨Fn, Gn, hn⟩ := ok_needs (P := P) (w := w) (base := base) T ho0 ho1 ho2 ho3 Mo
  have Mn : TabAt P w K mg base (T0 C) 2 "needs" (tab4 Fn Fn Fn Fn) := tab4_at (mt (by subst hC; rfl) xneeds0 (Gn Rneeds0) (Rneeds0.binds bd_Thing_needs)) (mt (by subst hC; rfl) xneeds1 (Gn Rneeds1) (Rneeds1.binds bd_Thing_needs)) (mt (by subst hC; rfl) xneeds2 (Gn Rneeds2) (Rneeds2.binds bd_Thing_needs)) (mt (by subst hC; rfl) xneeds3 (Gn Rneeds3) (Rneeds3.binds bd_Thing_needs))
  obtain ⟨Fd, Gd, hd⟩ := ok_did (P := P) (w := w) (base := base) T hn hk0 hk1 hk2 hk3 hd0 hd1 hd2 hd3 Mn Mk Md
  have MD : TabX P w K mg base (T0 C) true 4 "did" (tab4 Fd Fd Fd Fd) := tab4_x (mtx (by subst hC; rfl) xdid0 (Gd Rdid0) (Rdid0.binds bd_Thing_did)) (mtx (by subst hC; rfl) xdid1 (Gd Rdid1) (Rdid1.binds bd_Thing_did)) (mtx (by subst hC; rfl) xdid2 (Gd Rdid2) (Rdid2.binds bd_Thing_did)) (mtx (by subst hC; rfl) xdid3 (Gd Rdid3) (Rdid3.binds bd_Thing_did))
  obtain ⟨Fma, Gma, hma⟩ := ok_made (P := P) (w := w) (base := base) T hi0 hi1 hi2 hi3 ⟨C_Cell, fi0, di0, _, by subst hC; rfl, PySem.W.mg_of KX G o_Cell, xi0, Gi0, Ri0.binds bd_Cell__init⟩ ⟨C_Line, fi1, di1, _, by subst hC; rfl, PySem.W.mg_of KX G o_Line, xi1, Gi1, Ri1.binds bd_Line__init⟩ ⟨C_Door, fi2, di2, _, by subst hC; rfl, PySem.W.mg_of KX G o_Door, xi2, Gi2, Ri2.binds bd_Door__init⟩ ⟨C_Post, fi3, di3, _, by subst hC; rfl, PySem.W.mg_of KX G o_Post, xi3, Gi3, Ri3.binds bd_Post__init⟩ D6
  obtain ⟨Fde, Gde, hde⟩ := ok_deed (P := P) (w := w) (base := base) T D7
  obtain ⟨Fdn, Gdn, hdn⟩ := ok_done (P := P) (w := w) (base := base) T hd hk0 hk1 hk2 hk3 ht0 ht1 ht2 ht3 MD Mk Mt D8
  exact (ok_law T F hn hf0 hf1 hf2 hf3 ht0 ht1 ht2 ht3 hw hma hde hdn Mn Mf Mt Gw Gma Gde Gdn).imp (lawF_sp hNL)
end
end K26
-- the head makes no twins of these
def PySem.W.Fast.tw11785250775864320594 : Nat := 0
def PySem.W.Fast.tw16520055052069871925 : Nat := 0
def PySem.W.Fast.tw14553583059245654486 : Nat := 0
def PySem.W.Fast.tw13192849220686952640 : Nat := 0
def PySem.W.Fast.tw3925566955609801310 : Nat := 0
def PySem.W.Fast.tw11398030090358062497 : Nat := 0
def PySem.W.Fast.tw4871922850947676451 : Nat := 0
def PySem.W.Fast.tw2965336393626401517 : Nat := 0
def PySem.W.Fast.tw10003711798440172493 : Nat := 0
def PySem.W.Fast.tw7471180795178132893 : Nat := 0
def PySem.W.Fast.tw10409319620947958979 : Nat := 0
def PySem.W.Fast.tw3565946919358309407 : Nat := 0
def PySem.W.Fast.tw14372553561119993277 : Nat := 0
def PySem.W.Fast.tw4078988743176887691 : Nat := 0
def PySem.W.Fast.tw469539462311400646 : Nat := 0
def PySem.W.Fast.tw9308748050258856663 : Nat := 0
def PySem.W.Fast.tw15002870848261209585 : Nat := 0
open PySem PySem.W PyProof.Rows
set_option maxRecDepth 100000 in
set_option maxHeartbeats 0 in
theorem PySem.Challenge.cw_passkeep_k26_whole_things_by_turns_holds : PySem.Challenge.rw_passkeep_k26_whole_things_by_turns.Holds := by
  w_on; o_law; k_head; (case hw => w_witness2)
  k_fill
  refine L2.walk0 (l := PySem.Challenge.rw_passkeep_k26_whole_things_by_turns) (k := 6) (x := "_law_script") rfl rfl ⟨by decide, by decide⟩ (fun w h Y => PySem.W.kIn_of Y) ?F
  case F =>
    intro w mg fa h KX G hmg
    have hNL : M.noList (L2.KOf KX) = true := by dsimp only [L2.KOf]; kernel_rfl
    have D_is_number : L2.DefAt (L2.KOf KX) mg "is_number" K26.s_is_number := by
      dsimp only [L2.KOf]; refine' L2.def_mk KX G ?a ?l ?c ?k; (case a => k_is); (case l => k_is); (case c => k_is); (case k => k_is)
    have D_is_value : L2.DefAt (L2.KOf KX) mg "is_value" K26.s_is_value := by
      dsimp only [L2.KOf]; refine' L2.def_mk KX G ?a ?l ?c ?k; (case a => k_is); (case l => k_is); (case c => k_is); (case k => k_is)
    have D_missing : L2.DefAt (L2.KOf KX) mg "missing" K26.s_missing := by
      dsimp only [L2.KOf]; refine' L2.def_mk KX G ?a ?l ?c ?k; (case a => k_is); (case l => k_is); (case c => k_is); (case k => k_is)
    have D_within : L2.DefAt (L2.KOf KX) mg "within" K26.s_within := by
      dsimp only [L2.KOf]; refine' L2.def_mk KX G ?a ?l ?c ?k; (case a => k_is); (case l => k_is); (case c => k_is); (case k => k_is)
    have D_put_last : L2.DefAt (L2.KOf KX) mg "put_last" K26.s_put_last := by
      dsimp only [L2.KOf]; refine' L2.def_mk KX G ?a ?l ?c ?k; (case a => k_is); (case l => k_is); (case c => k_is); (case k => k_is)
    have D_first_out : L2.DefAt (L2.KOf KX) mg "first_out" K26.s_first_out := by
      dsimp only [L2.KOf]; refine' L2.def_mk KX G ?a ?l ?c ?k; (case a => k_is); (case l => k_is); (case c => k_is); (case k => k_is)
    have D_l_made : L2.DefAt (L2.KOf KX) mg "_law_made" K26.s_l_made := by
      dsimp only [L2.KOf]; refine' L2.def_mk KX G ?a ?l ?c ?k; (case a => k_is); (case l => k_is); (case c => k_is); (case k => k_is)
    have D_l_deed : L2.DefAt (L2.KOf KX) mg "_law_deed" K26.s_l_deed := by
      dsimp only [L2.KOf]; refine' L2.def_mk KX G ?a ?l ?c ?k; (case a => k_is); (case l => k_is); (case c => k_is); (case k => k_is)
    have D_l_done : L2.DefAt (L2.KOf KX) mg "_law_done" K26.s_l_done := by
      dsimp only [L2.KOf]; refine' L2.def_mk KX G ?a ?l ?c ?k; (case a => k_is); (case l => k_is); (case c => k_is); (case k => k_is)
    have D_law : L2.DefAt (L2.KOf KX) mg "law" K26.s_law := by
      dsimp only [L2.KOf]; refine' L2.def_mk KX G ?a ?l ?c ?k; (case a => k_is); (case l => k_is); (case c => k_is); (case k => k_is)
    have N_isinstance : mg "isinstance" = none := PySem.W.mg_none_of KX G (by k_is)
    have N_str : mg "str" = none := PySem.W.mg_none_of KX G (by k_is)
    have N_int : mg "int" = none := PySem.W.mg_none_of KX G (by k_is)
    have N_bool : mg "bool" = none := PySem.W.mg_none_of KX G (by k_is)
    have N_len : mg "len" = none := PySem.W.mg_none_of KX G (by k_is)
    have N_range : mg "range" = none := PySem.W.mg_none_of KX G (by k_is)
    have N_abs : mg "abs" = none := PySem.W.mg_none_of KX G (by k_is)
    have N_tuple : mg "tuple" = none := PySem.W.mg_none_of KX G (by k_is)
    have k_str_str : PySem.W.kitOne (L2.KOf KX) (.type "str") (.type "str") = some true := by dsimp only [L2.KOf]; kit_is
    have k_int_int : PySem.W.kitOne (L2.KOf KX) (.type "int") (.type "int") = some true := by dsimp only [L2.KOf]; kit_is
    have k_int_bool : PySem.W.kitOne (L2.KOf KX) (.type "int") (.type "bool") = some false := by dsimp only [L2.KOf]; kit_is
    have c_LOOK : L2.GC mg "LOOK" (.int 1) := L2.gc_mk KX G (by k_is) ⟨_, rfl⟩
    have c_PUT : L2.GC mg "PUT" (.int 2) := L2.gc_mk KX G (by k_is) ⟨_, rfl⟩
    have c_SEND : L2.GC mg "SEND" (.int 4) := L2.gc_mk KX G (by k_is) ⟨_, rfl⟩
    have c_HEAR : L2.GC mg "HEAR" (.int 8) := L2.gc_mk KX G (by k_is) ⟨_, rfl⟩
    have c_END : L2.GC mg "END" (.int 16) := L2.gc_mk KX G (by k_is) ⟨_, rfl⟩
    have c_LINE_ROOM : L2.GC mg "LINE_ROOM" (.int 9) := L2.gc_mk KX G (by k_is) ⟨_, rfl⟩
    have c_DOOR_ROOM : L2.GC mg "DOOR_ROOM" (.int 8) := L2.gc_mk KX G (by k_is) ⟨_, rfl⟩

    refine' K26.fin KX G hmg hNL D_is_number D_is_value D_missing D_within D_put_last D_first_out D_l_made D_l_deed D_l_done D_law N_isinstance N_str N_int N_bool N_len N_range N_abs N_tuple k_str_str k_int_int k_int_bool c_LOOK c_PUT c_SEND c_HEAR c_END c_LINE_ROOM c_DOOR_ROOM ?gg28 ?gg29 ?gg30 ?gg31 ?gg32 ?gg33 ?gg34 ?gg35 ?gg36 ?gg37 ?gg38 ?gg39 ?gg40 ?gg41 ?gg42 ?gg43 ?gg44 ?gg45 ?gg46 ?gg47 ?gg48 ?gg49 ?gg50 ?gg51 ?gg52 ?gg53 ?gg54 ?gg55 ?gg56 ?gg57 ?gg58 ?gg59 ?gg60 ?gg61 ?gg62 ?gg63 ?gg64 ?gg65 ?gg66 ?gg67 ?gg68 ?gg69 ?gg70 ?gg71 ?gg72 ?gg73 ?gg74 ?gg75 ?gg76 ?gg77 ?gg78 ?gg79 ?gg80 ?gg81 ?gg82 ?gg83 ?gg84 ?gg85 ?gg86 ?gg87 ?gg88 ?gg89 ?gg90 ?gg91 ?gg92 ?gg93 ?gg94 ?gg95 ?gg96 ?gg97 ?gg98 ?gg99 ?gg100 ?gg101 ?gg102 ?gg103 ?gg104 ?gg105 ?gg106 ?gg107 ?gg108 ?gg109 ?gg110 ?gg111
    (case gg28 => k_is)
    (case gg29 => k_is)
    (case gg30 => k_is)
    (case gg31 => k_is)
    (case gg32 => k_is)
    (case gg33 => k_is)
    (case gg34 => k_is)
    (case gg35 => k_is)
    (case gg36 => k_is)
    (case gg37 => refine' M.ins_mk ?qa_37 ?qb_37 ?qc_37 ?qd_37 ?qe_37 ?qf_37 ?qg_37 ?qh_37; (case qa_37 => k_is); (case qb_37 => k_is); (case qc_37 => k_is); (case qd_37 => k_is); (case qe_37 => k_is); (case qf_37 => k_is); (case qg_37 => k_is); (case qh_37 => k_is))
    (case gg38 => refine' M.ins_mk ?qa_38 ?qb_38 ?qc_38 ?qd_38 ?qe_38 ?qf_38 ?qg_38 ?qh_38; (case qa_38 => k_is); (case qb_38 => k_is); (case qc_38 => k_is); (case qd_38 => k_is); (case qe_38 => k_is); (case qf_38 => k_is); (case qg_38 => k_is); (case qh_38 => k_is))
    (case gg39 => refine' M.ins_mk ?qa_39 ?qb_39 ?qc_39 ?qd_39 ?qe_39 ?qf_39 ?qg_39 ?qh_39; (case qa_39 => k_is); (case qb_39 => k_is); (case qc_39 => k_is); (case qd_39 => k_is); (case qe_39 => k_is); (case qf_39 => k_is); (case qg_39 => k_is); (case qh_39 => k_is))
    (case gg40 => refine' M.ins_mk ?qa_40 ?qb_40 ?qc_40 ?qd_40 ?qe_40 ?qf_40 ?qg_40 ?qh_40; (case qa_40 => k_is); (case qb_40 => k_is); (case qc_40 => k_is); (case qd_40 => k_is); (case qe_40 => k_is); (case qf_40 => k_is); (case qg_40 => k_is); (case qh_40 => k_is))
    (case gg41 => refine' M.ins_mk ?qa_41 ?qb_41 ?qc_41 ?qd_41 ?qe_41 ?qf_41 ?qg_41 ?qh_41; (case qa_41 => k_is); (case qb_41 => k_is); (case qc_41 => k_is); (case qd_41 => k_is); (case qe_41 => k_is); (case qf_41 => k_is); (case qg_41 => k_is); (case qh_41 => k_is))
    (case gg42 => show PySem.W.findIn _ _ _ = _; k_is)
    (case gg43 => show PySem.W.findIn _ _ _ = _; k_is)
    (case gg44 => show PySem.W.findIn _ _ _ = _; k_is)
    (case gg45 => show PySem.W.findIn _ _ _ = _; k_is)
    (case gg46 => show PySem.W.findIn _ _ _ = _; k_is)
    (case gg47 => show PySem.W.findIn _ _ _ = _; k_is)
    (case gg48 => show PySem.W.findIn _ _ _ = _; k_is)
    (case gg49 => show PySem.W.findIn _ _ _ = _; k_is)
    (case gg50 => show PySem.W.findIn _ _ _ = _; k_is)
    (case gg51 => show PySem.W.findIn _ _ _ = _; k_is)
    (case gg52 => show PySem.W.findIn _ _ _ = _; k_is)
    (case gg53 => show PySem.W.findIn _ _ _ = _; k_is)
    (case gg54 => show PySem.W.findIn _ _ _ = _; k_is)
    (case gg55 => show PySem.W.findIn _ _ _ = _; k_is)
    (case gg56 => show PySem.W.findIn _ _ _ = _; k_is)
    (case gg57 => show PySem.W.findIn _ _ _ = _; k_is)
    (case gg58 => show PySem.W.findIn _ _ _ = _; k_is)
    (case gg59 => show PySem.W.findIn _ _ _ = _; k_is)
    (case gg60 => show PySem.W.findIn _ _ _ = _; k_is)
    (case gg61 => show PySem.W.findIn _ _ _ = _; k_is)
    (case gg62 => show PySem.W.findIn _ _ _ = _; k_is)
    (case gg63 => show PySem.W.findIn _ _ _ = _; k_is)
    (case gg64 => show PySem.W.findIn _ _ _ = _; k_is)
    (case gg65 => show PySem.W.findIn _ _ _ = _; k_is)
    (case gg66 => show PySem.W.findIn _ _ _ = _; k_is)
    (case gg67 => show PySem.W.findIn _ _ _ = _; k_is)
    (case gg68 => show PySem.W.findIn _ _ _ = _; k_is)
    (case gg69 => show PySem.W.findIn _ _ _ = _; k_is)
    (case gg70 => show PySem.W.findIn _ _ _ = _; k_is)
    (case gg71 => show PySem.W.findIn _ _ _ = _; k_is)
    (case gg72 => first | kit_is | k_is)
    (case gg73 => first | kit_is | k_is)
    (case gg74 => first | kit_is | k_is)
    (case gg75 => first | kit_is | k_is)
    (case gg76 => first | kernel_rfl | decide +kernel | (dsimp only [L2.KOf]; kernel_rfl) | (trace_state; k_is))
    (case gg77 => first | kernel_rfl | decide +kernel | (dsimp only [L2.KOf]; kernel_rfl) | (trace_state; k_is))
    (case gg78 => first | kernel_rfl | decide +kernel | (dsimp only [L2.KOf]; kernel_rfl) | (trace_state; k_is))
    (case gg79 => refine' M.clx ?qx_79 ?qy_79 ?qz_79 ?qw_79 ?ql_79 ?qc_79 ?qk_79; (case qx_79 => k_is); (case qy_79 => k_is); (case qz_79 => k_is); (case qw_79 => k_is); (case ql_79 => k_is); (case qc_79 => k_is); (case qk_79 => k_is))
    (case gg80 => refine' M.mkx ?qm_80 ?qn_80 ?qa_80 ?qi_80 ?ql_80 ?qc_80 ?qk_80; (case qm_80 => k_is); (case qn_80 => k_is); (case qa_80 => k_is); (case qi_80 => k_is); (case ql_80 => k_is); (case qc_80 => k_is); (case qk_80 => k_is))
    (case gg81 => refine' M.mkx ?qm_81 ?qn_81 ?qa_81 ?qi_81 ?ql_81 ?qc_81 ?qk_81; (case qm_81 => k_is); (case qn_81 => k_is); (case qa_81 => k_is); (case qi_81 => k_is); (case ql_81 => k_is); (case qc_81 => k_is); (case qk_81 => k_is))
    (case gg82 => refine' M.mkx ?qm_82 ?qn_82 ?qa_82 ?qi_82 ?ql_82 ?qc_82 ?qk_82; (case qm_82 => k_is); (case qn_82 => k_is); (case qa_82 => k_is); (case qi_82 => k_is); (case ql_82 => k_is); (case qc_82 => k_is); (case qk_82 => k_is))
    (case gg83 => refine' M.mkx ?qm_83 ?qn_83 ?qa_83 ?qi_83 ?ql_83 ?qc_83 ?qk_83; (case qm_83 => k_is); (case qn_83 => k_is); (case qa_83 => k_is); (case qi_83 => k_is); (case ql_83 => k_is); (case qc_83 => k_is); (case qk_83 => k_is))
    (case gg84 => refine' M.mthx ?qa_84 ?qi_84 ?ql_84 ?qc_84 ?qk_84; (case qa_84 => k_is); (case qi_84 => k_is); (case ql_84 => k_is); (case qc_84 => k_is); (case qk_84 => k_is))
    (case gg85 => refine' M.mthx ?qa_85 ?qi_85 ?ql_85 ?qc_85 ?qk_85; (case qa_85 => k_is); (case qi_85 => k_is); (case ql_85 => k_is); (case qc_85 => k_is); (case qk_85 => k_is))
    (case gg86 => refine' M.mthx ?qa_86 ?qi_86 ?ql_86 ?qc_86 ?qk_86; (case qa_86 => k_is); (case qi_86 => k_is); (case ql_86 => k_is); (case qc_86 => k_is); (case qk_86 => k_is))
    (case gg87 => refine' M.mthx ?qa_87 ?qi_87 ?ql_87 ?qc_87 ?qk_87; (case qa_87 => k_is); (case qi_87 => k_is); (case ql_87 => k_is); (case qc_87 => k_is); (case qk_87 => k_is))
    (case gg88 => refine' M.mthx ?qa_88 ?qi_88 ?ql_88 ?qc_88 ?qk_88; (case qa_88 => k_is); (case qi_88 => k_is); (case ql_88 => k_is); (case qc_88 => k_is); (case qk_88 => k_is))
    (case gg89 => refine' M.mthx ?qa_89 ?qi_89 ?ql_89 ?qc_89 ?qk_89; (case qa_89 => k_is); (case qi_89 => k_is); (case ql_89 => k_is); (case qc_89 => k_is); (case qk_89 => k_is))
    (case gg90 => refine' M.mthx ?qa_90 ?qi_90 ?ql_90 ?qc_90 ?qk_90; (case qa_90 => k_is); (case qi_90 => k_is); (case ql_90 => k_is); (case qc_90 => k_is); (case qk_90 => k_is))
    (case gg91 => refine' M.mthx ?qa_91 ?qi_91 ?ql_91 ?qc_91 ?qk_91; (case qa_91 => k_is); (case qi_91 => k_is); (case ql_91 => k_is); (case qc_91 => k_is); (case qk_91 => k_is))
    (case gg92 => refine' M.mthx ?qa_92 ?qi_92 ?ql_92 ?qc_92 ?qk_92; (case qa_92 => k_is); (case qi_92 => k_is); (case ql_92 => k_is); (case qc_92 => k_is); (case qk_92 => k_is))
    (case gg93 => refine' M.mthx ?qa_93 ?qi_93 ?ql_93 ?qc_93 ?qk_93; (case qa_93 => k_is); (case qi_93 => k_is); (case ql_93 => k_is); (case qc_93 => k_is); (case qk_93 => k_is))
    (case gg94 => refine' M.mthx ?qa_94 ?qi_94 ?ql_94 ?qc_94 ?qk_94; (case qa_94 => k_is); (case qi_94 => k_is); (case ql_94 => k_is); (case qc_94 => k_is); (case qk_94 => k_is))
    (case gg95 => refine' M.mthx ?qa_95 ?qi_95 ?ql_95 ?qc_95 ?qk_95; (case qa_95 => k_is); (case qi_95 => k_is); (case ql_95 => k_is); (case qc_95 => k_is); (case qk_95 => k_is))
    (case gg96 => refine' M.mthx ?qa_96 ?qi_96 ?ql_96 ?qc_96 ?qk_96; (case qa_96 => k_is); (case qi_96 => k_is); (case ql_96 => k_is); (case qc_96 => k_is); (case qk_96 => k_is))
    (case gg97 => refine' M.mthx ?qa_97 ?qi_97 ?ql_97 ?qc_97 ?qk_97; (case qa_97 => k_is); (case qi_97 => k_is); (case ql_97 => k_is); (case qc_97 => k_is); (case qk_97 => k_is))
    (case gg98 => refine' M.mthx ?qa_98 ?qi_98 ?ql_98 ?qc_98 ?qk_98; (case qa_98 => k_is); (case qi_98 => k_is); (case ql_98 => k_is); (case qc_98 => k_is); (case qk_98 => k_is))
    (case gg99 => refine' M.mthx ?qa_99 ?qi_99 ?ql_99 ?qc_99 ?qk_99; (case qa_99 => k_is); (case qi_99 => k_is); (case ql_99 => k_is); (case qc_99 => k_is); (case qk_99 => k_is))
    (case gg100 => refine' M.mthx ?qa_100 ?qi_100 ?ql_100 ?qc_100 ?qk_100; (case qa_100 => k_is); (case qi_100 => k_is); (case ql_100 => k_is); (case qc_100 => k_is); (case qk_100 => k_is))
    (case gg101 => refine' M.mthx ?qa_101 ?qi_101 ?ql_101 ?qc_101 ?qk_101; (case qa_101 => k_is); (case qi_101 => k_is); (case ql_101 => k_is); (case qc_101 => k_is); (case qk_101 => k_is))
    (case gg102 => refine' M.mthx ?qa_102 ?qi_102 ?ql_102 ?qc_102 ?qk_102; (case qa_102 => k_is); (case qi_102 => k_is); (case ql_102 => k_is); (case qc_102 => k_is); (case qk_102 => k_is))
    (case gg103 => refine' M.mthx ?qa_103 ?qi_103 ?ql_103 ?qc_103 ?qk_103; (case qa_103 => k_is); (case qi_103 => k_is); (case ql_103 => k_is); (case qc_103 => k_is); (case qk_103 => k_is))
    (case gg104 => refine' M.mthx ?qa_104 ?qi_104 ?ql_104 ?qc_104 ?qk_104; (case qa_104 => k_is); (case qi_104 => k_is); (case ql_104 => k_is); (case qc_104 => k_is); (case qk_104 => k_is))
    (case gg105 => refine' M.mthx ?qa_105 ?qi_105 ?ql_105 ?qc_105 ?qk_105; (case qa_105 => k_is); (case qi_105 => k_is); (case ql_105 => k_is); (case qc_105 => k_is); (case qk_105 => k_is))
    (case gg106 => refine' M.mthx ?qa_106 ?qi_106 ?ql_106 ?qc_106 ?qk_106; (case qa_106 => k_is); (case qi_106 => k_is); (case ql_106 => k_is); (case qc_106 => k_is); (case qk_106 => k_is))
    (case gg107 => refine' M.mthx ?qa_107 ?qi_107 ?ql_107 ?qc_107 ?qk_107; (case qa_107 => k_is); (case qi_107 => k_is); (case ql_107 => k_is); (case qc_107 => k_is); (case qk_107 => k_is))
    (case gg108 => refine' M.mthx ?qa_108 ?qi_108 ?ql_108 ?qc_108 ?qk_108; (case qa_108 => k_is); (case qi_108 => k_is); (case ql_108 => k_is); (case qc_108 => k_is); (case qk_108 => k_is))
    (case gg109 => refine' M.mthx ?qa_109 ?qi_109 ?ql_109 ?qc_109 ?qk_109; (case qa_109 => k_is); (case qi_109 => k_is); (case ql_109 => k_is); (case qc_109 => k_is); (case qk_109 => k_is))
    (case gg110 => refine' M.mthx ?qa_110 ?qi_110 ?ql_110 ?qc_110 ?qk_110; (case qa_110 => k_is); (case qi_110 => k_is); (case ql_110 => k_is); (case qc_110 => k_is); (case qk_110 => k_is))
    (case gg111 => refine' M.mthx ?qa_111 ?qi_111 ?ql_111 ?qc_111 ?qk_111; (case qa_111 => k_is); (case qi_111 => k_is); (case ql_111 => k_is); (case qc_111 => k_is); (case qk_111 => k_is))
