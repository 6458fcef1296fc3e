import PyProof.Rows.All
import Wide.All
import OpenK.AllK
import Wide.FinOn
import Lean
import PyProof.EqAt
import PyProof.EqKinds
import PyProof.TupleCall
import KE.LcSums
import PySem.Challenge.RW_passkeep_k21_what_deeds_need
set_option Elab.async false
set_option linter.all false
set_option maxRecDepth 100000
/-! THE HAND LAYER, for ints, bools, texts, own classes, LISTS and tuples (index, slices, in, append, pop ..), calls, loops. Paste it whole ahead of your own text; what your proof does not reach may be deleted. -/
namespace L2
open PySem PySem.Spec PyProof.Rows

/-- a key: an int or a str -/
abbrev Key := Sum Int Str
def keyIs : Key → Value → Bool
  | .inl k, v => Value.isInt k v
  | .inr x, v => Value.isStrOf x v
def keyH (w : World) : Key → Int
  | .inl k => hashInt k
  | .inr x => hashStr w x
theorem keyIs_shape : ∀ {k : Key} {v : Value}, keyIs k v = true → (∃ i t, k = Sum.inl i ∧ v = Value.int i t) ∨ (∃ x t, k = Sum.inr x ∧ v = Value.str x t)
  | .inl i, v, h => by
    obtain ⟨t, e⟩ := Value.isInt_shape (k := i) (v := v) h
    exact .inl ⟨i, t, rfl, e⟩
  | .inr x, v, h => by
    obtain ⟨t, e⟩ := Value.isStrOf_shape (x := x) (v := v) h
    exact .inr ⟨x, t, rfl, e⟩
theorem keyIs_int (i : Int) (t : Tok) : keyIs (.inl i) (.int i t) = true := by simp [keyIs, Value.isInt]
theorem keyIs_str (x : Str) (t : Tok) : keyIs (.inr x) (.str x t) = true := by simp [keyIs, Value.isStrOf]
theorem key_ll (a b : Int) : decide ((Sum.inl a : Key) = Sum.inl b) = (a == b) := by
  by_cases e : a = b
  · subst e; simp
  · have h : ¬ (Sum.inl a : Key) = Sum.inl b := fun q => e (Sum.inl.inj q)
    rw [decide_eq_false h]
    exact (beq_eq_false_iff_ne.mpr e).symm
theorem key_rr (a b : Str) : decide ((Sum.inr a : Key) = Sum.inr b) = decide (a = b) := by
  by_cases e : a = b
  · subst e; simp
  · have h : ¬ (Sum.inr a : Key) = Sum.inr b := fun q => e (Sum.inr.inj q)
    rw [decide_eq_false h, decide_eq_false e]
theorem key_lr (a : Int) (b : Str) : decide ((Sum.inl a : Key) = Sum.inr b) = false := decide_eq_false (fun q => nomatch q)
theorem key_rl (a : Str) (b : Int) : decide ((Sum.inr a : Key) = Sum.inl b) = false := decide_eq_false (fun q => nomatch q)

def mixKind (prog : Program) (w : World) : PySem.KeyKind prog w Key where
  is := keyIs
  hash := keyH w
  inj := fun v a b ha hb => by
    rcases keyIs_shape ha with ⟨i, t, rfl, rfl⟩ | ⟨x, t, rfl, rfl⟩
    · rcases keyIs_shape hb with ⟨j, u, rfl, e⟩ | ⟨y, u, rfl, e⟩
      · injection e with e1 _; rw [e1]
      · exact nomatch e
    · rcases keyIs_shape hb with ⟨j, u, rfl, e⟩ | ⟨y, u, rfl, e⟩
      · exact nomatch e
      · injection e with e1 _; rw [e1]
  byValue := fun k v h => by
    rcases keyIs_shape h with ⟨i, t, rfl, rfl⟩ | ⟨x, t, rfl, rfl⟩ <;> rfl
  pyHash := fun hv h => by
    rcases keyIs_shape hv with ⟨i, t, rfl, rfl⟩ | ⟨x, t, rfl, rfl⟩
    · exact wpAny_pyHash_int h
    · exact wpAny_pyHash_str h
  eqBool := fun hu hv h => by
    rcases keyIs_shape hu with ⟨i, t, rfl, rfl⟩ | ⟨x, t, rfl, rfl⟩
    · rcases keyIs_shape hv with ⟨j, u, rfl, rfl⟩ | ⟨y, u, rfl, rfl⟩
      · rw [key_ll] at h; exact wpAny_eqBool_int h
      · rw [key_lr] at h; exact SeqAt.EqAt.int_str i t y u _ _ _ _ h
    · rcases keyIs_shape hv with ⟨j, u, rfl, rfl⟩ | ⟨y, u, rfl, rfl⟩
      · rw [key_rl] at h; exact SeqAt.EqAt.str_int x t j u _ _ _ _ h
      · rw [key_rr] at h; exact wpAny_eqBool_str h
  «strs» := fun k x t v h => by
    rcases keyIs_shape h with ⟨i, u, rfl, e⟩ | ⟨y, u, rfl, e⟩
    · exact nomatch e
    · injection e with e1 _
      subst e1
      cases v <;> rfl

theorem mixKind_int (prog : Program) (w : World) (i : Int) (t : Tok) : (mixKind prog w).is (.inl i) (.int i t) = true := keyIs_int i t
theorem mixKind_str (prog : Program) (w : World) (x : Str) (t : Tok) : (mixKind prog w).is (.inr x) (.str x t) = true := keyIs_str x t
end L2

namespace L2
open PySem PySem.Spec PyProof.Rows

/-- a value, without the heap -/
inductive V where
  | non | bl (b : Bool) | int (i : Int) | str (x : Str) | byt (b : Array UInt8) | flt (b : UInt64) | ref (a : Addr) | ty (n : String)
  deriving DecidableEq

def RelV : V → Value → Prop
  | .non, u => u = Value.none
  | .bl b, u => u = Value.bool b
  | .int i, u => ∃ t, u = Value.int i t
  | .str x, u => ∃ t, u = Value.str x t
  | .byt b, u => ∃ t, u = Value.bytes b t
  | .flt b, u => ∃ t, u = Value.float b t
  | .ref a, u => u = Value.ref a
  | .ty n, u => u = Value.type n

abbrev Vals : List V → List Value → Prop := Paired RelV
theorem Vals.length {xs : List V} {us : List Value} (r : Vals xs us) : xs.length = us.length := Paired.length r
theorem Vals.get : ∀ {xs : List V} {us : List Value} {i : Nat} {x : V}, Vals xs us → xs[i]? = some x → ∃ u, us[i]? = some u ∧ RelV x u
  | _, _, _, _, .nil, e => by simp at e
  | _, _, 0, _, .cons r _, e => by simp at e; subst e; exact ⟨_, rfl, r⟩
  | _, _, i + 1, x, .cons _ t, e => by
    obtain ⟨u, h1, h2⟩ := Vals.get (i := i) (x := x) t (by simpa using e)
    exact ⟨u, by simpa using h1, h2⟩
theorem Vals.set {x : V} {u : Value} (r : RelV x u) : ∀ {xs : List V} {us : List Value} (i : Nat), Vals xs us → Vals (xs.set i x) (us.set i u)
  | _, _, _, .nil => .nil
  | _, _, 0, .cons _ t => .cons r t
  | _, _, i + 1, .cons q t => .cons q (Vals.set r i t)
theorem Vals.append : ∀ {xs ys : List V} {us ws : List Value}, Vals xs us → Vals ys ws → Vals (xs ++ ys) (us ++ ws)
  | _, _, _, _, .nil, s => s
  | _, _, _, _, .cons r t, s => .cons r (Vals.append t s)
theorem Vals.take : ∀ {xs : List V} {us : List Value} (n : Nat), Vals xs us → Vals (xs.take n) (us.take n)
  | _, _, 0, _ => .nil
  | _, _, _ + 1, .nil => .nil
  | _, _, n + 1, .cons r t => .cons r (Vals.take n t)
theorem Vals.drop : ∀ {xs : List V} {us : List Value} (n : Nat), Vals xs us → Vals (xs.drop n) (us.drop n)
  | _, _, 0, r => r
  | _, _, _ + 1, .nil => .nil
  | _, _, n + 1, .cons _ t => Vals.drop n t
theorem Vals.none_of : ∀ {xs : List V} {us : List Value} {i : Nat}, Vals xs us → xs[i]? = none → us[i]? = none := fun {xs us i} r e => by
  have h1 := r.length
  have h2 : xs.length ≤ i := List.getElem?_eq_none_iff.mp e
  exact List.getElem?_eq_none_iff.mpr (by omega)

def RelO : Option V → Option Value → Prop
  | some v, some u => RelV v u
  | none, none => True
  | _, _ => False
def KV {κ : Type} : List (κ × V) → List (κ × Value) → Prop := Paired fun (p : κ × V) (q : κ × Value) => p.1 = q.1 ∧ RelV p.2 q.2

/-- a key of a dict (00_mix): an int or a text -/
def kV : Key → V
  | .inl i => .int i
  | .inr x => .str x

/-- what stands at a tracked address -/
inductive HO where
  /-- a list -/
  | lst (xs : List V)
  /-- a tuple (never changes) -/
  | tup (xs : List V)
  /-- a dict whose keys are ints and texts; one whose keys are tuples of ints and texts (the empty one is both) -/
  | dK (kvs : List (Key × V)) | dT (kvs : List (List Key × V))
  /-- a set of ints: its members, its size -/
  | set (S : Int → Bool) (n : Nat)
  /-- an instance of the class at C, its dict at dx, its attributes -/
  | ins (C dx : Addr) (fs : List (Str × V))
  /-- the dict of the instance at x -/
  | own (x : Addr)
  /-- the dict of an exception -/
  | xd (fs : List (Str × V))
  /-- a bound method, f of x -/
  | met (f x : Addr)
  /-- a range object lo, lo + 1, .. below hi -/
  | rng (lo hi : Int)
  /-- a thing that is known to the object (the script; a dict while a loop walks it): read, never written while it is so -/
  | frz (o : Obj) (u : HO)
  /-- a code object's table -/
  | tbl (ps : Array Value)
  /-- any other thing, by what is true of its one object (a def of one's own: SetO a S n := HO.ext fun h => ..) -/
  | ext (φ : Heap → Prop)

abbrev Hp := Addr → Option HO
def upd (H : Hp) (a : Addr) (o : HO) : Hp := fun b => if b = a then some o else H b
theorem upd_same {H : Hp} {a : Addr} {o : HO} : upd H a o a = some o := by unfold upd; rw [if_pos rfl]
theorem upd_ne {H : Hp} {a b : Addr} {o : HO} (h : b ≠ a) : upd H a o b = H b := by unfold upd; rw [if_neg h]
theorem upd_upd {H : Hp} {a : Addr} {o u : HO} : upd (upd H a o) a u = upd H a u := by
  funext b; unfold upd; split <;> rfl
theorem ne_of_none {H : Hp} {a b : Addr} {o : HO} (h : H a = some o) (h' : H b = none) : a ≠ b := by
  intro e; subst e; rw [h] at h'; cases h'

section
variable (P : Program) (w : World)
def ObjOk (H : Hp) (h : Heap) (a : Addr) : HO → Prop
  | .lst xs => xs.length ≤ sizeLine ∧ ∃ (its : List Value) (n : Nat), Vals xs its ∧ h.get? a = some { cls := .type "list", data := .seq its.toArray n }
  | .tup xs => xs.length ≤ sizeLine ∧ ∃ its : List Value, Vals xs its ∧ IsTup h a its.toArray
  | .dK kvs => kvs.length ≤ sizeLine ∧ (a == sysModules) = false ∧ ∃ vs, KV kvs vs ∧ h.DictOf (mixKind P w) a vs
  | .dT kvs => kvs.length ≤ sizeLine ∧ (a == sysModules) = false ∧ ∃ xs : List (List Key × Addr × Value),
      Paired (fun (p : List Key × V) (q : List Key × Addr × Value) => p.1 = q.1 ∧ H q.2.1 = some (.tup (p.1.map kV)) ∧ RelV p.2 q.2.2) kvs xs ∧
      ∃ o es ep, h.get? a = some o ∧ o.ExactDict ∧ o.data = .dict es ep ∧ es.toList = xs.map (entryOfKey (tupleKind (mixKind P w))) ∧ (xs.map (·.1)).Nodup
  | .set S n => h.SetOf (intKind P w) a S n
  | .ins C dx fs => H dx = some (.own a) ∧ fs.length ≤ 1000 ∧ dx ≠ a ∧ h.get? a = some (PySem.W.instObj C dx) ∧
      ∃ mA, h.Ns1 dx mA ∧ (∀ f, RelO (fs.lookup f) (mA f)) ∧ PySem.Within mA (fs.map (·.1))
  | .own _ => ∃ o, h.get? a = some o
  | .xd fs => ∃ mA, h.Ns1 a mA ∧ ∀ f, RelO (fs.lookup f) (mA f)
  | .rng lo hi => ∃ t u v, h.get? a = some { cls := .type "range", data := .fields #[.int lo t, .int hi u, .int 1 v] }
  | .frz o u => h.get? a = some o ∧ ObjOk H h a u
  | .tbl ps => h.get? a = some { cls := .none, data := .fields ps }
  | .met f x => h.get? a = some (PySem.W.methodObj (.ref f) (.ref x))
  | .ext φ => φ h ∧ (∃ o, h.get? a = some o) ∧ ∀ h1 h2 : Heap, φ h1 → (∀ o, h1.get? a = some o → h2.get? a = some o) → φ h2
/-- the abstract heap is held -/
def HOk (H : Hp) (h : Heap) : Prop := ∀ a o, H a = some o → ObjOk P w H h a o
end

section
variable {P : Program} {w : World} {H H' : Hp} {h h' : Heap} {a : Addr} {o : HO}
theorem ObjOk.lt (x : ObjOk P w H h a o) : a < h.objs.size := by
  cases o with
  | lst xs => obtain ⟨_, _, _, _, e⟩ := x; exact Heap.lt_size e
  | tup xs => obtain ⟨_, _, _, p⟩ := x; exact p.lt
  | dK kvs => obtain ⟨_, _, _, _, o, _, _, e, _⟩ := x; exact Heap.lt_size e
  | dT kvs => obtain ⟨_, _, _, _, o, _, _, e, _⟩ := x; exact Heap.lt_size e
  | set S n => obtain ⟨o, _, _, _, e, _⟩ := x; exact Heap.lt_size e
  | ins C dx fs => obtain ⟨_, _, _, e, _⟩ := x; exact Heap.lt_size e
  | own y => obtain ⟨_, e⟩ := x; exact Heap.lt_size e
  | xd fs => obtain ⟨_, ⟨_, _, _, e, _⟩, _⟩ := x; exact Heap.lt_size e
  | rng lo hi => obtain ⟨_, _, _, e⟩ := x; exact Heap.lt_size e
  | frz ob u => obtain ⟨e, _⟩ := x; exact Heap.lt_size e
  | tbl ps => exact Heap.lt_size (show h.get? a = some _ from x)
  | met f y => exact Heap.lt_size (show h.get? a = some _ from x)
  | ext φ => obtain ⟨_, ⟨_, e⟩, _⟩ := x; exact Heap.lt_size e
theorem Paired.mapP {α β : Type} {F G : α → β → Prop} : ∀ {l₁ : List α} {l₂ : List β}, Paired F l₁ l₂ → (∀ a b, F a b → G a b) → Paired G l₁ l₂
  | _, _, .nil, _ => .nil
  | _, _, .cons r t, f => .cons (f _ _ r) (Paired.mapP t f)
/-- what an object's description leans on: its own object, its own dict, the tuples -/
theorem ObjOk.stay (x : ObjOk P w H h a o) (k : ∀ b u, (b = a ∨ H b = some (.own a)) → h.get? b = some u → h'.get? b = some u)
    (ho : ∀ b, H b = some (.own a) → H' b = some (.own a)) (ht : ∀ b xs, H b = some (.tup xs) → H' b = some (.tup xs)) : ObjOk P w H' h' a o := by
  induction o with
  | lst xs => obtain ⟨z, its, n, r, e⟩ := x; exact ⟨z, its, n, r, k _ _ (.inl rfl) e⟩
  | tup xs => obtain ⟨z, its, r, ob, e, c⟩ := x; exact ⟨z, its, r, ob, k _ _ (.inl rfl) e, c⟩
  | dK kvs => obtain ⟨z, y, vs, r, ob, es, ep, e, c⟩ := x; exact ⟨z, y, vs, r, ob, es, ep, k _ _ (.inl rfl) e, c⟩
  | dT kvs =>
    obtain ⟨z, y, xs, r, ob, es, ep, e, c⟩ := x
    exact ⟨z, y, xs, Paired.mapP r fun p q z => ⟨z.1, ht _ _ z.2.1, z.2.2⟩, ob, es, ep, k _ _ (.inl rfl) e, c⟩
  | set S n => obtain ⟨ob, es, ep, t, e, c⟩ := x; exact ⟨ob, es, ep, t, k _ _ (.inl rfl) e, c⟩
  | ins C dx fs =>
    obtain ⟨d, z, ne, e, mA, ⟨od, es, ep, e2, c⟩, r⟩ := x
    exact ⟨ho _ d, z, ne, k _ _ (.inl rfl) e, mA, ⟨od, es, ep, k _ _ (.inr d) e2, c⟩, r⟩
  | own y => obtain ⟨ob, e⟩ := x; exact ⟨ob, k _ _ (.inl rfl) e⟩
  | xd fs => obtain ⟨mA, ⟨od, es, ep, e, c⟩, r⟩ := x; exact ⟨mA, ⟨od, es, ep, k _ _ (.inl rfl) e, c⟩, r⟩
  | rng lo hi => obtain ⟨t, u, v, e⟩ := x; exact ⟨t, u, v, k _ _ (.inl rfl) e⟩
  | frz ob u ih => obtain ⟨e, q⟩ := x; exact ⟨k _ _ (.inl rfl) e, ih q⟩
  | tbl ps =>
    have e : h.get? a = some { cls := .none, data := .fields ps } := x
    show h'.get? a = some { cls := .none, data := .fields ps }
    exact k a _ (.inl rfl) e
  | met f y =>
    have e : h.get? a = some (PySem.W.methodObj (.ref f) (.ref y)) := x
    show h'.get? a = some (PySem.W.methodObj (.ref f) (.ref y))
    exact k a _ (.inl rfl) e
  | ext φ => obtain ⟨p, ⟨o, e⟩, st⟩ := x; exact ⟨st _ _ p fun o q => k _ _ (.inl rfl) q, ⟨o, k _ _ (.inl rfl) e⟩, st⟩
theorem HOk.lt (x : HOk P w H h) (e : H a = some o) : a < h.objs.size := (x a o e).lt
theorem HOk.fresh (x : HOk P w H h) (e : h.objs.size ≤ a) : H a = none := by
  cases q : H a with
  | none => rfl
  | some u => exact absurd (Nat.lt_of_lt_of_le (x.lt q) e) (Nat.lt_irrefl _)
/-- every object of the heap is kept -/
theorem HOk.kept (x : HOk P w H h) (k : ∀ b u, h.get? b = some u → h'.get? b = some u) : HOk P w H h' := fun a o e =>
  (x a o e).stay (fun b u _ q => k b u q) (fun _ q => q) fun _ _ q => q
/-- a new object is laid and tracked -/
theorem HOk.laid (x : HOk P w H h) (k : ∀ b u, h.get? b = some u → h'.get? b = some u) (hp : h.objs.size ≤ a) (new : ObjOk P w (upd H a o) h' a o) : HOk P w (upd H a o) h' := fun b u e => by
  have hn := x.fresh hp
  by_cases hb : b = a
  · subst hb; rw [upd_same] at e; cases e; exact new
  · rw [upd_ne hb] at e
    exact (x b u e).stay (fun c v _ q => k c v q) (fun c q => by rw [upd_ne (ne_of_none q hn)]; exact q) fun c xs q => by rw [upd_ne (ne_of_none q hn)]; exact q
end

/-- what may be read as u: it is u, or a known u -/
def Rd (H : Hp) (a : Addr) (u : HO) : Prop := H a = some u ∨ ∃ o, H a = some (.frz o u)
theorem Rd.of {H : Hp} {a : Addr} {u : HO} (h : H a = some u) : Rd H a u := .inl h
theorem Rd.ok {P : Program} {w : World} {H : Hp} {h : Heap} {a : Addr} {u : HO} (r : Rd H a u) (x : HOk P w H h) : ObjOk P w H h a u := by
  rcases r with r | ⟨o, r⟩
  · exact x a u r
  · obtain ⟨_, q⟩ := x a _ r
    exact q
/-- what may be written -/
def Mut : Option HO → Prop
  | some (.lst _) => True
  | some (.dK _) => True
  | some (.dT _) => True
  | some (.set _ _) => True
  | some (.ins _ _ _) => True
  | some (.ext _) => True
  | _ => False
section
variable {P : Program} {w : World} {H : Hp} {h h' : Heap} {x e : Addr} {o' : HO}
/-- the object at e is changed: x itself, or the dict of the instance x -/
theorem HOk.write (ok : HOk P w H h) (mu : Mut (H x)) (he : e = x ∨ H e = some (.own x)) (k : ∀ b u, b ≠ e → h.get? b = some u → h'.get? b = some u) (heo : ∃ u, h'.get? e = some u)
    (new : ObjOk P w (upd H x o') h' x o') : HOk P w (upd H x o') h' := fun b u q => by
  have nown : ∀ c y, H c = some (.own y) → c ≠ x := fun c y r z => by subst z; rw [r] at mu; exact mu
  have ntup : ∀ c xs, H c = some (.tup xs) → c ≠ x := fun c xs r z => by subst z; rw [r] at mu; exact mu
  by_cases hb : b = x
  · subst hb; rw [upd_same] at q; cases q; exact new
  · rw [upd_ne hb] at q
    by_cases hbe : b = e
    · have q' : H b = some (.own x) := by
        rcases he with z | z
        · exact absurd (hbe.trans z) hb
        · rw [hbe]; exact z
      rw [q] at q'; cases q'
      obtain ⟨v, hv⟩ := heo
      exact ⟨v, by rw [hbe]; exact hv⟩
    · refine (ok b u q).stay (fun c v hc r => k c v ?_ r) (fun c r => by rw [upd_ne (nown c b r)]; exact r) fun c xs r => by rw [upd_ne (ntup c xs r)]; exact r
      rcases hc with rfl | hc
      · exact hbe
      · rintro rfl
        rcases he with z | z
        · exact nown c b hc z
        · rw [hc] at z; cases z; exact hb rfl
end

/-! ### kept unless tracked; of the frames at fs (the callers') the slots may change (an exception that passes writes there); of the records at ex (iterators) nothing is said -/
structure Un (fs ex : List Addr) (H H' : Hp) (h h' : Heap) : Prop where
  keep : ∀ b o, h.get? b = some o → H b = none → b ∉ fs → b ∉ ex → h'.get? b = some o
  slot : ∀ b o, h.get? b = some o → H b = none → b ∈ fs → b ∉ ex → ∃ sl, h'.get? b = some { o with slots := sl }
  free : ∀ b o, h.get? b = some o → H b = none → b ∉ ex → H' b = none
  there : ∀ b o, h.get? b = some o → b ∉ ex → ∃ o', h'.get? b = some o'
  tups : ∀ b xs, H b = some (.tup xs) → H' b = some (.tup xs)
  frzs : ∀ b o u, H b = some (.frz o u) → H' b = some (.frz o u)
  tbls : ∀ b ps, H b = some (.tbl ps) → ∃ more, H' b = some (.tbl (ps ++ more))
section
variable {fs fs' ex ex' : List Addr} {H H1 H2 : Hp} {h h1 h2 h' : Heap} {a x e : Addr} {o : HO}
theorem Un.any (u : Un fs ex H H1 h h1) {b : Addr} {ob : Obj} (q : h.get? b = some ob) (n : H b = none) (hx : b ∉ ex) : ∃ sl, h1.get? b = some { ob with slots := sl } := by
  by_cases hb : b ∈ fs
  · exact u.slot b ob q n hb hx
  · exact ⟨ob.slots, u.keep b ob q n hb hx⟩
theorem Un.trans (a : Un fs ex H H1 h h1) (b : Un fs ex H1 H2 h1 h2) : Un fs ex H H2 h h2 where
  keep := fun c ob q n hc hx => b.keep c ob (a.keep c ob q n hc hx) (a.free c ob q n hx) hc hx
  slot := fun c ob q n hc hx => by
    obtain ⟨sl, e1⟩ := a.slot c ob q n hc hx
    obtain ⟨sl', e2⟩ := b.slot c _ e1 (a.free c ob q n hx) hc hx
    exact ⟨sl', e2⟩
  free := fun c ob q n hx => by
    obtain ⟨o', e1⟩ := a.there c ob q hx
    exact b.free c o' e1 (a.free c ob q n hx) hx
  there := fun c ob q hx => by
    obtain ⟨o', e1⟩ := a.there c ob q hx
    exact b.there c o' e1 hx
  tups := fun c xs q => b.tups c xs (a.tups c xs q)
  frzs := fun c ob xs q => b.frzs c ob xs (a.frzs c ob xs q)
  tbls := fun c ps q => by
    obtain ⟨m1, e1⟩ := a.tbls c ps q
    obtain ⟨m2, e2⟩ := b.tbls c _ e1
    exact ⟨m1 ++ m2, by rw [e2, Array.append_assoc]⟩
theorem Un.kept (k : ∀ b u, h.get? b = some u → h'.get? b = some u) : Un fs ex H H h h' :=
  ⟨fun b ob q _ _ _ => k b ob q, fun b ob q _ _ _ => ⟨ob.slots, k b ob q⟩, fun _ _ _ n _ => n, fun b ob q _ => ⟨ob, k b ob q⟩, fun _ _ q => q, fun _ _ _ q => q, fun _ ps q => ⟨#[], by rw [q]; simp⟩⟩
theorem Un.refl : Un fs ex H H h h := Un.kept fun _ _ q => q
theorem Un.laid (k : ∀ b u, h.get? b = some u → h'.get? b = some u) (hp : h.objs.size ≤ a) (hn : H a = none) : Un fs ex H (upd H a o) h h' where
  keep := fun b u q _ _ _ => k b u q
  slot := fun b u q _ _ _ => ⟨u.slots, k b u q⟩
  free := fun b u q n _ => by rw [upd_ne (Nat.ne_of_lt (Nat.lt_of_lt_of_le (Heap.lt_size q) hp))]; exact n
  there := fun b u q _ => ⟨u, k b u q⟩
  tups := fun b xs q => by rw [upd_ne (ne_of_none q hn)]; exact q
  frzs := fun b u xs q => by rw [upd_ne (ne_of_none q hn)]; exact q
  tbls := fun b ps q => ⟨#[], by rw [upd_ne (ne_of_none q hn), q]; simp⟩
theorem Un.write (mu : Mut (H x)) (he : e = x ∨ H e = some (.own x)) (k : ∀ b u, b ≠ e → h.get? b = some u → h'.get? b = some u) (heo : ∃ u, h'.get? e = some u) : Un fs ex H (upd H x o) h h' := by
  have hx : ∀ b, H b = none → b ≠ x := fun b n z => by subst z; rw [n] at mu; exact mu
  have hb : ∀ b, H b = none → b ≠ e := fun b n z => by
    subst z
    rcases he with r | r
    · exact hx b n r
    · rw [n] at r; cases r
  have hm : ∀ b u, H b = some u → ¬ Mut (some u) → b ≠ x := fun b u q nm z => by subst z; rw [q] at mu; exact nm mu
  refine ⟨fun b u q n _ _ => k b u (hb b n) q, fun b u q n _ _ => ⟨u.slots, k b u (hb b n) q⟩, fun b u q n _ => by rw [upd_ne (hx b n)]; exact n, fun b u q _ => ?_,
    fun b xs q => by rw [upd_ne (hm b _ q fun z => z)]; exact q, fun b u xs q => by rw [upd_ne (hm b _ q fun z => z)]; exact q, fun b ps q => ⟨#[], by rw [upd_ne (hm b _ q fun z => z), q]; simp⟩⟩
  by_cases hbe : b = e
  · subst hbe; exact heo
  · exact ⟨u, k b u hbe q⟩
theorem Un.mono (u : Un fs ex H H1 h h1) (hs : ∀ b ∈ fs, b ∈ fs') (hx : ∀ b ∈ ex, b ∈ ex') : Un fs' ex' H H1 h h1 :=
  ⟨fun b ob q n hb he => u.keep b ob q n (fun z => hb (hs b z)) fun z => he (hx b z), fun _ _ q n _ he => u.any q n fun z => he (hx _ z), fun b ob q n he => u.free b ob q n fun z => he (hx b z), fun b ob q he => u.there b ob q fun z => he (hx b z), u.tups, u.frzs, u.tbls⟩
end

/-! ### the heap without what is tracked -/
def trk (h : Heap) (H : Hp) : List Addr := (List.range h.objs.size).filter fun a => (H a).isSome
def hidT (h : Heap) (H : Hp) : Heap := PySem.W.hideAll h (trk h H)
theorem hidT_size (h : Heap) (H : Hp) : (hidT h H).objs.size = h.objs.size := PySem.W.hideAll_size _ _
theorem hidT_get {h : Heap} {H : Hp} {b : Addr} {o : Obj} (e : h.get? b = some o) (n : H b = none) : (hidT h H).get? b = some o :=
  PySem.W.hideAll_get _ e fun hm => by
    have q : (H b).isSome = true := (List.mem_filter.mp hm).2
    rw [n] at q; simp at q
theorem of_hidT {h : Heap} {H : Hp} {b : Addr} {o : Obj} (e : (hidT h H).get? b = some o) : h.get? b = some o ∧ H b = none := by
  have e' : h.get? b = some o := PySem.W.of_hideAll (trk h H) e
  refine ⟨e', ?_⟩
  cases q : H b with
  | none => rfl
  | some x =>
    have hm : b ∈ trk h H := List.mem_filter.mpr ⟨List.mem_range.mpr (Heap.lt_size e'), by simp [q]⟩
    have z : (hidT h H).get? b = none := PySem.W.hideAll_none (trk h H) hm
    rw [z] at e; cases e

/-! ### OpenK's ledger, filled with every new object but one -/
def allNews (g h : Heap) (L : Addr) : List (Addr × Obj) := (List.range h.objs.size).filterMap fun a => if a = L ∨ (g.get? a).isSome = true then none else (h.get? a).map fun o => (a, o)
def rest (g h : Heap) (L d : Addr) : List (Addr × Obj) := (allNews g h L).filter fun p => decide (p.1 ≠ d)
end L2

namespace L2
open PySem PySem.Spec PyProof.Rows

/-- the module's facts, over the base: the heap at the law's entry without what is tracked there -/
structure Mod (K : PySem.W.Frag) (mg : Str → Option Value) (base : Heap) : Prop where
  kin : K.In base
  glob : base.Ns mainGlobals mg
  blt : ∃ mb, base.Ns builtinsNs mb ∧ ∀ x : Str, x ≠ "__name__" → mb x = bootBuiltins x
  nolimit : base.NoLimit

/-- the context: a def's body (or a comprehension's block) running. base: fixed through the whole law; s₀, H₀: the entry; outer: the frames whose slots others may change (a def's callers); stack: all frames that run;
   ex: iterators that were made ahead of the entry and are walked here (a comprehension's); fn: the names whose cells were made at the entry (a def: all; a comprehension's block: its own); calm: not within an except suite; pn: pins that every state bears; xe: what is wanted of an exception that leaves the code -/
structure Cx where
  prog : Program
  w : World
  K : PySem.W.Frag
  mg : Str → Option Value
  base : Heap
  A : Around
  N : List Str
  s₀ : Shared
  H₀ : Hp
  env : Env
  outer : List Env
  stack : List Env
  ex : List Addr
  fn : Str → Bool
  calm : Bool
  pn : List (Addr × Obj)
  xe : Value → Shared → Prop
/-- the callers' frames -/
def frs (l : List Env) : List Addr := l.filterMap (·.frame)
abbrev Cx.fs (X : Cx) : List Addr := frs X.outer

def Vis (sc : Scope) (x : Str) : Prop := sc.names.lookup x = some .local ∨ sc.names.lookup x = some .cell ∨ sc.names.lookup x = some .free
def Loc (sc : Scope) (x : Str) : Prop := sc.names.lookup x = some .local ∨ sc.names.lookup x = some .cell
def Look (env : Env) (h : Heap) (m : Str → Option Value) (x : Str) (u : Value) : Prop :=
  (env.kindOf x = some .local ∧ m x = some u) ∨ ((env.kindOf x = some .cell ∨ env.kindOf x = some .free) ∧ ∃ c, env.cells.lookup x = some c ∧ h.IsCell c (some u))

structure Cx.Ok (X : Cx) : Prop where
  mod : Mod X.K X.mg X.base
  kind : X.env.scope.kind = .function
  glob : X.env.globals = mainGlobals
  blt : X.env.builtins = builtinsNs
  above : X.s₀.heap.objs.size ≤ X.env.locals
  inj : ∀ x y c, X.env.cells.lookup x = some c → X.env.cells.lookup y = some c → x = y
  has : ∀ x, (X.env.kindOf x = some .cell ∨ X.env.kindOf x = some .free) → ∃ c, X.env.cells.lookup x = some c
  cab : ∀ x c, X.fn x = true → X.env.cells.lookup x = some c → X.s₀.heap.objs.size ≤ c
  hd : X.calm = true → X.A.handled = none
  frames : X.A.frames = some X.stack
  stk : X.stack = X.outer ∨ (X.stack = X.env :: X.outer ∧ X.env.frame = some X.env.locals)
  exf : ∀ b ∈ X.ex, b ≠ X.env.locals ∧ ∀ x c, X.env.cells.lookup x = some c → c ≠ b
  bs : ∀ b o, X.base.get? b = some o → X.s₀.heap.get? b = some o ∧ X.H₀ b = none
  bsz : X.base.objs.size ≤ X.s₀.heap.objs.size
  noex : ∀ b o, X.base.get? b = some o → b ∉ X.ex
  exfs : ∀ b ∈ X.ex, b ∉ X.fs
  funs : X.s₀.heap.FunFrames X.base X.outer
  frf : ∀ b ∈ X.fs, X.H₀ b = none

structure Inv (X : Cx) (pins : List (Addr × Obj)) (σ : List (Option V)) (H : Hp) (s : Shared) : Prop where
  ok : X.Ok
  os : s.os = X.s₀.os
  bare : AllBare s.gens
  base : Un X.fs X.ex X.H₀ H X.s₀.heap s.heap
  loc : ∃ m, s.heap.Ns X.env.locals m ∧ ∀ (i : Nat) (x : Str) (v : V), X.N[i]? = some x → σ[i]? = some (some v) → Vis X.env.scope x → ∃ u, RelV v u ∧ Look X.env s.heap m x u
  cell : ∀ x c, X.env.cells.lookup x = some c → ∃ v, s.heap.IsCell c v
  free : H X.env.locals = none
  freeC : ∀ x c, X.env.cells.lookup x = some c → H c = none
  pin : ∀ p ∈ X.pn ++ pins, s.heap.get? p.1 = some p.2 ∧ H p.1 = none ∧ p.1 ≠ X.env.locals ∧ p.1 ∉ X.fs ∧ ∀ v, p.2.data ≠ .cell v
  hok : HOk X.prog X.w H s.heap
  len : σ.length = X.N.length

section
variable {X : Cx} {pins : List (Addr × Obj)} {σ : List (Option V)} {H H' : Hp} {s : Shared} {h' : Heap}

theorem Cx.Ok.nofr (ok : X.Ok) {b : Addr} {o : Obj} (e : X.base.get? b = some o) : b ∉ X.fs := fun hb => by
  have := (ok.funs.mem hb).1
  rw [e] at this; cases this
theorem Inv.bs (I : Inv X pins σ H s) : ∀ b o, X.base.get? b = some o → s.heap.get? b = some o ∧ H b = none := fun b o e =>
  ⟨I.base.keep b o (I.ok.bs b o e).1 (I.ok.bs b o e).2 (I.ok.nofr e) (I.ok.noex b o e), I.base.free b o (I.ok.bs b o e).1 (I.ok.bs b o e).2 (I.ok.noex b o e)⟩
theorem Inv.bk (I : Inv X pins σ H s) : ∀ b o, X.base.get? b = some o → s.heap.get? b = some o := fun b o e => (I.bs b o e).1
theorem Inv.mod (I : Inv X pins σ H s) : Mod X.K X.mg X.base := I.ok.mod
theorem Inv.kIn (I : Inv X pins σ H s) : X.K.In s.heap := I.ok.mod.kin.keeps I.bk
theorem Inv.nolimit (I : Inv X pins σ H s) : s.heap.NoLimit := I.ok.mod.nolimit.keeps I.bk
/-- the frame over the base: for OpenK's rules (K.In X.base is I.mod.kin) -/
theorem Inv.fr (I : Inv X pins σ H s) : ∃ m, Fr X.base X.env.locals s.heap m :=
  let ⟨m, hn, _⟩ := I.loc
  ⟨m, hn, I.bk, Nat.le_trans I.ok.bsz I.ok.above⟩
theorem Inv.lt (I : Inv X pins σ H s) : X.env.locals < s.heap.objs.size := let ⟨_, hn, _⟩ := I.loc; hn.lt
theorem Inv.sz (I : Inv X pins σ H s) : X.s₀.heap.objs.size ≤ s.heap.objs.size := Nat.le_trans I.ok.above (Nat.le_of_lt I.lt)
theorem Inv.nofs (I : Inv X pins σ H s) {a : Addr} (h : s.heap.objs.size ≤ a) : a ∉ X.fs := fun hb => by
  obtain ⟨_, o, ho, _⟩ := I.ok.funs.mem hb
  exact absurd (Nat.lt_of_lt_of_le (Heap.lt_size ho) (Nat.le_trans I.sz h)) (Nat.lt_irrefl _)
theorem Inv.cne (I : Inv X pins σ H s) : ∀ x c, X.env.cells.lookup x = some c → c ≠ X.env.locals := fun x c e z => by
  obtain ⟨v, o, ho, hd⟩ := I.cell x c e
  obtain ⟨m, ⟨o', es, ep, ho', hd', _⟩, _⟩ := I.loc
  rw [z, ho'] at ho; cases ho; rw [hd'] at hd; cases hd
theorem Inv.funs (I : Inv X pins σ H s) : s.heap.FunFrames X.base X.outer := by
  have all : ∀ (l : List Env), (∀ b ∈ frs l, b ∈ X.fs) → X.s₀.heap.FunFrames X.base l → s.heap.FunFrames X.base l := by
    intro l
    induction l with
    | nil => intro _ _; trivial
    | cons env r ih =>
      intro hs hl
      obtain ⟨hk, ⟨L, o, hf, hn, ho, hd⟩, hr⟩ := hl
      have hL : L ∈ X.fs := hs L (by unfold frs; rw [List.filterMap_cons, hf]; exact List.mem_cons_self)
      obtain ⟨sl, e⟩ := I.base.slot L o ho (I.ok.frf L hL) hL fun z => I.ok.exfs L z hL
      exact ⟨hk, ⟨L, _, hf, hn, e, hd⟩, ih (fun b hb => hs b (by unfold frs; rw [List.filterMap_cons, hf]; exact List.mem_cons_of_mem _ hb)) hr⟩
  exact all X.outer (fun _ hb => hb) I.ok.funs

/-- the frames that run, for a call -/
theorem Inv.stack (I : Inv X pins σ H s) : s.heap.FunFrames X.base X.stack := by
  rcases I.ok.stk with e | ⟨e, hf⟩
  · rw [e]; exact I.funs
  · rw [e]
    obtain ⟨m, hn, _⟩ := I.loc
    refine .cons (by rw [I.ok.kind]; decide) hf hn ?_ I.funs
    exact Heap.get?_none_of_le (Nat.le_trans I.ok.bsz I.ok.above)
theorem Inv.stkSub (I : Inv X pins σ H s) : ∀ b ∈ frs X.stack, b ∈ X.env.locals :: X.fs := fun b hb => by
  rcases I.ok.stk with e | ⟨e, hf⟩
  · rw [e] at hb; exact List.mem_cons_of_mem _ hb
  · rw [e] at hb
    unfold frs at hb
    rw [List.filterMap_cons, hf] at hb
    exact hb
theorem Inv.stkFree (I : Inv X pins σ H s) : ∀ b ∈ frs X.stack, H b = none := fun b hb => by
  rcases List.mem_cons.mp (I.stkSub b hb) with e | hb
  · rw [e]; exact I.free
  · obtain ⟨_, o, ho, _⟩ := I.ok.funs.mem hb
    exact I.base.free b o ho (I.ok.frf b hb) fun z => I.ok.exfs b z hb

/-- THE STEP: the untracked objects but the frame and the records at ch are kept (the callers' frames up to slots), the frame's map is kept, the new abstract heap is held -/
theorem Inv.step {g' : Array GenState} {t' : Nat} {d' : Drawn} {ch : List Addr} (I : Inv X pins σ H s)
    (hch : ∀ b ∈ ch, (b ∈ X.ex ∨ X.s₀.heap.objs.size ≤ b) ∧ b ≠ X.env.locals ∧ (∀ x c, X.env.cells.lookup x = some c → c ≠ b) ∧ ∀ p ∈ X.pn ++ pins, p.1 ≠ b)
    (keep : ∀ b o, b ≠ X.env.locals → b ∉ X.fs → b ∉ ch → s.heap.get? b = some o → H b = none → h'.get? b = some o)
    (slot : ∀ b o, b ≠ X.env.locals → b ∈ X.fs → b ∉ ch → s.heap.get? b = some o → H b = none → ∃ sl, h'.get? b = some { o with slots := sl }) (free : ∀ b o, b ∉ ch → s.heap.get? b = some o → H b = none → H' b = none)
    (there : ∀ b o, b ∉ ch → s.heap.get? b = some o → ∃ o', h'.get? b = some o')
    (tups : ∀ b xs, H b = some (.tup xs) → H' b = some (.tup xs)) (frzs : ∀ b o u, H b = some (.frz o u) → H' b = some (.frz o u)) (tbls : ∀ b ps, H b = some (.tbl ps) → ∃ more, H' b = some (.tbl (ps ++ more)))
    (ns : ∀ m, s.heap.Ns X.env.locals m → h'.Ns X.env.locals m) (hok : HOk X.prog X.w H' h') (hg : AllBare g') :
    Inv X pins σ H' { s with heap := h', gens := g', drawn := d', toks := t' } := by
  have neL : ∀ b o, X.s₀.heap.get? b = some o → b ≠ X.env.locals := fun b o e => Nat.ne_of_lt (Nat.lt_of_lt_of_le (Heap.lt_size e) I.ok.above)
  have neC : ∀ b o, X.s₀.heap.get? b = some o → b ∉ X.ex → b ∉ ch := fun b o e hx hb => by
    rcases (hch b hb).1 with z | z
    · exact hx z
    · exact absurd (Nat.lt_of_lt_of_le (Heap.lt_size e) z) (Nat.lt_irrefl _)
  have cellK : ∀ x c, X.env.cells.lookup x = some c → ∀ v, s.heap.IsCell c v → h'.IsCell c v := fun x c e v ⟨o, ho, hd⟩ => by
    have nch : c ∉ ch := fun z => (hch c z).2.2.1 x c e rfl
    by_cases hc : c ∈ X.fs
    · obtain ⟨sl, q⟩ := slot c o (I.cne x c e) hc nch ho (I.freeC x c e)
      exact ⟨_, q, hd⟩
    · exact ⟨o, keep c o (I.cne x c e) hc nch ho (I.freeC x c e), hd⟩
  refine ⟨I.ok, I.os, hg, ⟨fun b o e n hb hx => ?_, fun b o e n hb hx => ?_, fun b o e n hx => ?_, fun b o e hx => ?_, fun b xs e => tups b xs (I.base.tups b xs e), fun b o xs e => frzs b o xs (I.base.frzs b o xs e), fun b ps e => ?_⟩, ?_, fun x c e => ?_, ?_, fun x c e => ?_, fun p hp => ?_, hok, I.len⟩
  · exact keep b o (neL b o e) hb (neC b o e hx) (I.base.keep b o e n hb hx) (I.base.free b o e n hx)
  · obtain ⟨sl, e1⟩ := I.base.slot b o e n hb hx
    obtain ⟨sl', e2⟩ := slot b _ (neL b o e) hb (neC b o e hx) e1 (I.base.free b o e n hx)
    exact ⟨sl', e2⟩
  · obtain ⟨o', e1⟩ := I.base.there b o e hx
    exact free b o' (neC b o e hx) e1 (I.base.free b o e n hx)
  · obtain ⟨o', e1⟩ := I.base.there b o e hx
    exact there b o' (neC b o e hx) e1
  · obtain ⟨m1, e1⟩ := I.base.tbls b ps e
    obtain ⟨m2, e2⟩ := tbls b _ e1
    exact ⟨m1 ++ m2, by rw [e2, Array.append_assoc]⟩
  · obtain ⟨m, hn, hl⟩ := I.loc
    refine ⟨m, ns m hn, fun i x v e1 e2 e3 => ?_⟩
    obtain ⟨u, r, l⟩ := hl i x v e1 e2 e3
    refine ⟨u, r, ?_⟩
    rcases l with l | ⟨k, c, e, z⟩
    · exact .inl l
    · exact .inr ⟨k, c, e, cellK x c e _ z⟩
  · obtain ⟨v, z⟩ := I.cell x c e
    exact ⟨v, cellK x c e v z⟩
  · obtain ⟨m, ⟨o, _, _, ho, _⟩, _⟩ := I.loc
    exact free _ o (fun z => (hch _ z).2.1 rfl) ho I.free
  · obtain ⟨v, o, ho, hd⟩ := I.cell x c e
    exact free c o (fun z => (hch c z).2.2.1 x c e rfl) ho (I.freeC x c e)
  · obtain ⟨e, n, ne, nf, d⟩ := I.pin p hp
    have nch : p.1 ∉ ch := fun z => (hch p.1 z).2.2.2 p hp rfl
    exact ⟨keep p.1 p.2 ne nf nch e n, free p.1 p.2 nch e n, ne, nf, d⟩
/-- .. where the frame's own object is kept too -/
theorem Inv.un {t' : Nat} (I : Inv X pins σ H s) (u : Un X.fs [] H H' s.heap h') (hok : HOk X.prog X.w H' h') : Inv X pins σ H' { s with heap := h', toks := t' } := by
  obtain ⟨m, ⟨o, es, ep, ho, r⟩, _⟩ := id I.loc
  obtain ⟨sl, hL⟩ := u.any ho I.free (by simp)
  exact I.step (g' := s.gens) (d' := s.drawn) (ch := []) (fun _ z => nomatch z) (fun b o _ hb _ e n => u.keep b o e n hb (by simp)) (fun b o _ hb _ e n => u.slot b o e n hb (by simp)) (fun b o _ e n => u.free b o e n (by simp)) (fun b o _ e => u.there b o e (by simp)) u.tups u.frzs u.tbls (fun m' hm => by
    obtain ⟨o', es', ep', ho', r'⟩ := hm
    rw [ho] at ho'; cases ho'
    exact ⟨_, es', ep', hL, r'⟩) hok I.bare
/-- behind a call (or a comprehension's block): the slots of this frame may have changed too, the records at ch may have turned -/
theorem Inv.call {g' : Array GenState} {t' : Nat} {d' : Drawn} {ch : List Addr} (I : Inv X pins σ H s) (u : Un (frs X.stack) ch H H' s.heap h') (hok : HOk X.prog X.w H' h') (hg : AllBare g')
    (hch : ∀ b ∈ ch, (b ∈ X.ex ∨ X.s₀.heap.objs.size ≤ b) ∧ b ≠ X.env.locals ∧ (∀ x c, X.env.cells.lookup x = some c → c ≠ b) ∧ ∀ p ∈ X.pn ++ pins, p.1 ≠ b) :
    Inv X pins σ H' { s with heap := h', gens := g', drawn := d', toks := t' } := by
  obtain ⟨m, ⟨o, es, ep, ho, r⟩, _⟩ := id I.loc
  obtain ⟨sl, hL⟩ := u.any ho I.free fun z => (hch _ z).2.1 rfl
  exact I.step (ch := ch) hch (fun b o hL hb hc e n => u.keep b o e n (fun z => (List.mem_cons.mp (I.stkSub b z)).elim hL hb) hc) (fun b o _ _ hc e n => u.any e n hc) (fun b o hc e n => u.free b o e n hc) (fun b o hc e => u.there b o e hc) u.tups u.frzs u.tbls (fun m' hm => by
    obtain ⟨o', es', ep', ho', r'⟩ := hm
    rw [ho] at ho'; cases ho'
    exact ⟨_, es', ep', hL, r'⟩) hok hg
/-- an untracked record of ours (an iterator) has turned -/
theorem Inv.turned {t' : Nat} {it : Addr} (I : Inv X pins σ H s) (k : ∀ b o, b ≠ it → s.heap.get? b = some o → h'.get? b = some o) (hn : H it = none) (hL : it ≠ X.env.locals)
    (h1 : it ∈ X.ex ∨ X.s₀.heap.objs.size ≤ it) (h2 : ∀ x c, X.env.cells.lookup x = some c → c ≠ it) (h3 : ∀ p ∈ X.pn ++ pins, p.1 ≠ it) : Inv X pins σ H { s with heap := h', toks := t' } := by
  have nit : ∀ b u, H b = some u → b ≠ it := fun b u e z => by rw [z, hn] at e; cases e
  refine I.step (g' := s.gens) (d' := s.drawn) (ch := [it]) (fun b hb => ?_) (fun b o _ _ hc e _ => k b o (fun z => hc (by simp [z])) e) (fun b o _ _ hc e _ => ⟨o.slots, k b o (fun z => hc (by simp [z])) e⟩) (fun _ _ _ _ n => n)
    (fun b o hc e => ⟨o, k b o (fun z => hc (by simp [z])) e⟩) (fun _ _ e => e) (fun _ _ _ e => e) (fun b ps e => ⟨#[], by rw [e]; simp⟩) (fun m hm => ?_) (fun b u e => ?_) I.bare
  · have e : b = it := by simpa using hb
    subst e
    exact ⟨h1, hL, h2, h3⟩
  · obtain ⟨o, es, ep, ho, r⟩ := hm
    exact ⟨o, es, ep, k _ o (Ne.symm hL) ho, r⟩
  · refine (I.hok b u e).stay (fun c v hc q => k c v ?_ q) (fun _ q => q) fun _ _ q => q
    rcases hc with z | z
    · rw [z]; exact nit b u e
    · exact nit c _ z
theorem Inv.tok (I : Inv X pins σ H s) (t : Nat) : Inv X pins σ H { s with toks := t } := I.un (h' := s.heap) (t' := t) Un.refl I.hok
/-- all objects kept -/
theorem Inv.kept {t' : Nat} (I : Inv X pins σ H s) (k : ∀ b u, s.heap.get? b = some u → h'.get? b = some u) : Inv X pins σ H { s with heap := h', toks := t' } := I.un (Un.kept k) (I.hok.kept k)
/-- a new object laid and tracked -/
theorem Inv.laid {a : Addr} {o : HO} {t' : Nat} (I : Inv X pins σ H s) (k : ∀ b u, s.heap.get? b = some u → h'.get? b = some u) (hp : s.heap.objs.size ≤ a) (new : ObjOk X.prog X.w (upd H a o) h' a o) :
    Inv X pins σ (upd H a o) { s with heap := h', toks := t' } := I.un (Un.laid k hp (I.hok.fresh hp)) (I.hok.laid k hp new)
/-- an object written -/
theorem Inv.write {x e : Addr} {o : HO} {t' : Nat} (I : Inv X pins σ H s) (mu : Mut (H x)) (he : e = x ∨ H e = some (.own x)) (k : ∀ b u, b ≠ e → s.heap.get? b = some u → h'.get? b = some u) (heo : ∃ u, h'.get? e = some u)
    (new : ObjOk X.prog X.w (upd H x o) h' x o) : Inv X pins σ (upd H x o) { s with heap := h', toks := t' } := I.un (Un.write mu he k heo) (I.hok.write mu he k heo new)
theorem Inv.pins_of {pins' : List (Addr × Obj)} (I : Inv X pins σ H s) (h : ∀ p ∈ pins', s.heap.get? p.1 = some p.2 ∧ H p.1 = none ∧ p.1 ≠ X.env.locals ∧ p.1 ∉ X.fs ∧ ∀ v, p.2.data ≠ .cell v) : Inv X pins' σ H s :=
  ⟨I.ok, I.os, I.bare, I.base, I.loc, I.cell, I.free, I.freeC, fun p hp => (List.mem_append.mp hp).elim (fun z => I.pin p (List.mem_append_left _ z)) (h p), I.hok, I.len⟩

theorem nodup_ix {N : List Str} (hN : N.Nodup) {i j : Nat} {x : Str} (a : N[i]? = some x) (b : N[j]? = some x) : i = j := by
  obtain ⟨h1, e1⟩ := List.getElem?_eq_some_iff.mp a
  obtain ⟨h2, e2⟩ := List.getElem?_eq_some_iff.mp b
  exact (List.getElem_inj hN).mp (e1.trans e2.symm)

/-- a name is stored; what changed -/
theorem store_ok2 {M : Model} {A : Around} {E : Value → Shared → Prop} {i : Nat} {x : Str} {v : V} {u : Value} {Q : Unit → Shared → Prop} (I : Inv X pins σ H s) (hN : X.N.Nodup) (hi : X.N[i]? = some x) (hx : Loc X.env.scope x) (r : RelV v u)
    (h : ∀ s', Inv X pins (σ.set i (some v)) H s' → (∃ a, Heap.SameBut a s.heap s'.heap ∧ (a = X.env.locals ∨ X.env.cells.lookup x = some a)) → Q () s') (hf : X.fn x = true ∨ X.env.scope.names.lookup x = some .local := by first | exact .inl rfl | exact .inr rfl | assumption) : wpAny M A (storeName X.env x u) Q E s := by
  obtain ⟨m, hn, hl⟩ := id I.loc
  have hcls : (X.env.scope.kind == .class || (X.env.scope.kind == .module && X.env.locals != X.env.globals)) = false := by rw [I.ok.kind]; rfl
  have hiσ : i < σ.length := by rw [I.len]; exact (List.getElem?_eq_some_iff.mp hi).1
  have cne := I.cne
  have tracked : ∀ {a : Addr} {h' : Heap}, (∃ o, s.heap.get? a = some o ∧ H a = none) → Heap.SameBut a s.heap h' → HOk X.prog X.w H h' := fun {a h'} ha hs b ob e => by
    obtain ⟨_, _, hfree⟩ := ha
    refine (I.hok b ob e).stay (fun c w' hc q => (hs.2 c ?_).trans q) (fun _ q => q) fun _ _ q => q
    rintro rfl
    rcases hc with rfl | hc
    · rw [hfree] at e; cases e
    · rw [hfree] at hc; cases hc
  rcases hx with hk | hk
  · refine wpAny_storeName_local hk hn (fun h' hn' hs => ?_) hcls
    obtain ⟨oL, _, _, hoL, _⟩ := id hn
    refine h _ ⟨I.ok, I.os, I.bare, ⟨fun b o e n hb hx => ?_, fun b o e n hb hx => ?_, I.base.free, fun b o e hx => ?_, I.base.tups, I.base.frzs, I.base.tbls⟩, ⟨_, hn', fun j y v' e1 e2 e3 => ?_⟩, fun y c e => ?_, I.free, I.freeC, fun p hp => ?_, tracked ⟨oL, hoL, I.free⟩ hs, by simpa using I.len⟩ ⟨_, hs, .inl rfl⟩
    · exact (hs.2 b (Nat.ne_of_lt (Nat.lt_of_lt_of_le (Heap.lt_size e) I.ok.above))).trans (I.base.keep b o e n hb hx)
    · obtain ⟨sl, e1⟩ := I.base.slot b o e n hb hx
      exact ⟨sl, (hs.2 b (Nat.ne_of_lt (Nat.lt_of_lt_of_le (Heap.lt_size e) I.ok.above))).trans e1⟩
    · obtain ⟨o', e1⟩ := I.base.there b o e hx
      exact ⟨o', (hs.2 b (Nat.ne_of_lt (Nat.lt_of_lt_of_le (Heap.lt_size e) I.ok.above))).trans e1⟩
    · by_cases hj : j = i
      · subst hj
        rw [hi] at e1; cases e1
        rw [List.getElem?_set_self hiσ] at e2
        cases e2
        exact ⟨u, r, .inl ⟨hk, by simp⟩⟩
      · rw [List.getElem?_set_ne (Ne.symm hj)] at e2
        obtain ⟨u', r', q⟩ := hl j y v' e1 e2 e3
        refine ⟨u', r', ?_⟩
        rcases q with ⟨k, e⟩ | ⟨k, c, e, z⟩
        · refine .inl ⟨k, ?_⟩
          have : y ≠ x := fun e => hj (nodup_ix hN e1 (e ▸ hi))
          simp [this, e]
        · exact .inr ⟨k, c, e, z.sameBut hs (cne y c e)⟩
    · obtain ⟨w', z⟩ := I.cell y c e
      exact ⟨w', z.sameBut hs (cne y c e)⟩
    · obtain ⟨e, n, ne, nf, d⟩ := I.pin p hp
      exact ⟨(hs.2 p.1 ne).trans e, n, ne, nf, d⟩
  · have hfn : X.fn x = true := by
      rcases hf with z | z
      · exact z
      · rw [z] at hk; cases hk
    obtain ⟨c, hc⟩ := I.ok.has x (.inl hk)
    obtain ⟨w', z⟩ := I.cell x c hc
    refine wpAny_storeName_cell I.ok.kind hk hc z (fun h' hc' hs => ?_)
    obtain ⟨oc, hoc, hocd⟩ := id z
    refine h { s with heap := h' } ⟨I.ok, I.os, I.bare, ⟨fun b o e n hb hx => ?_, fun b o e n hb hx => ?_, I.base.free, fun b o e hx => ?_, I.base.tups, I.base.frzs, I.base.tbls⟩, ⟨m, hn.sameBut hs (Ne.symm (cne x c hc)), fun j y v' e1 e2 e3 => ?_⟩, fun y c' e => ?_, I.free, I.freeC, fun p hp => ?_, tracked ⟨oc, hoc, I.freeC x c hc⟩ hs, by simpa using I.len⟩ ⟨c, hs, .inr hc⟩
    · exact (hs.2 b (Nat.ne_of_lt (Nat.lt_of_lt_of_le (Heap.lt_size e) (I.ok.cab x c hfn hc)))).trans (I.base.keep b o e n hb hx)
    · obtain ⟨sl, e1⟩ := I.base.slot b o e n hb hx
      exact ⟨sl, (hs.2 b (Nat.ne_of_lt (Nat.lt_of_lt_of_le (Heap.lt_size e) (I.ok.cab x c hfn hc)))).trans e1⟩
    · obtain ⟨o', e1⟩ := I.base.there b o e hx
      exact ⟨o', (hs.2 b (Nat.ne_of_lt (Nat.lt_of_lt_of_le (Heap.lt_size e) (I.ok.cab x c hfn hc)))).trans e1⟩
    · by_cases hj : j = i
      · subst hj
        rw [hi] at e1; cases e1
        rw [List.getElem?_set_self hiσ] at e2
        cases e2
        exact ⟨u, r, .inr ⟨.inl hk, c, hc, hc'⟩⟩
      · rw [List.getElem?_set_ne (Ne.symm hj)] at e2
        obtain ⟨u', r', q⟩ := hl j y v' e1 e2 e3
        refine ⟨u', r', ?_⟩
        rcases q with q | ⟨k, c', e, z'⟩
        · exact .inl q
        · refine .inr ⟨k, c', e, z'.sameBut hs ?_⟩
          rintro rfl
          exact hj (nodup_ix hN e1 (I.ok.inj _ _ _ e hc ▸ hi))
    · by_cases hcc : c' = c
      · subst hcc; exact ⟨_, hc'⟩
      · obtain ⟨w2, z2⟩ := I.cell y c' e
        exact ⟨w2, z2.sameBut hs hcc⟩
    · obtain ⟨e, n, ne, nf, d⟩ := I.pin p hp
      refine ⟨(hs.2 p.1 ?_).trans e, n, ne, nf, d⟩
      intro q
      rw [q, hoc] at e
      have q' : oc = p.2 := Option.some.inj e
      exact d w' (by rw [← q']; exact hocd)
theorem store_ok {M : Model} {A : Around} {E : Value → Shared → Prop} {i : Nat} {x : Str} {v : V} {u : Value} {Q : Unit → Shared → Prop} (I : Inv X pins σ H s) (hN : X.N.Nodup) (hi : X.N[i]? = some x) (hx : Loc X.env.scope x) (r : RelV v u)
    (h : ∀ s', Inv X pins (σ.set i (some v)) H s' → Q () s') (hf : X.fn x = true ∨ X.env.scope.names.lookup x = some .local := by first | exact .inl rfl | exact .inr rfl | assumption) : wpAny M A (storeName X.env x u) Q E s :=
  store_ok2 I hN hi hx r (fun s' I' _ => h s' I') hf
/-- behind a call or a block, the state as it is -/
theorem Inv.call' {s' : Shared} {ch : List Addr} (I : Inv X pins σ H s) (ho : s'.os = s.os) (u : Un (frs X.stack) ch H H' s.heap s'.heap) (hok : HOk X.prog X.w H' s'.heap) (hg : AllBare s'.gens)
    (hch : ∀ b ∈ ch, (b ∈ X.ex ∨ X.s₀.heap.objs.size ≤ b) ∧ b ≠ X.env.locals ∧ (∀ x c, X.env.cells.lookup x = some c → c ≠ b) ∧ ∀ p ∈ X.pn ++ pins, p.1 ≠ b) : Inv X pins σ H' s' := by
  obtain ⟨h', g', d', t', o'⟩ := s'
  have e : o' = s.os := ho
  subst e
  exact I.call (g' := g') (t' := t') (d' := d') u hok hg hch
end

/-! ### the judgements -/
/-- an exception: its class, its own dict's address (where it has one), the abstract heap behind it -/
abbrev XK := Value → Option Addr → Hp → Prop
abbrev St := List (Option V)
abbrev VK := V → Hp → Prop
/-- an expression's reading; a test's; an argument list's -/
abbrev TE := St → Hp → VK → Prop
abbrev TT := St → Hp → (Bool → Hp → Prop) → Prop
abbrev TA := St → Hp → (List V → Hp → Prop) → Prop
/-- what is wanted behind a statement -/
structure Ends where
  nx : St → Hp → Prop
  rt : VK
  bk : St → Hp → Prop := fun _ _ => False
  ct : St → Hp → Prop := fun _ _ => False
abbrev TS := Ends → St → Hp → Prop

def EP (X : Cx) (pins : List (Addr × Obj)) (σ : St) (Q : VK) (u : Value) (s' : Shared) : Prop := ∃ v H', Inv X pins σ H' s' ∧ RelV v u ∧ Q v H'
def TP (X : Cx) (pins : List (Addr × Obj)) (σ : St) (Q : Bool → Hp → Prop) (b : Bool) (s' : Shared) : Prop := ∃ H', Inv X pins σ H' s' ∧ Q b H'
def AP (X : Cx) (pins : List (Addr × Obj)) (σ : St) (Q : List V → Hp → Prop) (us : List Value) (s' : Shared) : Prop := ∃ vs H', Inv X pins σ H' s' ∧ Vals vs us ∧ Q vs H'
def SP (X : Cx) (pins : List (Addr × Obj)) (D : Ends) (f : Flow) (s' : Shared) : Prop :=
  match f with
  | .next => ∃ σ' H', Inv X pins σ' H' s' ∧ D.nx σ' H'
  | .brk => ∃ σ' H', Inv X pins σ' H' s' ∧ D.bk σ' H'
  | .cont => ∃ σ' H', Inv X pins σ' H' s' ∧ D.ct σ' H'
  | .ret u => ∃ v σ' H', Inv X pins σ' H' s' ∧ RelV v u ∧ D.rt v H'

def PE (X : Cx) (e : Expr) (t : TE) : Prop :=
  ∀ (pins : List (Addr × Obj)) (s : Shared) (σ : St) (H : Hp) (Q : VK), Inv X pins σ H s → t σ H Q → wpAny (model X.prog X.w) X.A (eval e X.env) (EP X pins σ Q) X.xe s
def PT (X : Cx) (e : Expr) (t : TT) : Prop :=
  ∀ (pins : List (Addr × Obj)) (s : Shared) (σ : St) (H : Hp) (Q : Bool → Hp → Prop), Inv X pins σ H s → t σ H Q → wpAny (model X.prog X.w) X.A (isTrue e X.env (eval e X.env)) (TP X pins σ Q) X.xe s
/-- a test whatever its 'whole' is (and, or) -/
def PW (X : Cx) (e : Expr) (t : TT) : Prop :=
  ∀ (whole : Sem Value) (pins : List (Addr × Obj)) (s : Shared) (σ : St) (H : Hp) (Q : Bool → Hp → Prop), Inv X pins σ H s → t σ H Q → wpAny (model X.prog X.w) X.A (isTrue e X.env whole) (TP X pins σ Q) X.xe s
theorem PW.pt {X : Cx} {e : Expr} {t : TT} (h : PW X e t) : PT X e t := h _
/-- an argument list (no star), from the left -/
def PA (X : Cx) (es : List Expr) (t : TA) : Prop :=
  ∀ (pos : Pos) (pins : List (Addr × Obj)) (s : Shared) (σ : St) (H : Hp) (Q : List V → Hp → Prop), Inv X pins σ H s → t σ H Q → wpAny (model X.prog X.w) X.A (spliced (backTo pos (starEach es X.env))) (AP X pins σ Q) X.xe s
def PS (X : Cx) (st : Stmt) (t : TS) : Prop :=
  ∀ (pins : List (Addr × Obj)) (s : Shared) (σ : St) (H : Hp) (D : Ends), Inv X pins σ H s → t D σ H → wpAny (model X.prog X.w) X.A (exec st X.env) (SP X pins D) X.xe s
def PSs (X : Cx) (st : List Stmt) (t : TS) : Prop :=
  ∀ (pins : List (Addr × Obj)) (s : Shared) (σ : St) (H : Hp) (D : Ends), Inv X pins σ H s → t D σ H → wpAny (model X.prog X.w) X.A (execs st X.env) (SP X pins D) X.xe s
/-- weaken the end -/
theorem thn {α : Type} {t : Sem α} {Q Q' : α → Shared → Prop} {M : Model} {A : Around} {E : Value → Shared → Prop} {s : Shared} (h : wpAny M A t Q E s) (hQ : ∀ a s, Q a s → Q' a s) : wpAny M A t Q' E s := wpAny_mono h hQ fun _ _ x => x
end L2

namespace L2
open PySem PySem.Spec PyProof.Rows
section
variable {X : Cx}

/-! ### names and constants -/
def tVar (i : Nat) : TE := fun σ H Q => ∃ v, σ[i]? = some (some v) ∧ Q v H
def tC (v : V) : TE := fun _ H Q => Q v H
theorem pe_var {i : Nat} {x : Str} {pos : Pos} (hN : X.N[i]? = some x) (hv : Vis X.env.scope x) (hd : (x == ("__debug__" : Str)) = false := by decide) (hcd : (x == ("__classdict__" : Str)) = false := by decide) : PE X (.Name x pos) (tVar i) := by
  intro pins s σ H Q I h
  obtain ⟨v, e, h⟩ := h
  obtain ⟨m, hn, hl⟩ := I.loc
  obtain ⟨u, r, l⟩ := hl i x v hN e hv
  have fin : EP X pins σ Q u s := ⟨v, H, I, r, h⟩
  rcases l with ⟨hk, hm⟩ | ⟨hk, c, hc, hcell⟩
  · exact wpAny_Name (wpAny_loadName_local I.ok.kind hk hn hm fin) hd
  · rcases hk with hk | hk
    · exact wpAny_Name (wpAny_loadName_cell I.ok.kind hk hc hcell fin) hd
    · exact wpAny_Name (wpAny_loadName_free I.ok.kind hk hc hcell fin hcd) hd
theorem pe_int {i j pos} : PE X (.Constant (.int i) j pos) (tC (.int i)) := fun _ _ _ H _ I h => wpAny_Constant_int ⟨.int i, H, I.tok _, ⟨_, rfl⟩, h⟩
theorem pe_bl {b j pos} : PE X (.Constant (.bool b) j pos) (tC (.bl b)) := fun _ _ _ H _ I h => Constant_bool ⟨.bl b, H, I, rfl, h⟩
theorem pe_non {j pos} : PE X (.Constant .none j pos) (tC .non) := fun _ _ _ H _ I h => Constant_none ⟨.non, H, I, rfl, h⟩
theorem pe_str {x j pos} : PE X (.Constant (.str x) j pos) (tC (.str x)) := fun _ _ _ H _ I h => Calls.Constant_str ⟨.str x, H, I.tok _, ⟨_, rfl⟩, h⟩

/-- a global name of the def -/
def Gl (X : Cx) (x : Str) : Prop := X.env.kindOf x = some .globalImplicit
theorem ld_glob {E : Value → Shared → Prop} {pins : List (Addr × Obj)} {s : Shared} {σ : St} {H : Hp} {x : Str} {u : Value} {pos : Pos} {Q : Value → Shared → Prop} (I : Inv X pins σ H s) (hg : Gl X x) (hm : X.mg x = some u) (h : Q u s)
    (hd : (x == ("__debug__" : Str)) = false := by decide) : wpAny (model X.prog X.w) X.A (eval (.Name x pos) X.env) Q E s :=
  Calls.Name_function_global I.ok.kind hg (Calls.loadGlobal_global (by rw [I.ok.glob]; exact I.mod.glob.keeps I.bk) hm h) hd
theorem ld_blt {E : Value → Shared → Prop} {pins : List (Addr × Obj)} {s : Shared} {σ : St} {H : Hp} {x : Str} {u : Value} {pos : Pos} {Q : Value → Shared → Prop} (I : Inv X pins σ H s) (hg : Gl X x) (hm : X.mg x = none) (hv : bootBuiltins x = some u) (h : Q u s)
    (hn : x ≠ "__name__" := by decide) (hd : (x == ("__debug__" : Str)) = false := by decide) : wpAny (model X.prog X.w) X.A (eval (.Name x pos) X.env) Q E s := by
  obtain ⟨mb, h1, h2⟩ := I.mod.blt
  exact Calls.Name_function_global I.ok.kind hg (Calls.loadGlobal_builtin (by rw [I.ok.glob]; exact I.mod.glob.keeps I.bk) hm (by rw [I.ok.blt]; exact h1.keeps I.bk) ((h2 x hn).trans hv) h) hd
/-- a module's constant, a class, a function, as a value -/
theorem pe_glob {x : Str} {v : V} {u : Value} {pos : Pos} (hg : Gl X x) (hm : X.mg x = some u) (r : RelV v u) (hd : (x == ("__debug__" : Str)) = false := by decide) : PE X (.Name x pos) (tC v) :=
  fun _ _ _ H _ I h => ld_glob I hg hm ⟨v, H, I, r, h⟩ hd
theorem pe_bltn {x : Str} {v : V} {u : Value} {pos : Pos} (hg : Gl X x) (hm : X.mg x = none) (hv : bootBuiltins x = some u) (r : RelV v u) (hn : x ≠ "__name__" := by decide) (hd : (x == ("__debug__" : Str)) = false := by decide) : PE X (.Name x pos) (tC v) :=
  fun _ _ _ H _ I h => ld_blt I hg hm hv ⟨v, H, I, r, h⟩ hn hd

/-! ### arithmetic -/
variable {a b : Expr} {ta tb : TE} {pos : Pos}
/-! ### comparisons -/
/-- a comparison as a value, as a test -/
def tB (t : TE) : TT := fun σ H Q => t σ H fun x H1 => ∃ c, x = .bl c ∧ Q c H1
/-- an expression whose value is a bool, as a test -/
theorem pt_val {e : Expr} {t : TE} (h : PE X e t) (he : ∀ whole, isTrue e X.env whole = (do let v ← whole; standAt e.pos; holding [v] (truthy v)) := by intro _; rfl) : PT X e (tB t) := by
  intro pins s σ H Q I hw
  refine isTrue_plain (thn (h pins s σ H _ I hw) fun v s1 ⟨x, H1, I1, r1, q1⟩ => ?_) (he _)
  obtain ⟨d, rfl, q⟩ := q1
  cases r1
  exact wpAny_truthy_bool ⟨H1, I1, q⟩

/-! ### and, or, not -/
variable {tA tB' : TT} {rest : List Expr}
def tNot (t : TT) : TT := fun σ H Q => t σ H fun c H1 => Q (!c) H1
theorem pt_not (ha : PT X a tA) : PT X (.UnaryOp .Not a pos) (tNot tA) := by
  intro pins s σ H Q I h
  exact isTrue_not (ha pins s σ H (fun c H1 => Q (!c) H1) I h)
/-- .. as values (bools) -/
def tAndV (ta tb : TE) : TE := fun σ H Q => ta σ H fun x H1 => ∃ c, x = .bl c ∧ if c = true then tb σ H1 Q else Q (.bl false) H1
def tNotV (ta : TE) : TE := fun σ H Q => ta σ H fun x H1 => ∃ c, x = .bl c ∧ Q (.bl (!c)) H1
theorem pe_one {op} {t : TE} (h : PE X a t) : PE X (.BoolOp op [a] pos) t := fun pins s σ H Q I hw => BoolOp_one (h pins s σ H Q I hw)
theorem pe_and (ha : PE X a ta) (hb : PE X (.BoolOp .And (b :: rest) pos) tb) : PE X (.BoolOp .And (a :: b :: rest) pos) (tAndV ta tb) := by
  intro pins s σ H Q I h
  refine BoolOp_and (thn (ha pins s σ H _ I h) fun v s1 ⟨x, H1, I1, r1, q1⟩ => ?_)
  obtain ⟨c, rfl, q1⟩ := q1
  cases r1
  refine wpAny_truthy_bool ?_
  cases c with
  | true => exact hb pins s1 σ H1 Q I1 q1
  | false => exact ⟨.bl false, H1, I1, rfl, q1⟩
theorem pe_not (ha : PE X a ta) : PE X (.UnaryOp .Not a pos) (tNotV ta) := by
  intro pins s σ H Q I h
  refine UnaryOp_ (thn (ha pins s σ H _ I h) fun v s1 ⟨x, H1, I1, r1, q1⟩ => ?_)
  obtain ⟨c, rfl, q1⟩ := q1
  cases r1
  exact not_of (wpAny_truthy_bool ⟨.bl (!c), H1, I1, rfl, q1⟩)
end
end L2

namespace L2
open PySem PySem.Spec PyProof.Rows

/-! ### a list, a tuple that is read: tracked, frozen, or an object of the module -/
def SqL (K : PySem.W.Frag) (H : Hp) (a : Addr) (xs : List V) : Prop :=
  Rd H a (.lst xs) ∨
    ∃ (o : Obj) (its : Array Value) (n : Nat), K.lookup a = some o ∧ o.cls = .type "list" ∧ o.dict = none ∧ o.data = .seq its n ∧ its.size ≤ sizeLine ∧ Vals xs its.toList
def SqT (K : PySem.W.Frag) (H : Hp) (a : Addr) (xs : List V) : Prop :=
  Rd H a (.tup xs) ∨
    ∃ (o : Obj) (its : Array Value) (n : Nat), K.lookup a = some o ∧ o.cls = .type "tuple" ∧ o.data = .seq its n ∧ its.size ≤ sizeLine ∧ Vals xs its.toList
def absV : Value → Option V
  | .none => some .non
  | .bool b => some (.bl b)
  | .int i _ => some (.int i)
  | .str x _ => some (.str x)
  | .bytes b _ => some (.byt b)
  | .float b _ => some (.flt b)
  | .ref a => some (.ref a)
  | .type n => some (.ty n)
  | _ => none
theorem RelV.abs {x : V} {u : Value} (r : RelV x u) : absV u = some x := by
  cases x with
  | non => cases r; rfl
  | bl _ => cases r; rfl
  | int _ => obtain ⟨t, rfl⟩ := r; rfl
  | str _ => obtain ⟨t, rfl⟩ := r; rfl
  | byt _ => obtain ⟨t, rfl⟩ := r; rfl
  | flt _ => obtain ⟨t, rfl⟩ := r; rfl
  | ref _ => cases r; rfl
  | ty _ => cases r; rfl
theorem RelV.inj {x y : V} {u : Value} (r : RelV x u) (q : RelV y u) : x = y := Option.some.inj (r.abs.symm.trans q.abs)
theorem Vals.inj : ∀ {xs ys : List V} {us : List Value}, Vals xs us → Vals ys us → xs = ys
  | _, _, _, .nil, .nil => rfl
  | _, _, _, .cons r t, .cons r' t' => by rw [r.inj r', Vals.inj t t']
section
variable {X : Cx} {pins : List (Addr × Obj)} {σ : St} {H : Hp} {s : Shared} {a : Addr} {xs ys : List V}
theorem SqL.of {K : PySem.W.Frag} (h : H a = some (.lst xs)) : SqL K H a xs := .inl (.inl h)
theorem SqT.of {K : PySem.W.Frag} (h : H a = some (.tup xs)) : SqT K H a xs := .inl (.inl h)
theorem Inv.list (I : Inv X pins σ H s) (h : SqL X.K H a xs) : ∃ its : List Value, Vals xs its ∧ PlainL s.heap a its.toArray ∧ xs.length ≤ sizeLine := by
  rcases h with h | ⟨o, its, n, hk, hc, hd, hs, hz, r⟩
  · obtain ⟨z, its, n, r, e⟩ := h.ok I.hok
    exact ⟨its, r, ⟨_, n, e, rfl, rfl, rfl⟩, z⟩
  · refine ⟨its.toList, r, ⟨o, n, I.kIn a o hk, hc, hd, by simpa using hs⟩, ?_⟩
    have e := r.length
    simp only [Array.length_toList] at e
    omega
theorem Inv.tuple (I : Inv X pins σ H s) (h : SqT X.K H a xs) : ∃ its : List Value, Vals xs its ∧ IsTup s.heap a its.toArray ∧ xs.length ≤ sizeLine := by
  rcases h with h | ⟨o, its, n, hk, hc, hs, hz, r⟩
  · obtain ⟨z, its, r, p⟩ := h.ok I.hok
    exact ⟨its, r, p, z⟩
  · refine ⟨its.toList, r, ⟨o, I.kIn a o hk, hc, n, by simpa using hs⟩, ?_⟩
    have e := r.length
    simp only [Array.length_toList] at e
    omega
theorem Inv.list_inj (I : Inv X pins σ H s) (h : SqL X.K H a xs) (h' : SqL X.K H a ys) : xs = ys := by
  obtain ⟨its, r, ⟨o, n, e, _, _, d⟩, _⟩ := I.list h
  obtain ⟨its', r', ⟨o', n', e', _, _, d'⟩, _⟩ := I.list h'
  rw [e] at e'; cases e'
  rw [d] at d'
  injection d' with d1 _
  have : its = its' := by simpa using congrArg Array.toList d1
  subst this
  exact r.inj r'
end

/-! ### another wish about exceptions -/
abbrev Cx.wish (X : Cx) (E : Value → Shared → Prop) : Cx := { X with xe := E }
/-- no exception leaves -/
abbrev Cx.nox (X : Cx) : Cx := X.wish fun _ _ => False
theorem Cx.Ok.wish {X : Cx} (ok : X.Ok) (E : Value → Shared → Prop) : (X.wish E).Ok :=
  ⟨ok.mod, ok.kind, ok.glob, ok.blt, ok.above, ok.inj, ok.has, ok.cab, ok.hd, ok.frames, ok.stk, ok.exf, ok.bs, ok.bsz, ok.noex, ok.exfs, ok.funs, ok.frf⟩
theorem Cx.Ok.unwish {X : Cx} {E : Value → Shared → Prop} (ok : (X.wish E).Ok) : X.Ok :=
  ⟨ok.mod, ok.kind, ok.glob, ok.blt, ok.above, ok.inj, ok.has, ok.cab, ok.hd, ok.frames, ok.stk, ok.exf, ok.bs, ok.bsz, ok.noex, ok.exfs, ok.funs, ok.frf⟩
section
variable {X : Cx} {pins : List (Addr × Obj)} {σ : St} {H : Hp} {s : Shared} {E : Value → Shared → Prop}
theorem Inv.wish (I : Inv X pins σ H s) (E : Value → Shared → Prop) : Inv (X.wish E) pins σ H s := ⟨I.ok.wish E, I.os, I.bare, I.base, I.loc, I.cell, I.free, I.freeC, I.pin, I.hok, I.len⟩
theorem Inv.unwish (I : Inv (X.wish E) pins σ H s) : Inv X pins σ H s := ⟨I.ok.unwish, I.os, I.bare, I.base, I.loc, I.cell, I.free, I.freeC, I.pin, I.hok, I.len⟩
theorem SP.unwish {D : Ends} {f : Flow} {s' : Shared} (h : SP (X.wish E) pins D f s') : SP X pins D f s' := by
  cases f with
  | next => obtain ⟨σ', H', I, q⟩ := h; exact ⟨σ', H', I.unwish, q⟩
  | brk => obtain ⟨σ', H', I, q⟩ := h; exact ⟨σ', H', I.unwish, q⟩
  | cont => obtain ⟨σ', H', I, q⟩ := h; exact ⟨σ', H', I.unwish, q⟩
  | ret u => obtain ⟨v, σ', H', I, r, q⟩ := h; exact ⟨v, σ', H', I.unwish, r, q⟩
theorem PE.nox {e : Expr} {t : TE} (h : PE X.nox e t) : PE X e t := fun pins s σ H Q I hw =>
  wpAny_mono (h pins s σ H Q (I.wish _) hw) (fun _ _ ⟨v, H', I', r, q⟩ => ⟨v, H', I'.unwish, r, q⟩) fun _ _ z => False.elim z
theorem PT.nox {e : Expr} {t : TT} (h : PT X.nox e t) : PT X e t := fun pins s σ H Q I hw =>
  wpAny_mono (h pins s σ H Q (I.wish _) hw) (fun _ _ ⟨H', I', q⟩ => ⟨H', I'.unwish, q⟩) fun _ _ z => False.elim z
theorem PSs.nox {st : List Stmt} {t : TS} (h : PSs X.nox st t) : PSs X st t := fun pins s σ H D I hw =>
  wpAny_mono (h pins s σ H D (I.wish _) hw) (fun _ _ q => q.unwish) fun _ _ z => False.elim z
end

/-! ### blocks and small statements -/
section
variable {X : Cx} {st : Stmt} {rest : List Stmt} {t u : TS} {e : Expr} {te : TE} {pos : Pos}
def tNext : TS := fun D σ H => D.nx σ H
def tSeq (t u : TS) : TS := fun D σ H => t { D with nx := u D } σ H
theorem pss_nil : PSs X [] tNext := fun _ _ σ H _ I h => wpAny_execs_nil ⟨σ, H, I, h⟩
theorem pss_cons (h1 : PS X st t) (h2 : PSs X rest u) : PSs X (st :: rest) (tSeq t u) := by
  intro pins s σ H D I h
  refine wpAny_execs_cons (thn (h1 pins s σ H { D with nx := u D } I h) fun f s1 q => ?_)
  cases f with
  | next =>
    obtain ⟨σ', H', I', q⟩ := q
    exact h2 pins s1 σ' H' D I' q
  | ret v => exact q
  | brk => exact q
  | cont => exact q
theorem pss_one (h1 : PS X st t) : PSs X [st] t := by
  intro pins s σ H D I h
  refine wpAny_execs_cons (thn (h1 pins s σ H D I h) fun f s1 q => ?_)
  cases f with
  | next => exact wpAny_execs_nil q
  | ret v => exact q
  | brk => exact q
  | cont => exact q
/-- in a def's body nothing is shown -/
theorem Inv.quiet {pins : List (Addr × Obj)} {σ : St} {H : Hp} {s : Shared} (I : Inv X pins σ H s) : interactive X.env = false := by simp [interactive, I.ok.kind]
/-- an expression whose value is dropped -/
def tDrop (te : TE) : TS := fun D σ H => te σ H fun _ H1 => D.nx σ H1
theorem ps_expr (he : PE X e te) (hs : swapsWith e none pos.line X.env = pure false := by rfl) : PS X (.Expr e pos) (tDrop te) := by
  intro pins s σ H D I h
  exact wpAny_Expr_any (thn (he pins s σ H _ I h) fun v s1 ⟨x, H1, I1, r1, q1⟩ => ⟨σ, H1, I1, q1⟩) I.quiet hs
def tRet (te : TE) : TS := fun D σ H => te σ H D.rt
theorem ps_ret (he : PE X e te) : PS X (.Return (some e) pos) (tRet te) := by
  intro pins s σ H D I h
  exact wpAny_Return_some (thn (he pins s σ H _ I h) fun v s1 ⟨x, H1, I1, r1, q1⟩ => ⟨x, σ, H1, I1, r1, q1⟩)
def tIfS (c : TT) (t u : TS) : TS := fun D σ H => c σ H fun b H1 => if b = true then t D σ H1 else u D σ H1
theorem ps_if {c : Expr} {a b : List Stmt} {tc : TT} (hc : PT X c tc) (ha : PSs X a t) (hb : PSs X b u) : PS X (.If c a b pos) (tIfS tc t u) := by
  intro pins s σ H D I h
  refine wpAny_If (thn (hc pins s σ H _ I h) fun d s1 ⟨H1, I1, q1⟩ => ?_)
  cases d with
  | true => exact ha pins s1 σ H1 D I1 q1
  | false => exact hb pins s1 σ H1 D I1 q1
end

/-! ### targets -/
abbrev TG := V → St → Hp → (St → Hp → Prop) → Prop
abbrev TGs := List V → St → Hp → (St → Hp → Prop) → Prop
def PG (X : Cx) (target : Expr) (t : TG) : Prop :=
  ∀ (pins : List (Addr × Obj)) (s : Shared) (σ : St) (H : Hp) (v : V) (u : Value) (Q : St → Hp → Prop), Inv X pins σ H s → RelV v u → t v σ H Q →
    wpAny (model X.prog X.w) X.A (assign target X.env u) (fun _ s' => ∃ σ' H', Inv X pins σ' H' s' ∧ Q σ' H') X.xe s
/-- several targets, one after another -/
def PGs (X : Cx) (ts : List Expr) (t : TGs) : Prop :=
  ∀ (pins : List (Addr × Obj)) (s : Shared) (σ : St) (H : Hp) (vs : List V) (us : List Value) (Q : St → Hp → Prop), Inv X pins σ H s → Vals vs us → t vs σ H Q →
    wpAny (model X.prog X.w) X.A (assignInOrder ((assignEach ts X.env).map (·.2)) us) (fun _ s' => ∃ σ' H', Inv X pins σ' H' s' ∧ Q σ' H') X.xe s
section
variable {X : Cx} {pos : Pos}
def gName (i : Nat) : TG := fun v σ H Q => Q (σ.set i (some v)) H
theorem pg_name {i : Nat} {x : Str} (hN : X.N.Nodup) (hi : X.N[i]? = some x) (hx : Loc X.env.scope x) (hf : X.fn x = true ∨ X.env.scope.names.lookup x = some .local := by first | exact .inl rfl | exact .inr rfl | assumption) : PG X (.Name x pos) (gName i) := by
  intro pins s σ H v u Q I r h
  exact wpAny_assign_Name (store_ok I hN hi hx r (fun s' I' => ⟨_, H, I', h⟩) hf)
/-- target = value -/
def tAsg (te : TE) (g : TG) : TS := fun D σ H => te σ H fun x H1 => g x σ H1 D.nx
/-- name = value -/
theorem ps_set {i : Nat} {x : Str} {e : Expr} {te : TE} {pos' : Pos} (hN : X.N.Nodup) (hi : X.N[i]? = some x) (hx : Loc X.env.scope x) (he : PE X e te) (hs : swapsWith e (some (.Name x pos')) pos.line X.env = pure false := by rfl) (hf : X.fn x = true ∨ X.env.scope.names.lookup x = some .local := by first | exact .inl rfl | exact .inr rfl | assumption) :
    PS X (.Assign [.Name x pos'] e pos) (tAsg te (gName i)) := by
  intro pins s σ H D I h
  refine wpAny_Assign_Name (thn (he pins s σ H _ I h) fun v s1 ⟨y, H1, I1, r1, q1⟩ => ?_) hs
  exact store_ok I1 hN hi hx r1 (fun s2 I2 => ⟨_, H1, I2, q1⟩) hf
end

/-! ### while -/
section
variable {X : Cx} {pos : Pos}
end

/-! ### what a loop or a comprehension walks -/
/-- at turn i: it yields x (the heap may grow), or it stops -/
structure It where
  go : Nat → Hp → Prop
  yld : Nat → Hp → V → Hp → Prop
  stop : Nat → Hp → Prop
/-- the iterator's own objects may turn: they are not the frame's, not pinned, younger than the entry (or a comprehension's own) -/
def FpOk (X : Cx) (pins : List (Addr × Obj)) (H : Hp) (b : Addr) : Prop :=
  H b = none ∧ b ≠ X.env.locals ∧ b ∉ X.fs ∧ (b ∈ X.ex ∨ X.s₀.heap.objs.size ≤ b) ∧ (∀ x c, X.env.cells.lookup x = some c → c ≠ b) ∧ ∀ p ∈ X.pn ++ pins, p.1 ≠ b
theorem Inv.fpOk {X : Cx} {pins : List (Addr × Obj)} {σ : St} {H H' : Hp} {s : Shared} {b : Addr} (I : Inv X pins σ H s) (hb : s.heap.objs.size ≤ b) (hn : H' b = none) : FpOk X pins H' b := by
  refine ⟨hn, Nat.ne_of_gt (Nat.lt_of_lt_of_le I.lt hb), I.nofs hb, .inr (Nat.le_trans I.sz hb), fun x c e z => ?_, fun p hp z => ?_⟩
  · obtain ⟨v, q⟩ := I.cell x c e
    exact absurd (Nat.lt_of_lt_of_le q.lt (by rw [z]; exact hb)) (Nat.lt_irrefl _)
  · exact absurd (Nat.lt_of_lt_of_le (Heap.lt_size (I.pin p hp).1) (by rw [z]; exact hb)) (Nat.lt_irrefl _)
structure Turn (P : Program) (w : World) (K : PySem.W.Frag) (tg : Expr) (J : It) (fp : List Addr) (it : Addr) (tn : Nat → Heap → Prop) : Prop where
  mem : it ∈ fp
  obj : ∀ i h, tn i h → ∀ b ∈ fp, ∃ o, h.get? b = some o ∧ ∀ v, o.data ≠ .cell v
  keep : ∀ i h h', tn i h → (∀ b ∈ fp, ∀ o, h.get? b = some o → h'.get? b = some o) → tn i h'
  item : ∀ (X : Cx), X.prog = P → X.w = w → X.K = K → X.calm = true → ∀ (i : Nat) (pins : List (Addr × Obj)) (s : Shared) (σ : St) (H : Hp) (E : Value → Shared → Prop), Inv X pins σ H s → (∀ b ∈ fp, FpOk X pins H b) → tn i s.heap → J.go i H →
    wpAny (model P w) X.A (pyNext (.ref it)) (fun r s1 => ∃ u, r = some u ∧
      wpAny (model P w) X.A (letOwnedTupleGo tg (.ref it) u) (fun _ s2 => ∃ x H', Inv X pins σ H' s2 ∧ RelV x u ∧ J.yld i H x H' ∧ tn (i + 1) s2.heap ∧ ∀ b ∈ fp, H' b = none) E s1) E s
  done : ∀ (X : Cx), X.prog = P → X.w = w → X.K = K → X.calm = true → ∀ (i : Nat) (pins : List (Addr × Obj)) (s : Shared) (σ : St) (H : Hp) (E : Value → Shared → Prop), Inv X pins σ H s → (∀ b ∈ fp, FpOk X pins H b) → tn i s.heap → J.stop i H →
    wpAny (model P w) X.A (pyNext (.ref it)) (fun r s1 => r = none ∧ Inv X pins σ H s1) E s
  self : ∀ (A : Around) (i : Nat) (s : Shared) (Q : Value → Shared → Prop) (E : Value → Shared → Prop), tn i s.heap → Q (.ref it) s → wpAny (model P w) A (pyIter (.ref it)) Q E s
abbrev TI := St → Hp → (It → Hp → Prop) → Prop
/-- an iterator has come -/
def PIE (X : Cx) (pins : List (Addr × Obj)) (σ : St) (tg : Expr) (R : It → Hp → Prop) (itv : Value) (s2 : Shared) : Prop :=
  ∃ (it : Addr) (fp : List Addr) (tn : Nat → Heap → Prop) (J : It) (H' : Hp), itv = .ref it ∧ Inv X pins σ H' s2 ∧ Turn X.prog X.w X.K tg J fp it tn ∧ tn 0 s2.heap ∧ (∀ b ∈ fp, FpOk X pins H' b) ∧ R J H'
def PI (X : Cx) (tg iter : Expr) (wi : TI) : Prop :=
  ∀ (pins : List (Addr × Obj)) (s : Shared) (σ : St) (H : Hp) (R : It → Hp → Prop), Inv X pins σ H s → wi σ H R →
    wpAny (model X.prog X.w) X.A (eval iter X.env) (fun v s1 => wpAny (model X.prog X.w) X.A (pyIter v) (PIE X pins σ tg R) X.xe s1) X.xe s

/-- the step ahead of the store is nothing for an iterator that keeps no tuple -/
theorem go_of {M : Model} {A : Around} {E : Value → Shared → Prop} {s : Shared} {tg : Expr} {it : Addr} {u : Value} {o : Obj} {n : String} {vs : Array Value} {Q : Unit → Shared → Prop} (ho : s.heap.get? it = some o) (hc : o.cls = .type n) (hd : o.data = .fields vs)
    (hn : ["enumerate", "zip", "dict_itemiterator", "dict_reverseitemiterator", "odict_iterator", "itertools.zip_longest", "itertools.pairwise"].contains n = false) (hQ : Q () s) : wpAny M A (letOwnedTupleGo tg (.ref it) u) Q E s := by
  unfold letOwnedTupleGo
  cases tg <;> first
    | exact wpAny_pure hQ
    | (cases u <;> first
        | exact wpAny_pure hQ
        | (refine wpAny_bind (wpAny_load ho ?_)
           rw [hc, hd]
           show wpAny M A (if (["enumerate", "zip", "dict_itemiterator", "dict_reverseitemiterator", "odict_iterator", "itertools.zip_longest", "itertools.pairwise"].contains n && vs[0]? == some (rawInt _)) = true then _ else _) Q E s
           rw [if_neg (by intro h; rw [hn, Bool.false_and] at h; cases h)]
           exact wpAny_pure hQ))

/-- the list at a, as it stands at each turn (a loop may append to it) -/
def Itl (K : PySem.W.Frag) (a : Addr) : It :=
  ⟨fun i H => ∃ xs x, SqL K H a xs ∧ xs[i]? = some x, fun i H x H' => H' = H ∧ ∀ xs, SqL K H a xs → xs[i]? = some x, fun i H => ∃ xs, SqL K H a xs ∧ xs.length ≤ i⟩
theorem turn_list {P : Program} {w : World} {K : PySem.W.Frag} {tg : Expr} (a it : Addr) : Turn P w K tg (Itl K a) [it] it (fun i h => h.IsListIter it a i) where
  mem := by simp
  obj := fun i h st b hb => by
    have e : b = it := by simpa using hb
    subst e
    obtain ⟨o, e, c, d⟩ := st
    exact ⟨o, e, fun v z => by rw [d] at z; cases z⟩
  keep := fun i h h' st k => st.at fun o e => k it (by simp) o e
  item := by
    intro X hP hw hK hc i pins s σ H E I hf st hg
    subst hP hw hK
    obtain ⟨xs, x, hq, hx⟩ := hg
    obtain ⟨its, rv, p, hz⟩ := I.list hq
    obtain ⟨u, hu, ru⟩ := rv.get hx
    obtain ⟨f0, f1, f2, f3, f4, f5⟩ := hf it (by simp)
    refine wpAny_pyNext_list_item st p.isList (x := u) (by simpa using hu) fun h' st' sb => ?_
    have I1 : Inv X pins σ H { s with heap := h' } := I.turned (t' := s.toks) (fun b o hb e => (sb.2 b hb).trans e) f0 f1 f3 f4 f5
    obtain ⟨o, e, c, d⟩ := id st'
    exact ⟨u, rfl, go_of (s := { s with heap := h' }) e c d (by decide) ⟨x, H, I1, ru, ⟨rfl, fun ys hy => by rw [I.list_inj hy hq]; exact hx⟩, st', fun b hb => (hf b hb).1⟩⟩
  done := by
    intro X hP hw hK hc i pins s σ H E I hf st hg
    subst hP hw hK
    obtain ⟨xs, hq, hx⟩ := hg
    obtain ⟨its, rv, p, hz⟩ := I.list hq
    obtain ⟨f0, f1, f2, f3, f4, f5⟩ := hf it (by simp)
    have hl := rv.length
    exact wpAny_pyNext_list_end (I.ok.hd hc) st p.isList (by simp; omega) fun h' eb => ⟨rfl, I.turned (t' := s.toks) (fun b o hb e => eb b o hb e) f0 f1 f3 f4 f5⟩
  self := fun _ _ _ _ _ st h => wpAny_pyIter_listiter st h
end L2

namespace L2
open PySem PySem.Spec PyProof.Rows
section
variable {X : Cx} {tg : Expr}
def iList (K : PySem.W.Frag) (tl : TE) : TI := fun σ H R => tl σ H fun x H1 => ∃ a, x = .ref a ∧ (∃ xs, SqL K H1 a xs) ∧ R (Itl K a) H1
theorem pi_list {l : Expr} {tl : TE} (hl : PE X l tl) : PI X tg l (iList X.K tl) := by
  intro pins s σ H R I h
  refine thn (hl pins s σ H _ I h) fun v s1 ⟨x, H1, I1, r1, q1⟩ => ?_
  obtain ⟨a, e, ⟨xs, hq⟩, q⟩ := q1
  subst e
  cases r1
  obtain ⟨its, rv, p, hz⟩ := I1.list hq
  refine wpAny_pyIter_list p.isList ?_
  refine ⟨s1.heap.objs.size, [s1.heap.objs.size], _, _, H1, rfl, I1.kept (t' := s1.toks) fun b o e => Heap.get?_push_of_some _ e, turn_list a _, ⟨_, Heap.get?_push_size _ rfl, rfl, rfl⟩, fun b hb => ?_, q⟩
  have e : b = s1.heap.objs.size := by simpa using hb
  subst e
  exact I1.fpOk (Nat.le_refl _) (I1.hok.fresh (Nat.le_refl _))
/-! ### for -/
/-- W: the invariant by the turn and a measure; N: what the body is to reach -/
def tFor (wi : TI) (g : TG) (tb : TS) : TS := fun D σ H => wi σ H fun J H1 => ∃ W : Nat → Nat → St → Hp → Prop, (∃ m, W 0 m σ H1) ∧ ∀ i m σ H, W i m σ H →
  (J.stop i H ∧ D.nx σ H) ∨ (J.go i H ∧ ∃ N : St → Hp → Prop, (∀ σ' H', N σ' H' → ∃ m', m' < m ∧ W (i + 1) m' σ' H') ∧ ∀ x H', J.yld i H x H' → g x σ H' fun σ2 H2 => tb { D with nx := N, ct := N, bk := D.nx } σ2 H2)
/-- the records at fp as they stand -/
def pinsAt (fp : List Addr) (h : Heap) : List (Addr × Obj) := fp.filterMap fun b => (h.get? b).map fun o => (b, o)
theorem mem_pinsAt {fp : List Addr} {h : Heap} {b : Addr} {o : Obj} (hb : b ∈ fp) (e : h.get? b = some o) : (b, o) ∈ pinsAt fp h := List.mem_filterMap.mpr ⟨b, hb, by rw [e]; rfl⟩
theorem of_pinsAt {fp : List Addr} {h : Heap} {p : Addr × Obj} (hp : p ∈ pinsAt fp h) : p.1 ∈ fp ∧ h.get? p.1 = some p.2 := by
  obtain ⟨b, hb, e⟩ := List.mem_filterMap.mp hp
  cases q : h.get? b with
  | none => rw [q] at e; cases e
  | some o =>
    rw [q] at e
    have e' : (b, o) = p := Option.some.inj e
    subst e'
    exact ⟨hb, q⟩
theorem Inv.pinned {pins : List (Addr × Obj)} {σ : St} {H : Hp} {s : Shared} {fp : List Addr} (I : Inv X pins σ H s) (hf : ∀ b ∈ fp, FpOk X pins H b) (ho : ∀ b ∈ fp, ∃ o, s.heap.get? b = some o ∧ ∀ v, o.data ≠ .cell v) : Inv X (pins ++ pinsAt fp s.heap) σ H s :=
  I.pins_of fun p hp => (List.mem_append.mp hp).elim (fun z => I.pin p (List.mem_append_right _ z)) fun z => by
    obtain ⟨hb, e⟩ := of_pinsAt z
    obtain ⟨f0, f1, f2, _⟩ := hf p.1 hb
    obtain ⟨o, e', d⟩ := ho p.1 hb
    rw [e] at e'; cases e'
    exact ⟨e, f0, f1, f2, d⟩
theorem Inv.unpinned {pins pl : List (Addr × Obj)} {σ : St} {H : Hp} {s : Shared} (I : Inv X (pins ++ pl) σ H s) : Inv X pins σ H s := I.pins_of fun p hp => I.pin p (List.mem_append_right _ (List.mem_append_left _ hp))
theorem ps_for {iter : Expr} {body : List Stmt} {wi : TI} {g : TG} {tb : TS} {pos : Pos} (hp : PassesOwn (model X.prog X.w) X.A X.env X.xe) (hc : X.calm = true) (hi : PI X tg iter wi) (hg : PG X tg g) (hb : PSs X body tb)
    (hs : ∀ x, foldedSetIterable iter X.env x = pure x := by intro _; rfl) : PS X (.For tg iter body [] pos) (tFor wi g tb) := by
  intro pins s σ H D I h
  refine wpAny_For (thn (hi pins s σ H _ I h) fun v s1 h1 => thn h1 fun itv s2 h2 => ?_) hs
  obtain ⟨it, fp, tn, J, H2, e, I2, T, st2, f2, W, ⟨m0, w0⟩, turn⟩ := h2
  subst e
  -- what stays true of the iterator's objects through the loop
  have stat : ∀ {H' : Hp}, (∀ b ∈ fp, H' b = none) → ∀ b ∈ fp, FpOk X pins H' b := fun hn b hb => ⟨hn b hb, (f2 b hb).2⟩
  refine codeAny_forLoop_any (fun n s' => ∃ i σ' H', Inv X pins σ' H' s' ∧ tn i s'.heap ∧ (∀ b ∈ fp, H' b = none) ∧ W i n σ' H') ?_ m0 ⟨0, σ, H2, I2, st2, fun b hb => (f2 b hb).1, w0⟩
  rintro n s3 ⟨i, σ3, H3, I3, st3, fr3, w3⟩
  rcases turn i n σ3 H3 w3 with ⟨stop, qn⟩ | ⟨go, N, hN, step⟩
  · refine wpAny_passesOwn hp (thn (T.done X rfl rfl rfl hc i pins s3 σ3 H3 X.xe I3 (stat fr3) st3 stop) fun r s4 ⟨hr, I4⟩ => ?_)
    subst hr
    exact wpAny_execs_nil ⟨σ3, H3, I4, qn⟩
  · refine wpAny_passesOwn hp (thn (T.item X rfl rfl rfl hc i pins s3 σ3 H3 X.xe I3 (stat fr3) st3 go) fun r s4 ⟨u, hr, h4⟩ => ?_)
    subst hr
    refine wpAny_passesOwn hp (thn h4 fun _ s5 ⟨x, H5, I5, r5, y5, st5, fr5⟩ => ?_)
    have I5' := I5.pinned (stat fr5) (T.obj _ _ st5)
    refine wpAny_passesOwn hp (thn (hg _ s5 σ3 H5 x u _ I5' r5 (step x H5 y5)) fun _ s6 ⟨σ6, H6, I6, q6⟩ => ?_)
    refine wpAny_passesOwn hp (thn (hb _ s6 σ6 H6 _ I6 q6) fun f s7 q7 => ?_)
    have again : ∀ {σ7 : St} {H7 : Hp}, Inv X (pins ++ pinsAt fp s5.heap) σ7 H7 s7 → N σ7 H7 → ∃ m, m < n ∧ ∃ i σ' H', Inv X pins σ' H' s7 ∧ tn i s7.heap ∧ (∀ b ∈ fp, H' b = none) ∧ W i m σ' H' := fun {σ7 H7} I7 n7 => by
      obtain ⟨m', hm, w7⟩ := hN σ7 H7 n7
      refine ⟨m', hm, i + 1, σ7, H7, I7.unpinned, T.keep _ _ _ st5 fun b hb o e => (I7.pin (b, o) (List.mem_append_right _ (List.mem_append_right _ (mem_pinsAt hb e)))).1, fun b hb => ?_, w7⟩
      obtain ⟨o, e, d⟩ := T.obj _ _ st5 b hb
      exact (I7.pin (b, o) (List.mem_append_right _ (List.mem_append_right _ (mem_pinsAt hb e)))).2.1
    cases f with
    | next => obtain ⟨σ7, H7, I7, n7⟩ := q7; exact again I7 n7
    | cont => obtain ⟨σ7, H7, I7, n7⟩ := q7; exact again I7 n7
    | brk => obtain ⟨σ7, H7, I7, q7⟩ := q7; exact ⟨σ7, H7, I7.unpinned, q7⟩
    | ret v => obtain ⟨x7, σ7, H7, I7, r7, q7⟩ := q7; exact ⟨x7, σ7, H7, I7.unpinned, r7, q7⟩
end

/-! ### the forms one uses -/
end L2

namespace L2
open PySem PySem.Spec PyProof.Rows

abbrev R2 := V → V → Hp → VK → Prop
/-- a two-place operation on values: f is binaryOp op, inplaceOp op or compareOp op -/
def OpR (X : Cx) (f : Value → Value → Sem Value) (r : R2) : Prop :=
  ∀ (pins : List (Addr × Obj)) (s : Shared) (σ : St) (H : Hp) (x y : V) (v u : Value) (Q : VK), Inv X pins σ H s → RelV x v → RelV y u → r x y H Q →
    wpAny (model X.prog X.w) X.A (f v u) (EP X pins σ Q) X.xe s
/-- a call of a value that is known (a builtin, a type) with values -/
def CallR (X : Cx) (f : Value) (r : List V → Hp → VK → Prop) : Prop :=
  ∀ (pins : List (Addr × Obj)) (s : Shared) (σ : St) (H : Hp) (xs : List V) (us : List Value) (Q : VK), Inv X pins σ H s → Vals xs us → r xs H Q →
    wpAny (model X.prog X.w) X.A (call f us) (EP X pins σ Q) X.xe s
def tOp (r : R2) (ta tb : TE) : TE := fun σ H Q => ta σ H fun x H1 => tb σ H1 fun y H2 => r x y H2 Q
/-- ints in, under C, and a value out -/
def rI (C : Int → Int → Prop) (g : Int → Int → V) : R2 := fun x y H Q => ∃ i j, x = .int i ∧ y = .int j ∧ C i j ∧ Q (g i j) H
def rI0 (g : Int → Int → V) : R2 := fun x y H Q => ∃ i j, x = .int i ∧ y = .int j ∧ Q (g i j) H
section
variable {X : Cx} {a b c : Expr} {ta tb tc : TE} {pos : Pos}

theorem binT (ha : PE X a ta) (hb : PE X b tb) {pins : List (Addr × Obj)} {s : Shared} {σ : St} {H : Hp} {R : V → V → Hp → Prop} (I : Inv X pins σ H s)
    (h : ta σ H fun x H1 => tb σ H1 fun y H2 => R x y H2) {Q : Value → Shared → Prop} {f : Value → Value → Sem Value}
    (hf : ∀ v u s2 x y H2, Inv X pins σ H2 s2 → RelV x v → RelV y u → R x y H2 → wpAny (model X.prog X.w) X.A (f v u) Q X.xe s2) :
    wpAny (model X.prog X.w) X.A (eval a X.env) (fun v s₁ => wpAny (model X.prog X.w) X.A (eval b X.env) (fun u s₂ => wpAny (model X.prog X.w) X.A (f v u) Q X.xe s₂) X.xe s₁) X.xe s := by
  refine thn (ha pins s σ H _ I h) fun v s1 ⟨x, H1, I1, r1, q1⟩ => ?_
  refine thn (hb pins s1 σ H1 _ I1 q1) fun u s2 ⟨y, H2, I2, r2, q2⟩ => ?_
  exact hf v u s2 x y H2 I2 r1 r2 q2

theorem pe_op {op : Operator} {r : R2} (ho : OpR X (binaryOp op) r) (ha : PE X a ta) (hb : PE X b tb) : PE X (.BinOp a op b pos) (tOp r ta tb) := by
  intro pins s σ H Q I h
  exact wpAny_BinOp (binT ha hb I h fun v u s2 x y H2 I2 rx ry q => ho pins s2 σ H2 x y v u Q I2 rx ry q)
/-! ### ints -/
theorem opI {f : Value → Value → Sem Value} {C : Int → Int → Prop} {g : Int → Int → Int}
    (rule : ∀ (i j : Int) (t u : Tok) (s : Shared) (Q : Value → Shared → Prop) (E : Value → Shared → Prop), C i j → Q (.int (g i j) s.toks) { s with toks := s.toks + 1 } → wpAny (model X.prog X.w) X.A (f (.int i t) (.int j u)) Q E s) :
    OpR X f (rI C fun i j => .int (g i j)) := by
  intro pins s σ H x y v u Q I rx ry h
  obtain ⟨i, j, rfl, rfl, hc, q⟩ := h
  obtain ⟨t, rfl⟩ := rx
  obtain ⟨t', rfl⟩ := ry
  exact rule i j t t' s _ _ hc ⟨.int (g i j), H, I.tok _, ⟨_, rfl⟩, q⟩
theorem opI0 {f : Value → Value → Sem Value} {g : Int → Int → Int}
    (rule : ∀ (i j : Int) (t u : Tok) (s : Shared) (Q : Value → Shared → Prop) (E : Value → Shared → Prop), Q (.int (g i j) s.toks) { s with toks := s.toks + 1 } → wpAny (model X.prog X.w) X.A (f (.int i t) (.int j u)) Q E s) :
    OpR X f (rI0 fun i j => .int (g i j)) := by
  intro pins s σ H x y v u Q I rx ry h
  obtain ⟨i, j, rfl, rfl, q⟩ := h
  obtain ⟨t, rfl⟩ := rx
  obtain ⟨t', rfl⟩ := ry
  exact rule i j t t' s _ _ ⟨.int (g i j), H, I.tok _, ⟨_, rfl⟩, q⟩
def CDiv (i j : Int) : Prop := 0 < j ∧ j < 1073741824
def CMul (i j : Int) : Prop := (-(2 ^ 64) < i ∧ i < 2 ^ 64) ∨ (-(2 ^ 64) < j ∧ j < 2 ^ 64)
theorem CMul.ok {i j : Int} (h : CMul i j) : IntMulOk i j := by
  rcases h with ⟨h1, h2⟩ | ⟨h1, h2⟩
  · exact .of_left (intBits_le_64 h1 h2)
  · exact .of_right (intBits_le_64 h1 h2)
theorem op_add : OpR X (binaryOp .Add) (rI0 fun i j => .int (i + j)) := opI0 fun _ _ _ _ _ _ _ q => add_int q
/-- // by a positive divisor -/
theorem op_fdiv : OpR X (binaryOp .FloorDiv) (rI CDiv fun i j => .int (i / j)) := opI fun i j _ _ _ _ _ hc q => by
  have h1 : (0 : Int) < j := hc.1
  have h2 : j < 1073741824 := hc.2
  exact floordiv_int (by omega) (by rw [Int.fdiv_eq_ediv_of_nonneg i (by omega)]; exact q) (.inl (PyProof.noPylong_small (by omega)))
/-- % by a positive divisor of any size -/
theorem op_mod : OpR X (binaryOp .Mod) (rI (fun _ j => 0 < j) fun i j => .int (i % j)) := opI fun i j _ _ _ _ _ hc q => by
  have h1 : (0 : Int) < j := hc
  exact mod_int' (by omega) (by rw [Int.fmod_eq_emod_of_nonneg i (by omega)]; exact q)
theorem op_or : OpR X (binaryOp .BitOr) (rI0 fun i j => .int (Builtin.bitOr i j)) := opI0 fun _ _ _ _ _ _ _ q => or_int q
/-! ### bools among ints: n += (a < b) -/
end

/-! ### comparisons -/
section
variable {X : Cx} {a b c : Expr} {ta tb tc : TE} {pos : Pos}
theorem fin_bl {pins : List (Addr × Obj)} {σ : St} {H : Hp} {s : Shared} {Q : VK} {k k' : Bool} (I : Inv X pins σ H s) (q : Q (.bl k) H) (e : k = k') : EP X pins σ Q (.bool k') s := by
  subst e
  exact ⟨.bl k, H, I, rfl, q⟩
/-- the one string within the other -/
theorem op_in_str : OpR X (compareOp .In) (fun x y H Q => ∃ i j, x = .str i ∧ y = .str j ∧ Q (.bl (!(Builtin.Str.occurrences j i 0 j.length 1).isEmpty)) H) := by
  intro pins s σ H x y v u Q I rx ry h
  obtain ⟨i, j, rfl, rfl, q⟩ := h
  obtain ⟨t, rfl⟩ := rx
  obtain ⟨t', rfl⟩ := ry
  exact in_str (fin_bl I q rfl)

/-- is None, is not None: the right side a value none -/
theorem op_isN : OpR X (compareOp .Is) (fun x y H Q => y = .non ∧ Q (.bl (decide (x = .non))) H) := by
  intro pins s σ H x y v u Q I rx ry h
  obtain ⟨rfl, q⟩ := h
  cases ry
  refine is_none_gen (fin_bl I q ?_)
  cases x <;> first
    | (cases rx; rfl)
    | (obtain ⟨t, rfl⟩ := rx; rfl)
/-- two rules for one operation: by cases -/
theorem OpR.or {f : Value → Value → Sem Value} {r r' : R2} (h : OpR X f r) (h' : OpR X f r') : OpR X f (fun x y H Q => r x y H Q ∨ r' x y H Q) := by
  intro pins s σ H x y v u Q I rx ry q
  rcases q with q | q
  · exact h pins s σ H x y v u Q I rx ry q
  · exact h' pins s σ H x y v u Q I rx ry q

theorem nomark (b : Expr) {op : CmpOp} (h : op ≠ .In := by decide) (h2 : op ≠ .NotIn := by decide) : behindInMarks op b = false := by
  have e1 : (op == CmpOp.In) = false := by cases op <;> first | rfl | exact absurd rfl h
  have e2 : (op == CmpOp.NotIn) = false := by cases op <;> first | rfl | exact absurd rfl h2
  cases b <;> simp [behindInMarks, e1, e2]
/-- a comparison as a value; hm: nomark b, or (for in, not in) by with_unfolding_all rfl -/
theorem pe_cmpR {op : CmpOp} {r : R2} (ho : OpR X (compareOp op) r) (ha : PE X a ta) (hb : PE X b tb) (hm : behindInMarks op b = false) : PE X (.Compare a [op] [b] pos) (tOp r ta tb) := by
  intro pins s σ H Q I h
  exact wpAny_Compare1 (binT ha hb I h fun v u s2 x y H2 I2 rx ry q => ho pins s2 σ H2 x y v u Q I2 rx ry q) hm
/-- a reading of a value as a test -/
def tTest (t : TE) : TT := fun σ H Q => t σ H fun x H' => ∃ k, x = .bl k ∧ Q k H'
theorem pt_cmpR {op : CmpOp} {r : R2} (ho : OpR X (compareOp op) r) (ha : PE X a ta) (hb : PE X b tb) (hm : behindInMarks op b = false) : PT X (.Compare a [op] [b] pos) (tTest (tOp r ta tb)) := by
  intro pins s σ H Q I h
  refine wpAny_isTrue_Compare1 (thn (ha pins s σ H _ I h) fun v s1 ⟨x, H1, I1, r1, q1⟩ => thn (hb pins s1 σ H1 _ I1 q1) fun u s2 ⟨y, H2, I2, r2, q2⟩ =>
    thn (ho pins s2 σ H2 x y v u _ I2 r1 r2 q2) fun c s3 ⟨z, H3, I3, r3, k, e, q3⟩ => ?_) hm
  subst e
  cases r3
  exact wpAny_truthy_bool ⟨H3, I3, q3⟩
/-! ### truth -/
theorem line63 : (sizeLine : Nat) < 2 ^ 63 := by rw [sizeLine_eq]; decide
/-! ### strs and bytes -/
theorem op_add_str : OpR X (binaryOp .Add) (fun x y H Q => ∃ i j, x = .str i ∧ y = .str j ∧ i.length + j.length ≤ sizeLine ∧ Q (.str (i ++ j)) H) := by
  intro pins s σ H x y v u Q I rx ry h
  obtain ⟨i, j, rfl, rfl, hz, q⟩ := h
  obtain ⟨t, rfl⟩ := rx
  obtain ⟨t', rfl⟩ := ry
  exact add_str (fun t' tk => ⟨.str (i ++ j), H, I.tok _, ⟨_, rfl⟩, q⟩) hz
/-! ### scalar builtins, by CallR -/
theorem vals1 {x : V} {us : List Value} (r : Vals [x] us) : ∃ u, us = [u] ∧ RelV x u := by
  cases r with
  | cons r1 r2 => cases r2; exact ⟨_, rfl, r1⟩
/-- len of a str, a bytes, a list, a tuple -/
def LenV (K : PySem.W.Frag) (x : V) (H : Hp) (n : Nat) : Prop :=
  match x with
  | .str y => y.length ≤ sizeLine ∧ n = y.length
  | .byt y => y.size ≤ sizeLine ∧ n = y.size
  | .ref p => (∃ xs, SqL K H p xs ∧ n = xs.length) ∨ ∃ xs, SqT K H p xs ∧ n = xs.length
  | _ => False
theorem call_len : CallR X (.builtin "len") (fun xs H Q => ∃ x n, xs = [x] ∧ LenV X.K x H n ∧ Q (.int n) H) := by
  intro pins s σ H xs us Q I r h
  obtain ⟨x, n, rfl, e, q⟩ := h
  obtain ⟨u, rfl, rx⟩ := vals1 r
  have hl := line63
  have hs : sizeLine = 16777216 := sizeLine_eq
  cases x with
  | str y =>
    obtain ⟨t, rfl⟩ := rx
    obtain ⟨hy, e'⟩ : y.length ≤ sizeLine ∧ n = y.length := e
    subst e'
    exact len_str (by omega) ⟨.int _, H, I.tok _, ⟨_, rfl⟩, q⟩
  | byt y =>
    obtain ⟨t, rfl⟩ := rx
    obtain ⟨hy, e'⟩ : y.size ≤ sizeLine ∧ n = y.size := e
    subst e'
    exact PySem.W.len_bytes (by omega) ⟨.int _, H, I.tok _, ⟨_, rfl⟩, q⟩
  | ref p =>
    cases rx
    have e' : (∃ xs, SqL X.K H p xs ∧ n = xs.length) ∨ ∃ xs, SqT X.K H p xs ∧ n = xs.length := e
    rcases e' with ⟨xs, hx, e'⟩ | ⟨xs, hx, e'⟩
    · subst e'
      obtain ⟨its, r', pl, hz⟩ := I.list hx
      have hlen := r'.length
      exact Calls.call_len_list pl.isList (by simp only [List.size_toArray]; omega) ⟨.int xs.length, H, I.tok _, ⟨_, by simp only [List.size_toArray]; rw [hlen]⟩, q⟩
    · subst e'
      obtain ⟨its, r', pl, hz⟩ := I.tuple hx
      have hlen := r'.length
      exact len_tuple pl (by simp only [List.size_toArray]; omega) ⟨.int xs.length, H, I.tok _, ⟨_, by simp only [List.size_toArray]; rw [hlen]⟩, q⟩
  | _ => exact (show False from e).elim
end
end L2

namespace L2
open PySem PySem.Spec PyProof.Rows

/-! ### an instance, its attributes a map -/
structure ObjM (h : Heap) (x dx C : Addr) (mA : Str → Option Value) : Prop where
  obj : h.get? x = some (PySem.W.instObj C dx)
  ns : h.Ns1 dx mA
  ne : dx ≠ x

theorem lookIn_ns {h : Heap} {dx : Addr} {mA : Str → Option Value} (n : h.Ns1 dx mA) : ∃ od, h.get? dx = some od ∧ ∀ name, PySem.W.lookIn name od = some (mA name) := by
  obtain ⟨o, es, ep, ho, hd, hk, _, hm⟩ := n
  refine ⟨o, ho, fun name => ?_⟩
  have e := hm name
  unfold nsFind findBy at e
  rw [← Array.find?_toList] at e
  unfold PySem.W.lookIn
  rw [hd]
  dsimp only
  split
  · rename_i y q
    rw [q] at e
    exact congrArg some e
  · rename_i q
    rw [q] at e
    have a : es.toList.any (·.refKey) = false := by
      rw [List.any_eq_false]
      intro y hy
      obtain ⟨z, t, hkey⟩ := hk y (Array.mem_toList_iff.mp hy)
      simp [DictEntry.refKey, hkey]
    have a' : ¬ es.toList.any (·.refKey) = true := by rw [a]; exact Bool.false_ne_true
    rw [if_neg a']
    exact congrArg some e

theorem ObjM.look {h : Heap} {x dx C : Addr} {mA : Str → Option Value} (I : ObjM h x dx C mA) : ∃ od, PySem.W.InstAt h x (PySem.W.instObj C dx) C (some od) ∧ ∀ name, PySem.W.lookIn name od = some (mA name) :=
  let ⟨od, ho, hl⟩ := lookIn_ns I.ns
  ⟨od, ⟨I.obj, rfl, rfl, ho⟩, hl⟩

section
variable {prog : Program} {w : World} {A : Around} {E : Value → Shared → Prop} {s : Shared} {K : PySem.W.Frag} {x dx C f : Addr} {mA : Str → Option Value} {name : Str} {v : Value}

theorem get_meth {pl : Sem Bool} {Q : Value × List Value → Shared → Prop} (X : K.In s.heap) (I : ObjM s.heap x dx C mA) (hg : PySem.W.plainGet K C name = true)
    (hf : PySem.W.findIn K (.ref C) name = some (some (.ref f))) (ht : PySem.W.isFn K (.ref f) = true) (hv : mA name = none) (h : Q (.ref f, [.ref x]) s) :
    wpAny (model prog w) A (getMethod (.ref x) name pl) Q E s := by
  obtain ⟨od, J, hl⟩ := I.look
  exact PySem.W.method_fn X J (PySem.W.plainGet_of hg).1 (PySem.W.plainGet_of hg).2 hf (beq_iff_eq.mp ht) (by show (PySem.W.lookIn name od).map (·.isSome) = some false; rw [hl, hv]; rfl) h

theorem set_map {ns : List Str} {Q : Unit → Shared → Prop} (X : K.In s.heap) (I : ObjM s.heap x dx C mA)
    (hs : PySem.W.findIn K (.ref C) "__setattr__" = some (some (.builtin "object.__setattr__"))) (hp : PySem.W.plainOver K C = true) (ht : PySem.W.takerIn K C name = some none) (hh : PySem.W.hasDictIn K C = true)
    (hw : PySem.Within mA ns) (hsz : ns.length ≤ sizeLine)
    (h : ∀ h', ObjM h' x dx C (fun y => if y = name then some v else mA y) → Heap.SameBut dx s.heap h' → Q () { s with heap := h', toks := s.toks + 2 }) :
    wpAny (model prog w) A (setAttr (.ref x) name v) Q E s := by
  obtain ⟨od, J, hl⟩ := I.look
  refine PySem.W.set_plain X J hs (PySem.W.osa_open (s := { s with toks := s.toks + 1 }) (r := none) X J hp ht fun b => ?_)
  obtain ⟨cd, hc, hd'⟩ := PySem.W.any_some hh
  have hx : s.heap.get? x = some ⟨.ref C, some dx, .plain, #[]⟩ := I.obj
  refine wpAny_bind (wpAny_pure (wpAny_bind (wpAny_bind (wpAny_loadPart hx (wpAny_bind (PySem.W.Looks.here (s := { s with toks := s.toks + 1 }) (PySem.W.looks_clsIn X hc) ?_))))))
  rw [hd']
  refine wpAny_pure (a := some dx) (wpAny_bind (wpAny_pure (wpAny_bind ?_)))
  refine wpAny_nsSet1 (s := { s with toks := s.toks + 1 }) I.ns fun h' hn2 hs2 => ?_
  obtain ⟨oD, esD, epD, hoD, hdD, hcD⟩ := hn2.count (PySem.Within.cons name v hw)
  refine wpAny_bind (wpAny_lookBehind hoD (by rw [hdD]; exact pastItsLine_dict (Nat.le_trans hcD (by rw [List.length_cons]; omega))) ?_)
  exact wpAny_pure (h _ ⟨(hs2.2 _ (Ne.symm I.ne)).trans I.obj, hn2, I.ne⟩ hs2)

/-- C(..): the dict at the heap's end, the instance behind it; then its __init__ -/
theorem make_map {R : Result → Shared → Prop} {vs : List Value} {kw : List (Str × Value)} (X : K.In s.heap) (hm : PySem.W.makesIn K C = true)
    (hi : PySem.W.findIn K (.ref C) "__init__" = some (some (.ref f))) (hf : PySem.W.typeIn K (.ref f) = some (.type "function"))
    (h : codeAny (model prog w) (A.under (.builtin "type.__call__" ⟨.ref C :: vs, kw⟩)) (.call (.ref f) ⟨.ref (s.heap.objs.size + 1) :: vs, kw⟩) (PySem.W.InitBack (s.heap.objs.size + 1) R)
      { s with heap := (s.heap.push PySem.W.emptyDict).push (PySem.W.instObj C s.heap.objs.size) }) :
    codeAny (model prog w) A (.call (.ref C) ⟨vs, kw⟩) R s := by
  obtain ⟨hh, g, d, t, os⟩ := s
  exact PySem.W.make_core (PySem.W.makes_of X hm) (PySem.W.looks_findIn X hi) (fun self => PySem.W.bind_fn X self hf) (.inl rfl) h
end

/-! ### the attributes as a list of pairs -/
def putF (f : Str) (v : V) : List (Str × V) → List (Str × V)
  | [] => [(f, v)]
  | (g, x) :: r => if g = f then (g, v) :: r else (g, x) :: putF f v r
theorem lookup_putF (f g : Str) (v : V) : ∀ fs : List (Str × V), (putF f v fs).lookup g = if g = f then some v else fs.lookup g
  | [] => by
    show List.lookup g [(f, v)] = _
    by_cases h : g = f
    · have hb : (g == f) = true := beq_iff_eq.mpr h
      simp only [List.lookup, hb, if_pos h]
    · have hb : (g == f) = false := beq_eq_false_iff_ne.mpr h
      simp only [List.lookup, hb, if_neg h]
  | (k, x) :: r => by
    have ih := lookup_putF f g v r
    rw [show putF f v ((k, x) :: r) = (if k = f then (k, v) :: r else (k, x) :: putF f v r) from rfl]
    by_cases hk : k = f
    · rw [if_pos hk]
      by_cases h : g = k
      · have hb : (g == k) = true := beq_iff_eq.mpr h
        simp only [List.lookup, hb, if_pos (h.trans hk)]
      · have hb : (g == k) = false := beq_eq_false_iff_ne.mpr h
        simp only [List.lookup, hb, if_neg (fun e : g = f => h (e.trans hk.symm))]
    · rw [if_neg hk]
      by_cases h : g = k
      · have hb : (g == k) = true := beq_iff_eq.mpr h
        simp only [List.lookup, hb, if_neg (fun e : g = f => hk (h.symm.trans e))]
      · have hb : (g == k) = false := beq_eq_false_iff_ne.mpr h
        simp only [List.lookup, hb]
        exact ih
theorem keys_putF (f : Str) (v : V) : ∀ fs : List (Str × V), f ∈ (putF f v fs).map (·.1) ∧ ∀ g, g ∈ fs.map (·.1) → g ∈ (putF f v fs).map (·.1)
  | [] => ⟨by simp [putF], fun g h => by simp at h⟩
  | (k, x) :: r => by
    obtain ⟨i1, i2⟩ := keys_putF f v r
    rw [show putF f v ((k, x) :: r) = (if k = f then (k, v) :: r else (k, x) :: putF f v r) from rfl]
    by_cases hk : k = f
    · rw [if_pos hk]
      subst hk
      exact ⟨by simp, fun g h => by simpa using h⟩
    · rw [if_neg hk]
      refine ⟨?_, fun g h => ?_⟩
      · rw [List.map_cons]
        exact List.mem_cons_of_mem _ i1
      · rw [List.map_cons] at h ⊢
        rcases List.mem_cons.mp h with e | e
        · exact List.mem_cons.mpr (.inl e)
        · exact List.mem_cons_of_mem _ (i2 g e)
theorem length_putF (f : Str) (v : V) : ∀ fs : List (Str × V), (putF f v fs).length ≤ fs.length + 1
  | [] => by simp [putF]
  | (k, x) :: r => by
    have ih := length_putF f v r
    rw [show putF f v ((k, x) :: r) = (if k = f then (k, v) :: r else (k, x) :: putF f v r) from rfl]
    by_cases hk : k = f
    · rw [if_pos hk, List.length_cons, List.length_cons]; omega
    · rw [if_neg hk, List.length_cons, List.length_cons]; omega

theorem RelO.some_of {v : V} {o : Option Value} (r : RelO (some v) o) : ∃ u, o = some u ∧ RelV v u := by
  cases o with
  | none => exact (show False from r).elim
  | some u => exact ⟨u, rfl, r⟩
theorem RelO.none_of {o : Option Value} (r : RelO none o) : o = none := by
  cases o with
  | none => rfl
  | some u => exact (show False from r).elim
theorem handed_of {v : V} {u : Value} (r : RelV v u) : PySem.W.handedIn u = true := by
  cases v with
  | non => cases (show u = Value.none from r); rfl
  | bl b => cases (show u = Value.bool b from r); rfl
  | int i => obtain ⟨t, e⟩ := (show ∃ t, u = Value.int i t from r); cases e; rfl
  | str x => obtain ⟨t, e⟩ := (show ∃ t, u = Value.str x t from r); cases e; rfl
  | byt b => obtain ⟨t, e⟩ := (show ∃ t, u = Value.bytes b t from r); cases e; rfl
  | flt b => obtain ⟨t, e⟩ := (show ∃ t, u = Value.float b t from r); cases e; rfl
  | ref a => cases (show u = Value.ref a from r); rfl
  | ty n => cases (show u = Value.type n from r); rfl

section
variable {P : Program} {w : World} {H H' : Hp} {h h' : Heap} {a C dx : Addr} {fs fs' : List (Str × V)}
theorem ins_get (hok : HOk P w H h) (e : H a = some (.ins C dx fs)) : ∃ mA, ObjM h a dx C mA ∧ (∀ f, RelO (fs.lookup f) (mA f)) ∧ PySem.Within mA (fs.map (·.1)) ∧ fs.length ≤ 1000 ∧ H dx = some (.own a) := by
  obtain ⟨d, z, ne, ob, mA, n, r, q⟩ := (show ObjOk P w H h a (.ins C dx fs) from hok a _ e)
  exact ⟨mA, ⟨ob, n, ne⟩, r, q, z, d⟩
end

/-! ### what of the text a class must have -/
structure Cls (K : PySem.W.Frag) (C : Addr) : Prop where
  pg : PySem.W.plainGet K C Str.empty = true
  hd : PySem.W.hasDictIn K C = true
  po : PySem.W.plainOver K C = true
  sa : PySem.W.findIn K (.ref C) "__setattr__" = some (some (.builtin "object.__setattr__"))
theorem Cls.get {K : PySem.W.Frag} {C : Addr} (c : Cls K C) (f : Str) : PySem.W.plainGet K C f = true := c.pg
/-- no class of it has the name -/
def NoAttr (K : PySem.W.Frag) (C : Addr) (f : Str) : Prop := PySem.W.findIn K (.ref C) f = some none
theorem NoAttr.taker {K : PySem.W.Frag} {C : Addr} {f : Str} (n : NoAttr K C f) : PySem.W.takerIn K C f = some none := by
  unfold PySem.W.takerIn
  rw [show PySem.W.findIn K (.ref C) f = some none from n]
  rfl
/-- a constant of the class -/
structure Con (K : PySem.W.Frag) (C : Addr) (f : Str) (v : V) (u : Value) : Prop where
  at_ : PySem.W.findIn K (.ref C) f = some (some u)
  rel : RelV v u
  get : PySem.W.specialIn K u "__get__" = some none
  cp : PySem.W.copiedNames.contains f = false
/-- a method: a plain def of the class or of one above it -/
structure Meth (K : PySem.W.Frag) (C : Addr) (m : Str) (f : Addr) : Prop where
  at_ : PySem.W.findIn K (.ref C) m = some (some (.ref f))
  fn : PySem.W.isFn K (.ref f) = true
  kp : PySem.W.keepIn K (.ref f) = true

section
variable {X : Cx} {pins : List (Addr × Obj)} {σ : St} {H : Hp} {s : Shared} {a C dx : Addr} {fs : List (Str × V)} {f : Str} {v : V} {A : Around} {E : Value → Shared → Prop}

theorem getmeth_ok {m : Str} {g : Addr} {pl : Sem Bool} {Q : Value × List Value → Shared → Prop} (I : Inv X pins σ H s) (e : H a = some (.ins C dx fs)) (c : Cls X.K C) (k : Meth X.K C m g) (l : fs.lookup m = none)
    (h : Q (.ref g, [.ref a]) s) : wpAny (model X.prog X.w) A (getMethod (.ref a) m pl) Q E s := by
  obtain ⟨mA, O, r, _, _, _⟩ := ins_get I.hok e
  have hn : mA m = none := RelO.none_of (by rw [← l]; exact r m)
  exact get_meth I.kIn O (c.get m) k.at_ k.fn hn h

theorem setattr_ok {y : V} {u : Value} {Q : Unit → Shared → Prop} (I : Inv X pins σ H s) (e : H a = some (.ins C dx fs)) (c : Cls X.K C) (n : NoAttr X.K C f) (hl : fs.length < 1000) (ry : RelV y u)
    (h : ∀ s', Inv X pins σ (upd H a (.ins C dx (putF f y fs))) s' → Q () s') : wpAny (model X.prog X.w) A (setAttr (.ref a) f u) Q E s := by
  obtain ⟨mA, O, r, wi, _, ho⟩ := ins_get I.hok e
  have hz : (fs.map (·.1)).length ≤ sizeLine := by rw [List.length_map, sizeLine_eq]; omega
  refine set_map I.kIn O c.sa c.po n.taker c.hd wi hz fun h' O' sb => h _ ?_
  have hd : ∃ o, h'.get? dx = some o := let ⟨o, _, _, e', _⟩ := O'.ns; ⟨o, e'⟩
  refine I.write (x := a) (e := dx) (by rw [e]; exact True.intro) (.inr ho) (fun b q hb z => (sb.2 b hb).trans z) hd ?_
  refine ⟨by rw [upd_ne O.ne]; exact ho, ?_, O.ne, O'.obj, _, O'.ns, fun g => ?_, fun g hg => ?_⟩
  · have := length_putF f y fs; omega
  · show RelO ((putF f y fs).lookup g) (if g = f then some u else mA g)
    rw [lookup_putF]
    by_cases q : g = f
    · rw [if_pos q, if_pos q]; exact ry
    · rw [if_neg q, if_neg q]; exact r g
  · by_cases q : g = f
    · rw [q]; exact (keys_putF f y fs).1
    · refine (keys_putF f y fs).2 g (wi g fun z => hg ?_)
      show (if g = f then some u else mA g) = none
      rw [if_neg q]; exact z

/-- a new instance, tracked, without attributes -/
theorem Inv.made (I : Inv X pins σ H s) : Inv X pins σ (upd (upd H s.heap.objs.size (.own (s.heap.objs.size + 1))) (s.heap.objs.size + 1) (.ins C s.heap.objs.size []))
    { s with heap := (s.heap.push PySem.W.emptyDict).push (PySem.W.instObj C s.heap.objs.size) } := by
  have e1 : (s.heap.push PySem.W.emptyDict).get? s.heap.objs.size = some PySem.W.emptyDict := Heap.get?_push_size s.heap rfl
  have e2 : ((s.heap.push PySem.W.emptyDict).push (PySem.W.instObj C s.heap.objs.size)).get? (s.heap.objs.size + 1) = some (PySem.W.instObj C s.heap.objs.size) := by
    have := Heap.get?_push_size (s.heap.push PySem.W.emptyDict) (o := PySem.W.instObj C s.heap.objs.size) rfl
    rwa [Heap.size_push] at this
  have e3 : (s.heap.push PySem.W.emptyDict).Ns s.heap.objs.size (fun _ => none) := ⟨PySem.W.emptyDict, #[], _, e1, rfl, (fun e he => absurd he (by simp)), fun _ => rfl⟩
  have I1 := I.laid (a := s.heap.objs.size) (o := .own (s.heap.objs.size + 1)) (h' := s.heap.push PySem.W.emptyDict) (t' := s.toks) (fun b u q => Heap.get?_push_of_some _ q) (Nat.le_refl _) ⟨_, e1⟩
  refine I1.laid (a := s.heap.objs.size + 1) (o := .ins C s.heap.objs.size []) (t' := s.toks) (fun b u q => Heap.get?_push_of_some _ q) (Nat.le_of_eq (Heap.size_push _ _)) ?_
  have ne : s.heap.objs.size ≠ s.heap.objs.size + 1 := Nat.ne_of_lt (Nat.lt_succ_self _)
  refine ⟨by rw [upd_ne ne, upd_same], Nat.zero_le _, ne, e2, fun _ => none, (Heap.Ns1.of_empty e3).at fun o q => Heap.get?_push_of_some _ q, fun _ => True.intro, fun y hy => absurd rfl hy⟩

/-- e.f where nothing but the object is asked: through attributeBase (super) and the last hold -/
theorem attr_of {prog : Program} {w : World} {env : Env} {e : Expr} {f : Str} {pos : Pos} {s : Shared} {Q : Value → Shared → Prop} (hb : attributeBase e f env (eval e env) = eval e env)
    (h : wpAny (model prog w) A (eval e env) (fun o s₁ => wpAny (model prog w) A (getAttr o f true) Q E s₁) E s) : wpAny (model prog w) A (eval (.Attribute e f pos) env) Q E s :=
  Attribute_any_ h (by rw [arm_eval_Attribute, hb])
end

/-! ### readings and rules -/
/-- e.f = value -/
def sFld (K : PySem.W.Frag) (ta tv : TE) (f : Str) : TS := fun D σ H => tv σ H fun y H1 => ta σ H1 fun x H2 => ∃ a C dx fs, x = .ref a ∧ H2 a = some (.ins C dx fs) ∧ Cls K C ∧ NoAttr K C f ∧ fs.length < 1000 ∧
  D.nx σ (upd H2 a (.ins C dx (putF f y fs)))
section
variable {X : Cx} {o e value : Expr} {f : Str} {pos pos' tpos : Pos} {ta tv : TE}
theorem ps_fld (ha : PE X o ta) (hv : PE X value tv) (hs : swapsWith value (some (.Attribute o f pos')) pos.line X.env = pure false) : PS X (.Assign [.Attribute o f pos'] value pos) (sFld X.K ta tv f) := by
  intro pins s σ H D I h
  refine plainObj_wpAny_Assign_Attribute (thn (hv pins s σ H _ I h) fun u s1 ⟨y, H1, I1, ry, q⟩ => thn (ha pins s1 σ H1 _ I1 q) fun ov s2 ⟨x, H2, I2, rx, a, C, dx, fs, ex, ea, c, n, l, q2⟩ => ?_) hs
  subst ex
  obtain rfl : ov = Value.ref a := rx
  exact setattr_ok I2 ea c n l ry fun s3 I3 => ⟨σ, _, I3, q2⟩
end

/-! ### isinstance -/
section
variable {X : Cx} {pins : List (Addr × Obj)} {σ : St} {H : Hp} {s : Shared} {A : Around} {E : Value → Shared → Prop} {Q : Value → Shared → Prop} {c : Value} {b : Bool}
/-- the type of a value, as the fragment's deciders take it; for an instance its class -/
inductive TyOf (K : PySem.W.Frag) (H : Hp) : V → Value → Prop where
  | non : TyOf K H .non (.type "NoneType")
  | bl (x : Bool) : TyOf K H (.bl x) (.type "bool")
  | int (i : Int) : TyOf K H (.int i) (.type "int")
  | str (x : Str) : TyOf K H (.str x) (.type "str")
  | flt (x : UInt64) : TyOf K H (.flt x) (.type "float")
  | lst {a : Addr} {xs : List V} (e : H a = some (.lst xs)) : TyOf K H (.ref a) (.type "list")
  | frz {a : Addr} {o : Obj} {xs : List V} (e : H a = some (.frz o (.lst xs))) : TyOf K H (.ref a) (.type "list")
  | tup {a : Addr} {xs : List V} (e : H a = some (.tup xs)) : TyOf K H (.ref a) (.type "tuple")
  | dK {a : Addr} {kvs : List (Key × V)} (e : H a = some (.dK kvs)) : TyOf K H (.ref a) (.type "dict")
  | dT {a : Addr} {kvs : List (List Key × V)} (e : H a = some (.dT kvs)) : TyOf K H (.ref a) (.type "dict")
  | ins {a C dx : Addr} {fs : List (Str × V)} (e : H a = some (.ins C dx fs)) (cl : Cls K C) (ha : PySem.W.findIn K (.ref C) "__class__" = some (some (.builtin "object.__class__")))
      (hn : PySem.W.specialIn K (.builtin "object.__class__") "__get__" = some (some (.builtin "getset_descriptor.__get__"))) (htk : PySem.W.takesIn K (.builtin "object.__class__") = some true)
      (hm : PySem.W.mroIn K C (.type "object") = some true) : TyOf K H (.ref a) (.ref C)
end
end L2

namespace L2
open PySem PySem.Spec PyProof.Rows

/-! ### room -/
structure Room (k : Nat) (A : Around) : Prop where
  dp : A.depth + 3 * k + 5 < recursionLimit
  un : A.units + 16 * k + 200 < cLine
theorem Room.mono {j k : Nat} {A : Around} (r : Room k A) (h : j ≤ k) : Room j A := ⟨by have := r.dp; omega, by have := r.un; omega⟩
theorem Room.deeper {k : Nat} {A : Around} (r : Room (k + 1) A) (env : Env) : Room k (A.deeper env) :=
  ⟨by have := r.dp; show A.depth + 1 + 3 * k + 5 < _; omega, by have := r.un; show A.units + 3 + 16 * k + 200 < _; omega⟩
theorem Room.in1 {k : Nat} {A : Around} (r : Room (k + 1) A) : Room k A.in1 :=
  ⟨by have := r.dp; show A.depth + 3 * k + 5 < _; omega, by have := r.un; show A.units + 1 + 16 * k + 200 < _; omega⟩
theorem make_depth {A : Around} {C : Addr} {us : List Value} {kw : List (Str × Value)} : (A.under (.builtin "type.__call__" ⟨.ref C :: us, kw⟩)).depth = A.depth + 1 := by
  first | rfl | simp [Around.under, Code.weight, Code.isCreation, Code.isGuard, Code.isCaller, Code.frames, Code.isFrame, guardIds]
theorem make_units {A : Around} {C : Addr} {us : List Value} {kw : List (Str × Value)} : (A.under (.builtin "type.__call__" ⟨.ref C :: us, kw⟩)).units = A.units + 1 := by
  first | rfl | simp [Around.under, Code.cUnits, Code.frames, Code.isFrame]
theorem Room.make {k : Nat} {A : Around} (r : Room (k + 1) A) (C : Addr) (us : List Value) (kw : List (Str × Value)) : Room k (A.under (.builtin "type.__call__" ⟨.ref C :: us, kw⟩)) :=
  ⟨by have := r.dp; rw [make_depth]; omega, by have := r.un; rw [make_units]; omega⟩
theorem Room.depth {k : Nat} {A : Around} (r : Room k A) : A.depth < recursionLimit := by have := r.dp; omega
theorem Room.units {k : Nat} {A : Around} (r : Room k A) : A.units + 64 < cLine := by have := r.un; omega
theorem Room.units0 {k : Nat} {A : Around} (r : Room k A) : A.units < cLine := by have := r.un; omega

/-! ### argument lists and displays -/
def tNil : TA := fun _ H Q => Q [] H
def tCons (ta : TE) (tr : TA) : TA := fun σ H Q => ta σ H fun x H1 => tr σ H1 fun xs H2 => Q (x :: xs) H2
section
variable {X : Cx} {e : Expr} {es : List Expr} {te : TE} {t : TA} {pos : Pos}
theorem pa_nil : PA X [] tNil := fun _ _ _ _ H Q I h => Calls.spliced_nil ⟨[], H, I, .nil, h⟩
theorem pa_cons (ha : PE X e te) (hr : PA X es t) (hs : starEach (e :: es) X.env = (false, eval e X.env) :: starEach es X.env := by rfl) : PA X (e :: es) (tCons te t) := by
  intro pos pins s σ H Q I h
  rw [hs]
  show wpAny _ _ (spliced ((false, eval e X.env) :: backTo pos (starEach es X.env))) _ _ s
  refine Calls.spliced_cons (thn (ha pins s σ H _ I h) fun u s1 ⟨x, H1, I1, r1, q1⟩ => ?_)
  exact thn (hr pos pins s1 σ H1 _ I1 q1) fun us s2 ⟨xs, H2, I2, r2, q2⟩ => ⟨x :: xs, H2, I2, .cons r1 r2, q2⟩

/-- a tuple, a list of written items -/
def tTup (t : TA) : TE := fun σ H Q => t σ H fun xs H1 => xs.length ≤ sizeLine ∧ ∀ p, H1 p = none → Q (.ref p) (upd H1 p (.tup xs))
def tLst (t : TA) : TE := fun σ H Q => t σ H fun xs H1 => xs.length ≤ sizeLine ∧ ∀ p, H1 p = none → Q (.ref p) (upd H1 p (.lst xs))
theorem pe_tup {x1} (h : PA X es t) : PE X (.Tuple es x1 pos) (tTup t) := by
  intro pins s σ H Q I hq
  refine wpAny_Tuple_spliced (thn (h pos pins s σ H _ I hq) fun us s1 ⟨xs, H1, I1, r, z, q⟩ => ⟨by rw [← r.length]; exact z, ?_⟩)
  have hf : H1 s1.heap.objs.size = none := I1.hok.fresh (Nat.le_refl _)
  refine ⟨.ref s1.heap.objs.size, upd H1 s1.heap.objs.size (.tup xs), I1.laid (t' := s1.toks) (fun b u e => Heap.get?_push_of_some _ e) (Nat.le_refl _) ?_, rfl, q _ hf⟩
  exact ⟨z, us, r, ⟨_, Heap.get?_push_size _ rfl, rfl, _, rfl⟩⟩
theorem pe_lst (h : PA X es t) : PE X (.List es pos) (tLst t) := by
  intro pins s σ H Q I hq
  refine wpAny_List_spliced (thn (h pos pins s σ H _ I hq) fun us s1 ⟨xs, H1, I1, r, z, q⟩ => ⟨by rw [← r.length]; exact z, ?_⟩)
  have hf : H1 s1.heap.objs.size = none := I1.hok.fresh (Nat.le_refl _)
  refine ⟨.ref s1.heap.objs.size, upd H1 s1.heap.objs.size (.lst xs), I1.laid (t' := s1.toks) (fun b u e => Heap.get?_push_of_some _ e) (Nat.le_refl _) ?_, rfl, q _ hf⟩
  exact ⟨z, us, 0, r, Heap.get?_push_size _ rfl⟩
end

/-! ### what a def promises -/
/-- a def's promise: the bound arguments in the parameters' order, the heap, the wanted end, the wanted exception -/
abbrev Sp := List V → Hp → VK → XK → Prop
/-- how an exception lies behind a call (file 08 gives it): the callers' frames, abstract heap and state ahead of the call, the wish, the exception, the state -/
structure CXT where
  ct : List Env → Hp → Shared → XK → Value → Shared → Prop
  q : Bool
instance : CoeFun CXT fun _ => List Env → Hp → Shared → XK → Value → Shared → Prop := ⟨CXT.ct⟩

/-- the state at a call -/
structure Env0 (P : Program) (w : World) (K : PySem.W.Frag) (mg : Str → Option Value) (base : Heap) (A : Around) (outer : List Env) (s : Shared) (H : Hp) : Prop where
  frames : A.frames = some outer
  mod : Mod K mg base
  bs : ∀ b o, base.get? b = some o → s.heap.get? b = some o ∧ H b = none
  bsz : base.objs.size ≤ s.heap.objs.size
  funs : s.heap.FunFrames base outer
  frf : ∀ b ∈ frs outer, H b = none
  hok : HOk P w H s.heap
  bare : AllBare s.gens
/-- a call's end -/
def CE (outer : List Env) (P : Program) (w : World) (H : Hp) (s : Shared) (Q : VK) (u : Value) (s' : Shared) : Prop :=
  ∃ v H', s'.os = s.os ∧ AllBare s'.gens ∧ Un (frs outer) [] H H' s.heap s'.heap ∧ HOk P w H' s'.heap ∧ RelV v u ∧ Q v H'
def CR (CX : CXT) (outer : List Env) (P : Program) (w : World) (H : Hp) (s : Shared) (Q : VK) (E : XK) (r : Result) (s' : Shared) : Prop :=
  match r with
  | .ok (.ret u) => CE outer P w H s Q u s'
  | .ok _ => False
  | .error e => CX outer H s E e s'
structure FnOk (P : Program) (w : World) (K : PySem.W.Frag) (mg : Str → Option Value) (base : Heap) (CX : CXT) (k : Nat) (f : Addr) (fd : FuncData) (ps : List Str) (sp : Sp) : Prop where
  len : ∀ vs H Q E, sp vs H Q E → vs.length = ps.length
  run : ∀ (A : Around) (outer : List Env) (s : Shared) (H : Hp) (args : Args) (us : List Value) (vs : List V) (Q : VK) (E : XK), Room k A → (CX.q = true → A.handled = none) → Env0 P w K mg base A outer s H → BindsTo s fd args (ps.zip us) → Vals vs us → sp vs H Q E →
    codeAny (model P w) A (.call (.ref f) args) (CR CX outer P w H s Q E) s
theorem FnOk.mono {P : Program} {w : World} {K : PySem.W.Frag} {mg : Str → Option Value} {base : Heap} {CX : CXT} {j k : Nat} {f : Addr} {fd : FuncData} {ps : List Str} {sp : Sp} (F : FnOk P w K mg base CX j f fd ps sp) (h : j ≤ k) :
    FnOk P w K mg base CX k f fd ps sp := ⟨F.len, fun A outer s H args us vs Q E hr => F.run A outer s H args us vs Q E (hr.mono h)⟩
/-- a weaker promise -/
theorem FnOk.imp {P : Program} {w : World} {K : PySem.W.Frag} {mg : Str → Option Value} {base : Heap} {CX : CXT} {k : Nat} {f : Addr} {fd : FuncData} {ps : List Str} {sp sp' : Sp} (F : FnOk P w K mg base CX k f fd ps sp)
    (h : ∀ vs H Q E, sp' vs H Q E → sp vs H Q E) : FnOk P w K mg base CX k f fd ps sp' :=
  ⟨fun vs H Q E q => F.len vs H Q E (h _ _ _ _ q), fun A outer s H args us vs Q E hr hq he hb hv hs => F.run A outer s H args us vs Q E hr hq he hb hv (h _ _ _ _ hs)⟩

theorem Env0.make {P : Program} {w : World} {K : PySem.W.Frag} {mg : Str → Option Value} {base : Heap} {A : Around} {outer : List Env} {s : Shared} {H : Hp} (e : Env0 P w K mg base A outer s H) (C : Addr) (us : List Value) (kw : List (Str × Value)) :
    Env0 P w K mg base (A.under (.builtin "type.__call__" ⟨.ref C :: us, kw⟩)) outer s H := ⟨by first | exact e.frames | (simpa [Around.under, Code.envs, Code.isFrame, pushEnvs] using e.frames), e.mod, e.bs, e.bsz, e.funs, e.frf, e.hok, e.bare⟩
theorem Env0.in1 {P : Program} {w : World} {K : PySem.W.Frag} {mg : Str → Option Value} {base : Heap} {A : Around} {outer : List Env} {s : Shared} {H : Hp} (e : Env0 P w K mg base A outer s H) :
    Env0 P w K mg base A.in1 outer s H := ⟨e.frames, e.mod, e.bs, e.bsz, e.funs, e.frf, e.hok, e.bare⟩

section
variable {X : Cx} {pins : List (Addr × Obj)} {σ : St} {H : Hp} {s s' : Shared}
/-- from a body: what a callee wants -/
theorem Inv.env0 (I : Inv X pins σ H s) : Env0 X.prog X.w X.K X.mg X.base X.A X.stack s H :=
  ⟨I.ok.frames, I.ok.mod, I.bs, Nat.le_trans I.ok.bsz I.sz, I.stack, I.stkFree, I.hok, I.bare⟩
/-- behind a call -/
theorem Inv.after {Q : VK} {u : Value} (I : Inv X pins σ H s) (h : CE X.stack X.prog X.w H s Q u s') : EP X pins σ Q u s' := by
  obtain ⟨v, H', os, bare, un, hok, r, q⟩ := h
  obtain ⟨hh, g, d, t, os'⟩ := s'
  obtain rfl : os' = s.os := os
  exact ⟨v, H', I.call (h' := hh) (g' := g) (d' := d) (t' := t) (ch := []) un hok bare (fun b z => absurd z (by simp)), r, q⟩
end

/-! ### calls -/
/-- f(..): the written arguments, then the defaults dvs; E: what is wanted of an exception -/
def tCall (sp : Sp) (dvs : List V) (E : XK) (t : TA) : TE := fun σ H Q => t σ H fun vs H1 => sp (vs ++ dvs) H1 Q E
/-- C(..): a new instance and its dict, then __init__ -/
def tMake (C : Addr) (sp : Sp) (dvs : List V) (E : XK) (t : TA) : TE := fun σ H Q => t σ H fun vs H1 => ∀ x dx, H1 x = none → H1 dx = none → dx ≠ x →
  sp (.ref x :: (vs ++ dvs)) (upd (upd H1 dx (.own x)) x (.ins C dx [])) (fun v H2 => v = .non ∧ Q (.ref x) H2) E

/-- how the parameters are bound: us the positional arguments, kw the keywords' values by name, ds the defaults that fill up -/
def Binds (K : PySem.W.Frag) (fd : FuncData) (ps : List Str) (ds : List Value) : Prop :=
  ∀ (s : Shared) (us : List Value), K.In s.heap → (us ++ ds).length = ps.length → BindsTo s fd ⟨us, []⟩ (ps.zip (us ++ ds))
/-- every parameter is given -/
theorem Binds.all {K : PySem.W.Frag} {fd : FuncData} {ps : List Str} (h : ∀ us : List Value, us.length = ps.length → bindArgs fd ⟨us, []⟩ = pure (ps.zip us)) : Binds K fd ps [] := fun s us _ hl => by
  rw [List.append_nil] at hl ⊢
  exact .of_eq (h us hl)

/-- an exception of a callee reaches what this body wants of exceptions -/
def Passes (CX : CXT) (X : Cx) (E : XK) : Prop := (CX.q = true → X.calm = true) ∧ ∀ (pins : List (Addr × Obj)) (σ : St) (H : Hp) (s : Shared) (e : Value) (s' : Shared), Inv X pins σ H s → CX X.stack H s E e s' → X.xe e s'

section
variable {X : Cx} {CX : CXT} {k : Nat} {f C : Addr} {fd : FuncData} {ps : List Str} {sp : Sp} {dvs : List V} {ds : List Value} {E : XK} {x m : Str} {p pos apos : Pos} {e o : Expr} {es : List Expr} {ta : TE} {t : TA}

/-- the callee runs -/
theorem run_fn {pins : List (Addr × Obj)} {σ : St} {H : Hp} {s : Shared} {Q : VK} {us : List Value} {vs : List V} (F : FnOk X.prog X.w X.K X.mg X.base CX k f fd ps sp) (hr : Room k X.A) (hb : Binds X.K fd ps ds) (hd : Vals dvs ds) (hx : Passes CX X E)
    (I : Inv X pins σ H s) (r : Vals vs us) (h : sp (vs ++ dvs) H Q E) : wpAny (model X.prog X.w) X.A (call (.ref f) us) (EP X pins σ Q) X.xe s := by
  have r2 : Vals (vs ++ dvs) (us ++ ds) := r.append hd
  have hl : (us ++ ds).length = ps.length := by rw [← r2.length]; exact F.len _ _ _ _ h
  refine wpAny_call (codeAny_mono (F.run X.A X.stack s H ⟨us, []⟩ (us ++ ds) (vs ++ dvs) Q E hr (fun z => I.ok.hd (hx.1 z)) I.env0 (hb s us I.kIn hl) r2 h) fun r s' hq => ?_)
  cases r with
  | error e => exact hx.2 pins σ H s e s' I hq
  | ok fl =>
    cases fl with
    | ret u => exact I.after hq
    | next => exact False.elim hq
    | brk => exact False.elim hq
    | cont => exact False.elim hq

theorem pe_call (F : FnOk X.prog X.w X.K X.mg X.base CX k f fd ps sp) (hr : Room k X.A) (hg : Gl X x) (hm : X.mg x = some (.ref f)) (hk : PySem.W.keepIn X.K (.ref f) = true) (hb : Binds X.K fd ps ds) (hd : Vals dvs ds) (hx : Passes CX X E)
    (ha : PA X (e :: es) t) (hdb : (x == ("__debug__" : Str)) = false := by decide) (he : starEach (e :: es) X.env = (false, eval e X.env) :: starEach es X.env := by rfl) (hpl : (backTo pos (starEach es X.env)).any (·.1) = false := by rfl) :
    PE X (.Call (.Name x p) (e :: es) [] pos) (tCall sp dvs E t) := by
  intro pins s σ H Q I h
  refine wpAny_Call_Name_kw (ld_glob I hg hm ?_ hdb)
  refine PySem.W.callWith_K (h₀ := X.base) I.ok.mod.kin hk (thn (ha pos pins s σ H _ I h) fun us s1 ⟨vs, H1, I1, r, q⟩ => ⟨I1.kIn, ?_⟩) he hpl
  exact run_fn F hr hb hd hx I1 r q
/-- what a class must have to be made -/
structure Mk (K : PySem.W.Frag) (C f : Addr) : Prop where
  makes : PySem.W.makesIn K C = true
  init : PySem.W.findIn K (.ref C) "__init__" = some (some (.ref f))
  fn : PySem.W.isFn K (.ref f) = true
  kp : PySem.W.keepIn K (.ref C) = true

theorem run_make {pins : List (Addr × Obj)} {σ : St} {H : Hp} {s : Shared} {Q : VK} {us : List Value} {vs : List V} (M : Mk X.K C f) (F : FnOk X.prog X.w X.K X.mg X.base CX k f fd ps sp) (hr : Room (k + 1) X.A) (hb : Binds X.K fd ps ds) (hd : Vals dvs ds)
    (hx : Passes CX X E) (I : Inv X pins σ H s) (r : Vals vs us)
    (h : ∀ x dx, H x = none → H dx = none → dx ≠ x → sp (.ref x :: (vs ++ dvs)) (upd (upd H dx (.own x)) x (.ins C dx [])) (fun v H2 => v = .non ∧ Q (.ref x) H2) E) :
    wpAny (model X.prog X.w) X.A (call (.ref C) us) (EP X pins σ Q) X.xe s := by
  have hq := h (s.heap.objs.size + 1) s.heap.objs.size (I.hok.fresh (Nat.le_succ _)) (I.hok.fresh (Nat.le_refl _)) (Nat.ne_of_lt (Nat.lt_succ_self _))
  have I2 := Inv.made (C := C) I
  have r2 : Vals (V.ref (s.heap.objs.size + 1) :: (vs ++ dvs)) (Value.ref (s.heap.objs.size + 1) :: (us ++ ds)) := .cons rfl (r.append hd)
  have hl : (Value.ref (s.heap.objs.size + 1) :: us ++ ds).length = ps.length := by
    have e := r2.length
    rw [F.len _ _ _ _ hq] at e
    exact e.symm
  refine wpAny_call (make_map (f := f) I.kIn M.makes M.init (beq_iff_eq.mp M.fn) (codeAny_mono (F.run _ X.stack _ _ ⟨Value.ref (s.heap.objs.size + 1) :: us, []⟩ (Value.ref (s.heap.objs.size + 1) :: (us ++ ds)) _ _ E (hr.make C us []) (fun z => I.ok.hd (hx.1 z))
    (I2.env0.make C us []) (hb _ (Value.ref (s.heap.objs.size + 1) :: us) I2.kIn hl) r2 hq) fun r s' hq' => ?_))
  cases r with
  | error e => exact hx.2 pins σ _ _ e s' I2 hq'
  | ok fl =>
    cases fl with
    | ret u =>
      obtain ⟨v, H', I3, rv, ev, q3⟩ := I2.after hq'
      subst ev
      exact ⟨rv, ⟨V.ref (s.heap.objs.size + 1), H', I3, rfl, q3⟩⟩
    | next => exact False.elim hq'
    | brk => exact False.elim hq'
    | cont => exact False.elim hq'
theorem pe_make (M : Mk X.K C f) (F : FnOk X.prog X.w X.K X.mg X.base CX k f fd ps sp) (hr : Room (k + 1) X.A) (hg : Gl X x) (hm : X.mg x = some (.ref C)) (hb : Binds X.K fd ps ds) (hd : Vals dvs ds) (hx : Passes CX X E)
    (ha : PA X (e :: es) t) (hdb : (x == ("__debug__" : Str)) = false := by decide) (he : starEach (e :: es) X.env = (false, eval e X.env) :: starEach es X.env := by rfl) (hpl : (backTo pos (starEach es X.env)).any (·.1) = false := by rfl) :
    PE X (.Call (.Name x p) (e :: es) [] pos) (tMake C sp dvs E t) := by
  intro pins s σ H Q I h
  refine wpAny_Call_Name_kw (ld_glob I hg hm ?_ hdb)
  refine PySem.W.callWith_K (h₀ := X.base) I.ok.mod.kin M.kp (thn (ha pos pins s σ H _ I h) fun us s1 ⟨vs, H1, I1, r, q⟩ => ⟨I1.kIn, ?_⟩) he hpl
  exact run_make M F hr hb hd hx I1 r q
end

/-! ### keywords -/
section
variable {X : Cx} {CX : CXT} {k : Nat} {f C : Addr} {fd : FuncData} {ps ks : List Str} {sp : Sp} {E : XK} {x m : Str} {p pos apos kpos : Pos} {e o : Expr} {es : List Expr} {kws : List Keyword} {te ta : TE} {t tk : TA} {nm : Option Str}
/-- how a call with keywords binds: g puts the positional values us and the keywords' values ws (names ks) in the parameters' order, defaults among them -/
structure KBinds (K : PySem.W.Frag) (fd : FuncData) (ps ks : List Str) (g : List Value → List Value → List Value) (gV : List V → List V → List V) : Prop where
  to : ∀ (s : Shared) (us ws : List Value), K.In s.heap → (g us ws).length = ps.length → BindsTo s fd ⟨us, ks.zip ws⟩ (ps.zip (g us ws))
  rel : ∀ {vs : List V} {us : List Value} {zs : List V} {ws : List Value}, Vals vs us → Vals zs ws → Vals (gV vs zs) (g us ws)
variable {g : List Value → List Value → List Value} {gV : List V → List V → List V}
end

/-! ### a def's body keeps its promise -/
/-- names: the parameters first -/
structure FnScope (N P : List Str) (sc : Scope) : Prop where
  kind : sc.kind = .function
  co : sc.isCoroutine = false
  gen : sc.isGenerator = false
  nd : N.Nodup
  pre : N.take P.length = P
  par : ∀ x ∈ P, sc.names.lookup x = some .local ∨ sc.names.lookup x = some .cell
  nofree : ∀ y ∈ sc.names, y.2 ≠ .free

theorem bindL_out {kindOf : Str → Option NameKind} {x : Str} : ∀ {binds : List (Str × Value)} {m : Str → Option Value}, (∀ v, (x, v) ∉ binds) → bindL kindOf binds m x = m x
  | [], _, _ => rfl
  | (n, v) :: r, m, h => by
    unfold bindL
    rw [bindL_out fun w hw => h w (List.mem_cons_of_mem _ hw)]
    split
    · have : x ≠ n := by rintro rfl; exact h v List.mem_cons_self
      simp [this]
    · rfl
theorem bindC_out {kindOf : Str → Option NameKind} {x : Str} : ∀ {binds : List (Str × Value)} {m : Str → Option Value}, (∀ v, (x, v) ∉ binds) → bindC kindOf binds m x = m x
  | [], _, _ => rfl
  | (n, v) :: r, m, h => by
    unfold bindC
    rw [bindC_out fun w hw => h w (List.mem_cons_of_mem _ hw)]
    split
    · rfl
    · have : x ≠ n := by rintro rfl; exact h v List.mem_cons_self
      simp [this]
theorem bindL_get {kindOf : Str → Option NameKind} {x : Str} {v : Value} : ∀ {P : List Str} {vs : List Value} {i : Nat} {m : Str → Option Value}, P.Nodup → P[i]? = some x → vs[i]? = some v → kindOf x = some .local →
    bindL kindOf (P.zip vs) m x = some v
  | [], _, _, _, _, h, _, _ => by simp at h
  | _ :: _, [], _, _, _, _, h, _ => by simp at h
  | p :: P, w :: vs, 0, m, nd, h1, h2, hk => by
    simp at h1 h2; subst h1; subst h2
    show bindL kindOf ((p, w) :: P.zip vs) m p = _
    unfold bindL
    rw [bindL_out fun v hv => (List.nodup_cons.mp nd).1 (List.of_mem_zip hv).1, if_pos hk]
    simp
  | p :: P, w :: vs, i + 1, m, nd, h1, h2, hk => by
    show bindL kindOf ((p, w) :: P.zip vs) m x = _
    unfold bindL
    exact bindL_get (i := i) (List.nodup_cons.mp nd).2 (by simpa using h1) (by simpa using h2) hk
theorem bindC_get {kindOf : Str → Option NameKind} {x : Str} {v : Value} : ∀ {P : List Str} {vs : List Value} {i : Nat} {m : Str → Option Value}, P.Nodup → P[i]? = some x → vs[i]? = some v → kindOf x ≠ some .local →
    bindC kindOf (P.zip vs) m x = some v
  | [], _, _, _, _, h, _, _ => by simp at h
  | _ :: _, [], _, _, _, _, h, _ => by simp at h
  | p :: P, w :: vs, 0, m, nd, h1, h2, hk => by
    simp at h1 h2; subst h1; subst h2
    show bindC kindOf ((p, w) :: P.zip vs) m p = _
    unfold bindC
    rw [bindC_out fun v hv => (List.nodup_cons.mp nd).1 (List.of_mem_zip hv).1, if_neg hk]
    simp
  | p :: P, w :: vs, i + 1, m, nd, h1, h2, hk => by
    show bindC kindOf ((p, w) :: P.zip vs) m x = _
    unfold bindC
    exact bindC_get (i := i) (List.nodup_cons.mp nd).2 (by simpa using h1) (by simpa using h2) hk

/-- the names' values at the entry -/
def start (N : List Str) (vs : List V) : St := vs.map some ++ List.replicate (N.length - vs.length) none

/-- the context of a def's body, at its entry; an exception leaves the frame, then lies as CX says -/
def cxOf (CX : CXT) (P : Program) (w : World) (K : PySem.W.Frag) (mg : Str → Option Value) (base : Heap) (N : List Str) (qual : Str) (scope : Scope) (f : Addr) (cd : Value) (A : Around) (outer : List Env) (s : Shared) (H : Hp) (E : XK) : Cx where
  prog := P
  w := w
  K := K
  mg := mg
  base := base
  A := A.deeper (envOfC qual scope s.heap.objs.size f cd)
  N := N
  s₀ := s
  H₀ := H
  env := envOfC qual scope s.heap.objs.size f cd
  outer := outer
  stack := envOfC qual scope s.heap.objs.size f cd :: outer
  ex := []
  calm := CX.q
  fn := fun _ => true
  pn := []
  xe := fun e s' => wpAny (model P w) (A.deeper (envOfC qual scope s.heap.objs.size f cd)) (leaving (envOfC qual scope s.heap.objs.size f cd) e) (fun _ s'' => CX outer H s E e s'') (fun e' s'' => CX outer H s E e' s'') s'

theorem cell_has {sc : Scope} {n : Nat} {x : Str} (h : sc.names.lookup x = some .cell) : ∃ c, (cellsFrom n sc.names []).lookup x = some c := by
  have q := PySem.W.cellsFrom_some sc.names n [] (.inl h)
  exact Option.isSome_iff_exists.mp q

theorem inv_start {CX : CXT} {P : Program} {w : World} {K : PySem.W.Frag} {mg : Str → Option Value} {base : Heap} {N ps : List Str} {qual : Str} {scope : Scope} {f : Addr} {cd : Value} {A : Around} {outer : List Env} {s s1 : Shared} {H : Hp} {E : XK} {us : List Value} {vs : List V}
    (S : FnScope N ps scope) (hd : CX.q = true → A.handled = none) (e0 : Env0 P w K mg base A outer s H) (hl : vs.length = ps.length) (r : Vals vs us)
    (x : InCallC s s.heap.objs.size (bindL (envOfC qual scope s.heap.objs.size f cd).kindOf (ps.zip us) fun _ => none) (cellsFrom (s.heap.objs.size + 1) scope.names []) (bindC (envOfC qual scope s.heap.objs.size f cd).kindOf (ps.zip us) fun _ => none) s1) :
    Inv (cxOf CX P w K mg base N qual scope f cd A outer s H E) [] (start N vs) H s1 := by
  have hpl : ps.length ≤ N.length := by have := congrArg List.length S.pre; rw [List.length_take] at this; omega
  obtain ⟨h1, tk, rfl, hk⟩ := x.done
  have noA : ∀ b : Addr, b ∉ (cxOf CX P w K mg base N qual scope f cd A outer s H E).ex := fun b z => absurd (show b ∈ ([] : List Addr) from z) (by simp)
  refine ⟨⟨e0.mod, S.kind, rfl, rfl, Nat.le_refl _, fun y z c h1 h2 => ?_, fun y hy => ?_, fun y c _ h => ?_, hd, Around.frames_deeper e0.frames, .inr ⟨rfl, rfl⟩, fun b z => absurd z (noA b), e0.bs, e0.bsz, fun b _ _ => noA b, fun b z => absurd z (noA b), e0.funs, e0.frf⟩,
    rfl, e0.bare, Un.kept hk, ⟨_, x.toInCall.ns, fun i y v h1 h2 h3 => ?_⟩, fun y c h => ⟨_, x.cell y c h⟩, e0.hok.fresh (Nat.le_refl _), fun y c h => ?_, fun p hp => absurd (show p ∈ ([] : List (Addr × Obj)) from hp) (by simp), e0.hok.kept hk, ?_⟩
  · exact name_of_addr x.apart (PySem.mem_of_lookup h1) (PySem.mem_of_lookup h2)
  · have hy : scope.names.lookup y = some .cell ∨ scope.names.lookup y = some .free := hy
    rcases hy with hy | hy
    · exact cell_has hy
    · exact absurd rfl (S.nofree _ (PySem.mem_of_lookup hy))
  · exact Nat.le_of_lt (x.above y c (PySem.mem_of_lookup h))
  · have hi : i < vs.length := by
      unfold start at h2
      by_cases hi : i < vs.length
      · exact hi
      · rw [List.getElem?_append_right (by simpa using hi)] at h2
        rw [List.getElem?_replicate] at h2
        split at h2 <;> cases h2
    have ha : vs[i]? = some v := by
      unfold start at h2
      rw [List.getElem?_append_left (by simpa using hi), List.getElem?_map] at h2
      cases e : vs[i]? with
      | none => rw [e] at h2; cases h2
      | some a => rw [e] at h2; cases h2; rfl
    obtain ⟨u, hu, rv⟩ := r.get ha
    have hp : ps[i]? = some y := by
      rw [← S.pre, List.getElem?_take_of_lt (by omega)]; exact h1
    have ndP : ps.Nodup := by rw [← S.pre]; exact S.nd.sublist (List.take_sublist _ _)
    refine ⟨u, rv, ?_⟩
    rcases S.par y (List.mem_of_getElem? hp) with k | k
    · exact .inl ⟨k, bindL_get ndP hp hu k⟩
    · obtain ⟨c, e⟩ := cell_has (n := s.heap.objs.size + 1) k
      refine .inr ⟨.inl k, c, e, ?_⟩
      have q := x.cell y c e
      rw [bindC_get ndP hp hu (by show scope.names.lookup y ≠ _; rw [k]; decide)] at q
      exact q
  · exact e0.hok.fresh (Nat.le_of_lt (x.above y c (PySem.mem_of_lookup h)))
  · unfold start
    show _ = N.length
    rw [List.length_append, List.length_map, List.length_replicate]
    omega

/-- THE RULE: a def (or a method) of the text, by its body. The body's reading t is chosen for each entry; it is run at the parameters' values -/
theorem fn_of {CX : CXT} {P : Program} {w : World} {K : PySem.W.Frag} {mg : Str → Option Value} {base : Heap} {k : Nat} {f : Addr} {name qual : Str} {params : Arguments} {body : List Stmt} {scope : Scope} {dV kV doc pm cdv ct oc : Value} {an od : Option Addr}
    {osl : Array (Option Value)} {N ps : List Str} {sp : Sp} (lk : K.lookup f = some ⟨oc, od, .func (PySem.W.fnOf name qual params body scope dV kV doc pm an cdv ct), osl⟩) (hcd : PySem.W.codeIn K cdv qual = true) (S : FnScope N ps scope)
    (len : ∀ vs H Q E, sp vs H Q E → vs.length = ps.length)
    (hbody : ∀ (A : Around) (outer : List Env) (s : Shared) (H : Hp) (vs : List V) (Q : VK) (E : XK), Room k (A.deeper (envOfC qual scope s.heap.objs.size f cdv)) → sp vs H Q E →
      ∃ t, PSs (cxOf CX P w K mg base N qual scope f cdv A outer s H E) body t ∧ t { nx := fun _ H' => Q .non H', rt := Q } (start N vs) H) :
    FnOk P w K mg base CX (k + 1) f (PySem.W.fnOf name qual params body scope dV kV doc pm an cdv ct) ps sp := by
  refine ⟨len, fun A outer s H args us vs Q E hr hq0 e0 hb r hsp => ?_⟩
  have hl := len _ _ _ _ hsp
  have KX : K.In s.heap := e0.mod.kin.keeps fun b o e => (e0.bs b o e).1
  have lim : s.heap.NoLimit := e0.mod.nolimit.keeps fun b o e => (e0.bs b o e).1
  have hkind : ∀ y ∈ ps.zip us, scope.names.lookup y.1 = some .local ∨ (scope.names.lookup y.1 = some .cell ∧ ((cellsFrom (s.heap.objs.size + 1) scope.names []).lookup y.1).isSome = true) := fun ⟨n, v⟩ hy => by
    rcases S.par n (List.of_mem_zip hy).1 with q | q
    · exact .inl q
    · exact .inr ⟨q, PySem.W.cellsFrom_some _ _ _ (.inl q)⟩
  refine codeAny_call_function hr.depth (KX _ _ lk) rfl S.co S.gen rfl (PySem.W.codeRec_of KX hcd) (hb _ _ _ _ ?_)
  refine wpAny_newFunctionEnv_cells S.kind hkind fun env he s1 x => ?_
  subst he
  refine ⟨lim.keeps x.toInCall.keep, codeAny_func ?_⟩
  obtain ⟨t, ht, hq⟩ := hbody A outer s H vs Q E (hr.deeper _) hsp
  have I : Inv (cxOf CX P w K mg base N qual scope f cdv A outer s H E) [] (start N vs) H s1 := inv_start S hq0 e0 hl r x
  refine wpAny_mono (ht [] s1 (start N vs) H _ I hq) (fun fl s' hs => ?_) fun e s' hs => hs
  have fin : ∀ {σ' : St} {H' : Hp} {v : V} {u : Value}, Inv (cxOf CX P w K mg base N qual scope f cdv A outer s H E) [] σ' H' s' → RelV v u → Q v H' → CE outer P w H s Q u s' :=
    fun {σ' H' v u} J rv q => ⟨v, H', J.os, J.bare, J.base, J.hok, rv, q⟩
  cases fl with
  | ret u =>
    obtain ⟨v, σ', H', J, rv, q⟩ := hs
    exact fin J rv q
  | next =>
    obtain ⟨σ', H', J, q⟩ := hs
    exact fin (v := V.non) (u := Value.none) J rfl q
  | brk =>
    obtain ⟨_, _, _, q⟩ := hs
    exact False.elim q
  | cont =>
    obtain ⟨_, _, _, q⟩ := hs
    exact False.elim q
end L2

namespace L2
open PySem PySem.Spec PyProof.Rows
section
variable {X : Cx} {x : Str} {p pos : Pos} {e : Expr} {es : List Expr} {t : TA} {id T : String} {r : List V → Hp → VK → Prop}

def tCB (r : List V → Hp → VK → Prop) (t : TA) : TE := fun σ H Q => t σ H fun vs H1 => r vs H1 Q
/-- f(e, ..), f a built-in function -/
theorem pe_callB (hc : CallR X (.builtin id) r) (hg : Gl X x) (hm : X.mg x = none) (hv : bootBuiltins x = some (.builtin id)) (ha : PA X (e :: es) t) (hn : x ≠ "__name__" := by decide) (hdb : (x == ("__debug__" : Str)) = false := by decide)
    (he : starEach (e :: es) X.env = (false, eval e X.env) :: starEach es X.env := by rfl) (hpl : (backTo pos (starEach es X.env)).any (·.1) = false := by rfl) : PE X (.Call (.Name x p) (e :: es) [] pos) (tCB r t) := by
  intro pins s σ H Q I h
  refine wpAny_Call_Name_kw (ld_blt I hg hm hv ?_ hn hdb)
  exact PyProof.Rows.callWith_builtin1 (thn (ha pos pins s σ H _ I h) fun us s1 ⟨vs, H1, I1, r1, q1⟩ => hc pins s1 σ H1 vs us Q I1 r1 q1) he hpl
end
end L2


namespace HT
open PySem PyProof.Rows

section
open PySem.SeqAt
open PySem.AutoSeq1 (wpAny_loadPart')
open PySem.MeetsSeq PySem.MeetsSeq2 PySem.MeetsSeq3

end

section
variable {prog : Program} {w : World} {A : Around} {E : Value → Shared → Prop} {s : Shared}

/-! ### t[a:b], not the whole -/
/-- a slice's bound as a place among n (d where it is left out) -/
def sIx (n d : Nat) : Option Int → Nat
  | none => d
  | some v => if v < 0 then (v + (n : Int)).toNat else min v.toNat n
end
end HT

namespace L2
open PySem PySem.Spec PyProof.Rows

/-! ### the parts of a slice -/
abbrev TO := St → Hp → (Option Int → Hp → Prop) → Prop
/-- a slice's part (left out, or an int) -/
def PO (X : Cx) (e : Option Expr) (t : TO) : Prop :=
  ∀ (pins : List (Addr × Obj)) (s : Shared) (σ : St) (H : Hp) (Q : Option Int → Hp → Prop), Inv X pins σ H s → t σ H Q →
    wpAny (model X.prog X.w) X.A (evalPart e X.env) (fun u s' => ∃ o H', Inv X pins σ H' s' ∧ IsPart u o ∧ Q o H') X.xe s
def tNoPart : TO := fun _ H Q => Q none H
def tPart (t : TE) : TO := fun σ H Q => t σ H fun x H1 => ∃ i, x = .int i ∧ Q (some i) H1

section
variable {X : Cx} {e : Expr} {te : TE} {lo hi : Option Expr} {tl th : TO} {pos p2 : Pos}

theorem po_none : PO X none tNoPart := by
  intro pins s σ H Q I h
  rw [evalPart_none]
  exact wpAny_pure ⟨none, H, I, .none, h⟩
theorem po_some (h : PE X e te) : PO X (some e) (tPart te) := by
  intro pins s σ H Q I hw
  rw [evalPart_some]
  refine thn (h pins s σ H _ I hw) fun u s1 ⟨x, H1, I1, r1, q1⟩ => ?_
  obtain ⟨i, rfl, q⟩ := q1
  obtain ⟨t, rfl⟩ := r1
  exact ⟨some i, H1, I1, .int i t, q⟩

/-- what a slice of a value is, by values: the slice object stands at sl -/
def SlR (X : Cx) (r : V → Option Int → Option Int → Hp → VK → Prop) : Prop :=
  ∀ (pins : List (Addr × Obj)) (s : Shared) (σ : St) (H : Hp) (x : V) (v vl vu : Value) (lo hi : Option Int) (sl : Addr) (Q : VK), Inv X pins σ H s → RelV x v → s.heap.IsSliceOf sl vl vu .none → IsPart vl lo → IsPart vu hi → r x lo hi H Q →
    ∃ T id, typeLookup (.type T) "__getitem__" = pure (some (.builtin id)) ∧ s.TypeIs v T ∧ wpAny (model X.prog X.w) X.A (getItem v (.ref sl)) (EP X pins σ Q) X.xe s
theorem SlR.or {r r' : V → Option Int → Option Int → Hp → VK → Prop} (h : SlR X r) (h' : SlR X r') : SlR X (fun x lo hi H Q => r x lo hi H Q ∨ r' x lo hi H Q) := by
  intro pins s σ H x v vl vu lo hi sl Q I rx hs pl pu q
  rcases q with q | q
  · exact h pins s σ H x v vl vu lo hi sl Q I rx hs pl pu q
  · exact h' pins s σ H x v vl vu lo hi sl Q I rx hs pl pu q
def tSl (r : V → Option Int → Option Int → Hp → VK → Prop) (te : TE) (tl th : TO) : TE := fun σ H Q => te σ H fun x H1 => tl σ H1 fun l H2 => th σ H2 fun u H3 => r x l u H3 Q
/-- a[lo:hi], any a -/
theorem pe_slice {r : V → Option Int → Option Int → Hp → VK → Prop} (hr : SlR X r) (he : PE X e te) (hl : PO X lo tl) (hu : PO X hi th) : PE X (.Subscript e (.Slice lo hi none p2) pos) (tSl r te tl th) := by
  intro pins s σ H Q I h
  refine Subscript_ (thn (he pins s σ H _ I h) fun v s1 ⟨x, H1, I1, r1, q1⟩ => ?_)
  refine wpAny_Slice (thn (hl pins s1 σ H1 _ I1 q1) fun vl s2 ⟨l, H2, I2, pl, q2⟩ => thn (hu pins s2 σ H2 _ I2 q2) fun vu s3 ⟨u, H3, I3, pu, q3⟩ => ?_)
  rw [evalPart_none]
  refine wpAny_pure ?_
  have I4 : Inv X pins σ H3 { s3 with heap := s3.heap.push { cls := .type "slice", data := .fields #[vl, vu, .none] } } := I3.kept (t' := s3.toks) fun b ob q => Heap.get?_push_of_some _ q
  obtain ⟨T, id, hT, ht, hg⟩ := hr pins { s3 with heap := s3.heap.push { cls := .type "slice", data := .fields #[vl, vu, .none] } } σ H3 x v vl vu l u s3.heap.objs.size Q I4 r1 (Heap.IsSliceOf.new ..) pl pu q3
  show wpAny (model X.prog X.w) X.A (subscriptTail e (.Slice lo hi none p2) v (.ref s3.heap.objs.size)) (EP X pins σ Q) X.xe { s3 with heap := s3.heap.push { cls := .type "slice", data := .fields #[vl, vu, .none] } }
  exact tail_any (ops := [.ref s3.heap.objs.size, v]) ht hT hg (by with_unfolding_all rfl)

/-- the items of xs[lo:hi] -/
def cutV (xs : List V) (lo hi : Option Int) : List V := (xs.drop (HT.sIx xs.length 0 lo)).take (HT.sIx xs.length xs.length hi - HT.sIx xs.length 0 lo)
theorem cutV_length (xs : List V) (lo hi : Option Int) : (cutV xs lo hi).length ≤ xs.length := by
  unfold cutV
  rw [List.length_take, List.length_drop]
  omega
/-! ### t < u, t + u -/
end
end L2

namespace L2
open PySem PySem.Spec PyProof.Rows

/-! ### places -/
/-- the place that an index of any sign means -/
def ixN (n : Nat) (i : Int) : Option Nat := if 0 ≤ i then (if i < n then some i.toNat else none) else if -(n : Int) ≤ i then some (i + n).toNat else none
def atI {α : Type} (xs : List α) (i : Int) : Option α := (ixN xs.length i).bind fun j => xs[j]?
theorem ixN_seq {n : Nat} {i : Int} {j : Nat} (h : ixN n i = some j) : seqIndex? i n = some j ∧ j < n ∧ -(n : Int) ≤ i ∧ i < n := by
  unfold ixN at h
  by_cases h0 : 0 ≤ i
  · rw [if_pos h0] at h
    by_cases h1 : i < n
    · rw [if_pos h1] at h
      have e : i.toNat = j := Option.some.inj h
      exact ⟨by rw [seqIndex_of h0 h1, e], by omega, by omega, h1⟩
    · rw [if_neg h1] at h; cases h
  · rw [if_neg h0] at h
    by_cases h1 : -(n : Int) ≤ i
    · rw [if_pos h1] at h
      have e : (i + n).toNat = j := Option.some.inj h
      exact ⟨by rw [seqIndex_neg (by omega) h1, e], by omega, h1, by omega⟩
    · rw [if_neg h1] at h; cases h
theorem atI_get {α : Type} {xs : List α} {i : Int} {v : α} (h : atI xs i = some v) : ∃ j, seqIndex? i xs.length = some j ∧ xs[j]? = some v ∧ j < xs.length ∧ -(xs.length : Int) ≤ i ∧ i < xs.length := by
  unfold atI at h
  cases e : ixN xs.length i with
  | none => rw [e] at h; cases h
  | some j =>
    rw [e] at h
    obtain ⟨h1, h2, h3, h4⟩ := ixN_seq e
    exact ⟨j, h1, h, h2, h3, h4⟩
/-! ### what may be subscripted -/
/-- what stands as an index of a plain subscript -/
def PlainIx (b : Expr) : Prop := ∀ o i, subscripted b false o i = operate [o, i] (getItem o i)
/-- a subscript by values -/
def IxR (X : Cx) (r : R2) : Prop :=
  ∀ (value slice : Expr) (pins : List (Addr × Obj)) (s : Shared) (σ : St) (H : Hp) (x y : V) (v u : Value) (Q : VK), Inv X pins σ H s → RelV x v → RelV y u → r x y H Q →
    subscripted slice false v u = operate [v, u] (getItem v u) → wpAny (model X.prog X.w) X.A (subscriptTail value slice v u) (EP X pins σ Q) X.xe s
/-- a call of a builtin's method by values: the receiver, the arguments -/
def MtR (X : Cx) (id : String) (r : V → List V → Hp → VK → Prop) : Prop :=
  ∀ (pins : List (Addr × Obj)) (s : Shared) (σ : St) (H : Hp) (x : V) (xs : List V) (v : Value) (us : List Value) (Q : VK), Inv X pins σ H s → RelV x v → Vals xs us → r x xs H Q →
    wpAny (model X.prog X.w) X.A (call (.builtin id) (v :: us)) (EP X pins σ Q) X.xe s
section
variable {X : Cx} {a b : Expr} {ta tb : TE} {pos : Pos}
theorem IxR.or {r r' : R2} (h : IxR X r) (h' : IxR X r') : IxR X (fun x y H Q => r x y H Q ∨ r' x y H Q) := by
  intro value slice pins s σ H x y v u Q I rx ry q hs
  rcases q with q | q
  · exact h value slice pins s σ H x y v u Q I rx ry q hs
  · exact h' value slice pins s σ H x y v u Q I rx ry q hs
theorem MtR.or {id : String} {r r' : V → List V → Hp → VK → Prop} (h : MtR X id r) (h' : MtR X id r') : MtR X id (fun x xs H Q => r x xs H Q ∨ r' x xs H Q) := by
  intro pins s σ H x xs v us Q I rx rs q
  rcases q with q | q
  · exact h pins s σ H x xs v us Q I rx rs q
  · exact h' pins s σ H x xs v us Q I rx rs q
/-- a[b] -/
theorem pe_ix {r : R2} (hr : IxR X r) (ha : PE X a ta) (hb : PE X b tb) (hs : PlainIx b) : PE X (.Subscript a b pos) (tOp r ta tb) := by
  intro pins s σ H Q I h
  exact Subscript_ (binT ha hb I h fun v u s2 x y H2 I2 rx ry q => hr a b pins s2 σ H2 x y v u Q I2 rx ry q (hs _ _))

def rIxL (K : PySem.W.Frag) : R2 := fun x y H Q => ∃ p xs i v, x = .ref p ∧ y = .int i ∧ SqL K H p xs ∧ atI xs i = some v ∧ Q v H
def rIxT (K : PySem.W.Frag) : R2 := fun x y H Q => ∃ p xs i v, x = .ref p ∧ y = .int i ∧ SqT K H p xs ∧ atI xs i = some v ∧ Q v H
def rIxS : R2 := fun x y H Q => ∃ z i c, x = .str z ∧ y = .int i ∧ z.length ≤ sizeLine ∧ atI z.cps.toList i = some c ∧ Q (.str ⟨#[c]⟩) H
theorem ix_list : IxR X (rIxL X.K) := by
  intro value slice pins s σ H x y v u Q I rx ry h hs
  obtain ⟨p, xs, i, z, rfl, rfl, hq, he, q⟩ := h
  cases rx
  obtain ⟨t, rfl⟩ := ry
  obtain ⟨its, r, pl, hz⟩ := I.list hq
  obtain ⟨j, h1, h2, h3, h4, h5⟩ := atI_get he
  obtain ⟨w, ew, rw'⟩ := r.get h2
  have hl := r.length
  have hn := line63
  have fin : EP X pins σ Q w s := ⟨z, H, I, rw', q⟩
  by_cases h0 : 0 ≤ i
  · have hj : i.toNat = j := by
      rw [seqIndex_of h0 h5] at h1
      exact Option.some.inj h1
    exact item_listR pl.isList h0 (by omega) (by rw [hj]; simpa using ew) fin hs
  · have hj : (i + (its.toArray.size : Int)).toNat = j := by
      rw [seqIndex_neg (by omega) h4] at h1
      rw [List.size_toArray, ← hl]
      exact Option.some.inj h1
    exact subscriptTail_builtinR (x := w) pl.isList.typeIs slot_list_getitem.lookup
      (wpAny_getItem_list_neg (Q := fun r s' => r = w ∧ EP X pins σ Q r s') pl.isList (by omega) (by rw [List.size_toArray] <;> omega) (by omega) (by rw [hj]; simpa using ew) ⟨rfl, fin⟩) hs
theorem ix_tup : IxR X (rIxT X.K) := by
  intro value slice pins s σ H x y v u Q I rx ry h hs
  obtain ⟨p, xs, i, z, rfl, rfl, hq, he, q⟩ := h
  cases rx
  obtain ⟨t, rfl⟩ := ry
  obtain ⟨its, r, pl, hz⟩ := I.tuple hq
  obtain ⟨j, h1, h2, h3, h4, h5⟩ := atI_get he
  obtain ⟨w, ew, rw'⟩ := r.get h2
  have hl := r.length
  have hn := line63
  have fin : EP X pins σ Q w s := ⟨z, H, I, rw', q⟩
  exact subscriptTail_builtinR (x := w) pl.typeIs slot_tuple_getitem.lookup
    (getItem_tuple (j := j) (Q := fun r s' => r = w ∧ EP X pins σ Q r s') pl (by omega) (by omega) (by rw [List.size_toArray, ← hl]; exact h1) (by simpa using ew) ⟨rfl, fin⟩) hs
theorem ix_str : IxR X rIxS := by
  intro value slice pins s σ H x y v u Q I rx ry h hs
  obtain ⟨z, i, c, rfl, rfl, hz, he, q⟩ := h
  obtain ⟨t, rfl⟩ := rx
  obtain ⟨t', rfl⟩ := ry
  obtain ⟨j, h1, h2, h3, h4, h5⟩ := atI_get he
  have hl : z.cps.toList.length = z.length := by simp [Str.length]
  rw [hl] at h1 h4 h5
  have hn := line63
  exact tail_any (typeIs_str s z t) slot_str_getitem.lookup (getItem_str (c := c) (by
    have e1 : decide (i < -(2 ^ 63 : Int)) = false := decide_eq_false (by omega)
    have e2 : decide (i ≥ 2 ^ 63) = false := decide_eq_false (by omega)
    rw [e1, e2, Bool.or_false]) (by rw [h1]; simpa using h2) ⟨.str ⟨#[c]⟩, H, I.tok _, ⟨_, rfl⟩, q⟩) hs
/-- list, tuple or str -/
def rIx (K : PySem.W.Frag) : R2 := fun x y H Q => rIxL K x y H Q ∨ rIxT K x y H Q ∨ rIxS x y H Q
theorem ix_seq : IxR X (rIx X.K) := ix_list.or (ix_tup.or ix_str)

/-! ### xs[i] = v, any sign -/
theorem Inv.lst {pins : List (Addr × Obj)} {σ : St} {H : Hp} {s : Shared} {p : Addr} {xs : List V} (I : Inv X pins σ H s) (h : H p = some (.lst xs)) :
    ∃ (its : List Value) (n : Nat), Vals xs its ∧ s.heap.get? p = some { cls := .type "list", data := .seq its.toArray n } ∧ xs.length ≤ sizeLine := by
  obtain ⟨z, its, n, r, e⟩ := I.hok p _ h
  exact ⟨its, n, r, e, z⟩
/-! ### slices -/
theorem slice_bounds (lo hi : Option Int) (n : Nat) : (sliceBounds lo hi none n).1 = ((HT.sIx n 0 lo : Nat) : Int) ∧ (sliceBounds lo hi none n).2.1 = ((HT.sIx n n hi : Nat) : Int) ∧ (sliceBounds lo hi none n).2.2 = 1 := by
  refine ⟨?_, ?_, rfl⟩
  · cases lo with
    | none => simp [sliceBounds, HT.sIx]
    | some i =>
      simp only [sliceBounds, HT.sIx, Option.getD_none, show (1 : Int) > 0 by decide, if_true]
      by_cases h : i < 0
      · simp only [h, if_true] <;> omega
      · simp only [h, if_false] <;> omega
  · cases hi with
    | none => simp [sliceBounds, HT.sIx]
    | some i =>
      simp only [sliceBounds, HT.sIx, Option.getD_none, show (1 : Int) > 0 by decide, if_true]
      by_cases h : i < 0
      · simp only [h, if_true] <;> omega
      · simp only [h, if_false] <;> omega
theorem slicePick_cut (its : List Value) (lo hi : Option Int) : slicePick its.toArray lo hi none = ((its.drop (HT.sIx its.length 0 lo)).take (HT.sIx its.length its.length hi - HT.sIx its.length 0 lo)).toArray := by
  obtain ⟨h1, h2, h3⟩ := slice_bounds lo hi its.toArray.size
  unfold slicePick
  rw [h1, h2, h3]
  simp only [sliceRange_one, pick_run, List.size_toArray] <;> rfl
/-- xs[lo:hi] of a list: a new list -/
def rSlL (K : PySem.W.Frag) : V → Option Int → Option Int → Hp → VK → Prop := fun x lo hi H Q => ∃ a xs, x = .ref a ∧ SqL K H a xs ∧ ∀ p, H p = none → Q (.ref p) (upd H p (.lst (cutV xs lo hi)))
theorem sl_list : SlR X (rSlL X.K) := by
  intro pins s σ H x v vl vu lo hi sl Q I rx hs pl pu h
  obtain ⟨a, xs, rfl, hx, q⟩ := h
  cases rx
  obtain ⟨its, r, ht, hz⟩ := I.list hx
  have hlen := r.length
  refine ⟨"list", _, slot_list_getitem.lookup, ht.isList.typeIs, ?_⟩
  refine wpAny_getItem_list_slice ht.isList hs pl pu .none (by simp) ?_ (by rw [List.size_toArray] <;> omega)
  rw [slicePick_cut, ← hlen]
  refine ⟨.ref s.heap.objs.size, _, I.laid (t' := s.toks) (o := .lst (cutV xs lo hi)) (fun b ob q => Heap.get?_push_of_some _ q) (Nat.le_refl _) ?_, rfl, q _ (I.hok.fresh (Nat.le_refl _))⟩
  exact ⟨Nat.le_trans (cutV_length xs lo hi) hz, _, 0, (r.drop (HT.sIx xs.length 0 lo)).take (HT.sIx xs.length xs.length hi - HT.sIx xs.length 0 lo), Heap.get?_push_size _ rfl⟩

/-! ### in, not in: flat items -/
def flatV : V → Bool
  | .non => true
  | .bl _ => true
  | .int _ => true
  | .str _ => true
  | _ => false
/-- == of flat values -/
def eqV : V → V → Bool
  | .non, .non => true
  | .bl a, .bl b => a == b
  | .bl a, .int b => (if a then 1 else 0) == b
  | .int a, .bl b => a == (if b then 1 else 0)
  | .int a, .int b => a == b
  | .str a, .str b => a == b
  | _, _ => false
theorem eqAt_V {A : Around} {s : Shared} {y x : V} {u v : Value} (ry : RelV y u) (rx : RelV x v) (fy : flatV y = true) (fx : flatV x = true) : SeqAt.EqAt A s u v (eqV y x) := by
  cases y with
  | non =>
    cases ry
    cases x with
    | non => cases rx; exact SeqAt.EqAt.same _
    | bl b => cases rx; exact SeqAt.EqAt.none_bool b
    | int b => obtain ⟨t, rfl⟩ := rx; exact SeqAt.EqAt.none_int b t
    | str b => obtain ⟨t, rfl⟩ := rx; exact SeqAt.EqAt.none_str b t
    | _ => exact absurd (show false = true from fx) Bool.false_ne_true
  | bl a =>
    cases ry
    cases x with
    | non => cases rx; exact SeqAt.EqAt.bool_none a
    | bl b => cases rx; exact SeqAt.EqAt.bool_bool a b
    | int b => obtain ⟨t, rfl⟩ := rx; exact SeqAt.EqAt.bool_int a b t
    | str b => obtain ⟨t, rfl⟩ := rx; exact SeqAt.EqAt.bool_str a b t
    | _ => exact absurd (show false = true from fx) Bool.false_ne_true
  | int a =>
    obtain ⟨t', rfl⟩ := ry
    cases x with
    | non => cases rx; exact SeqAt.EqAt.int_none a t'
    | bl b => cases rx; exact SeqAt.EqAt.int_bool a t' b
    | int b => obtain ⟨t, rfl⟩ := rx; exact SeqAt.EqAt.int_int a t' b t
    | str b => obtain ⟨t, rfl⟩ := rx; exact SeqAt.EqAt.int_str a t' b t
    | _ => exact absurd (show false = true from fx) Bool.false_ne_true
  | str a =>
    obtain ⟨t', rfl⟩ := ry
    cases x with
    | non => cases rx; exact SeqAt.EqAt.str_none a t'
    | bl b => cases rx; exact SeqAt.EqAt.str_bool a t' b
    | int b => obtain ⟨t, rfl⟩ := rx; exact SeqAt.EqAt.str_int a t' b t
    | str b => obtain ⟨t, rfl⟩ := rx; exact SeqAt.EqAt.str_str a t' b t
    | _ => exact absurd (show false = true from fx) Bool.false_ne_true
  | _ => exact absurd (show false = true from fy) Bool.false_ne_true
/-- the items' answers, read off the values (a value's own answer does not lean on its token) -/
def eqU (x : V) (u : Value) : Bool := match u with
  | .none => eqV .non x
  | .bool b => eqV (.bl b) x
  | .int i _ => eqV (.int i) x
  | .str z _ => eqV (.str z) x
  | _ => false
theorem eqU_of {x y : V} {u : Value} (r : RelV y u) (f : flatV y = true) : eqU x u = eqV y x := by
  cases y with
  | non => cases r; rfl
  | bl b => cases r; rfl
  | int i => obtain ⟨t, rfl⟩ := r; rfl
  | str z => obtain ⟨t, rfl⟩ := r; rfl
  | _ => exact absurd (show false = true from f) Bool.false_ne_true
theorem any_eqU {x : V} : ∀ {xs : List V} {us : List Value}, Vals xs us → xs.all flatV = true → us.any (eqU x) = xs.any fun y => eqV y x
  | _, _, .nil, _ => rfl
  | y :: xs, u :: us, .cons r t, f => by
    rw [List.all_cons, Bool.and_eq_true] at f
    rw [List.any_cons, List.any_cons, eqU_of r f.1, any_eqU t f.2]
theorem mem_eqAt {A : Around} {s : Shared} {x : V} {v : Value} (rx : RelV x v) (fx : flatV x = true) : ∀ {xs : List V} {us : List Value}, Vals xs us → xs.all flatV = true → ∀ u ∈ us, SeqAt.EqAt A s u v (eqU x u)
  | _, _, .nil, _ => fun u hu => by cases hu
  | y :: xs, u :: us, .cons r t, f => fun u' hu => by
    rw [List.all_cons, Bool.and_eq_true] at f
    rcases List.mem_cons.mp hu with rfl | hu
    · rw [eqU_of r f.1]; exact eqAt_V r rx f.1 fx
    · exact mem_eqAt rx fx t f.2 u' hu
def inV (x : V) (xs : List V) : Bool := xs.any fun y => eqV y x
/-- x in a list or tuple of flat items -/
def rIn (K : PySem.W.Frag) (neg : Bool) : R2 := fun x y H Q => ∃ p xs, y = .ref p ∧ (SqL K H p xs ∨ SqT K H p xs) ∧ flatV x = true ∧ xs.all flatV = true ∧ Q (.bl (if neg then !inV x xs else inV x xs)) H
theorem op_in_seq : OpR X (compareOp .In) (rIn X.K false) := by
  intro pins s σ H x y v u Q I rx ry h
  obtain ⟨p, xs, rfl, hq, fx, fs, q⟩ := h
  cases ry
  rcases hq with hq | hq
  · obtain ⟨its, r, pl, hz⟩ := I.list hq
    refine SeqAt.in_listAt (eqU x) pl.isList (fun w hw => mem_eqAt rx fx r fs w (by simpa using hw)) ⟨.bl _, H, I, rfl, ?_⟩
    rw [show its.toArray.any (eqU x) = its.any (eqU x) by simp, any_eqU r fs]
    exact q
  · obtain ⟨its, r, pl, hz⟩ := I.tuple hq
    refine SeqAt.in_tupleAt (eqU x) pl (fun w hw => mem_eqAt rx fx r fs w (by simpa using hw)) ⟨.bl _, H, I, rfl, ?_⟩
    rw [show its.toArray.any (eqU x) = its.any (eqU x) by simp, any_eqU r fs]
    exact q
theorem op_notIn_seq : OpR X (compareOp .NotIn) (rIn X.K true) := by
  intro pins s σ H x y v u Q I rx ry h
  obtain ⟨p, xs, rfl, hq, fx, fs, q⟩ := h
  cases ry
  rcases hq with hq | hq
  · obtain ⟨its, r, pl, hz⟩ := I.list hq
    refine SeqAt.notIn_listAt (eqU x) pl.isList (fun w hw => mem_eqAt rx fx r fs w (by simpa using hw)) ⟨.bl _, H, I, rfl, ?_⟩
    rw [show its.toArray.any (eqU x) = its.any (eqU x) by simp, any_eqU r fs]
    exact q
  · obtain ⟨its, r, pl, hz⟩ := I.tuple hq
    refine SeqAt.notIn_tupleAt (eqU x) pl (fun w hw => mem_eqAt rx fx r fs w (by simpa using hw)) ⟨.bl _, H, I, rfl, ?_⟩
    rw [show its.toArray.any (eqU x) = its.any (eqU x) by simp, any_eqU r fs]
    exact q
theorem op_notIn_str : OpR X (compareOp .NotIn) (fun x y H Q => ∃ i j, x = .str i ∧ y = .str j ∧ Q (.bl (!(!(Builtin.Str.occurrences j i 0 j.length 1).isEmpty))) H) := by
  intro pins s σ H x y v u Q I rx ry h
  obtain ⟨i, j, rfl, rfl, q⟩ := h
  obtain ⟨t, rfl⟩ := rx
  obtain ⟨t', rfl⟩ := ry
  exact notIn_str ⟨.bl _, H, I, rfl, q⟩

/-! ### len, list(x), tuple(x) of any list or tuple that is read -/
theorem CallR.or {f : Value} {r r' : List V → Hp → VK → Prop} (h : CallR X f r) (h' : CallR X f r') : CallR X f (fun xs H Q => r xs H Q ∨ r' xs H Q) := by
  intro pins s σ H xs us Q I rs q
  rcases q with q | q
  · exact h pins s σ H xs us Q I rs q
  · exact h' pins s σ H xs us Q I rs q
/-! ### the call of a builtin's method: o.m(..) -/
/-- the value is of that builtin type -/
def tyV (K : PySem.W.Frag) (T : String) (x : V) (H : Hp) : Prop := match x with
  | .str _ => T = "str"
  | .int _ => T = "int"
  | .ref p => (T = "list" ∧ ∃ xs, SqL K H p xs) ∨ (T = "tuple" ∧ ∃ o, K.lookup p = some o ∧ o.cls = .type "tuple" ∧ o.dict = none) ∨
      (T = "dict" ∧ ((∃ kvs, H p = some (.dK kvs)) ∨ ∃ kvs, H p = some (.dT kvs))) ∨ (T = "set" ∧ ∃ S n, H p = some (.set S n))
  | _ => False
theorem tyV_is {pins : List (Addr × Obj)} {σ : St} {H : Hp} {s : Shared} {T : String} {x : V} {v : Value} (I : Inv X pins σ H s) (r : RelV x v) (ty : tyV X.K T x H) :
    s.TypeIs v T ∧ ∀ a, v = .ref a → ∃ ob, s.heap.get? a = some ob ∧ ob.dict = none := by
  cases x with
  | str z =>
    obtain ⟨t, rfl⟩ := r
    cases (show T = "str" from ty)
    exact ⟨typeIs_str s z t, fun _ e => nomatch e⟩
  | int i =>
    obtain ⟨t, rfl⟩ := r
    cases (show T = "int" from ty)
    exact ⟨typeIs_int s i t, fun _ e => nomatch e⟩
  | ref p =>
    cases r
    rcases ty with ⟨rfl, xs, hq⟩ | ⟨rfl, o, hk, hc, hd⟩ | ⟨rfl, hk⟩ | ⟨rfl, S, n, hk⟩
    · obtain ⟨its, _, pl, _⟩ := I.list hq
      refine ⟨pl.isList.typeIs, fun a e => ?_⟩
      cases e
      obtain ⟨o, n, e, c, hd, _⟩ := pl
      exact ⟨o, e, hd⟩
    · refine ⟨⟨o, I.kIn p o hk, hc⟩, fun a e => ?_⟩
      cases e
      exact ⟨o, I.kIn _ o hk, hd⟩
    · have z : ∃ o, s.heap.get? p = some o ∧ o.ExactDict := by
        rcases hk with ⟨kvs, hk⟩ | ⟨kvs, hk⟩
        · obtain ⟨_, _, _, _, o, _, _, e, ex, _⟩ := I.hok p _ hk
          exact ⟨o, e, ex⟩
        · obtain ⟨_, _, _, _, o, _, _, e, ex, _⟩ := I.hok p _ hk
          exact ⟨o, e, ex⟩
      obtain ⟨o, e, ex⟩ := z
      refine ⟨⟨o, e, ex.1⟩, fun a e2 => ?_⟩
      cases e2
      exact ⟨o, e, ex.2.1⟩
    · obtain ⟨o, _, _, _, e, ex, _⟩ := I.hok p _ hk
      refine ⟨⟨o, e, ex.1⟩, fun a e2 => ?_⟩
      cases e2
      exact ⟨o, e, ex.2.1⟩
  | _ => exact False.elim ty
def tBM (K : PySem.W.Frag) (T : String) (r : V → List V → Hp → VK → Prop) (to : TE) (t : TA) : TE := fun σ H Q => to σ H fun x H1 => tyV K T x H1 ∧ t σ H1 fun xs H2 => r x xs H2 Q
variable {o e : Expr} {es : List Expr} {to : TE} {t : TA} {name : Str} {apos cpos : Pos} {T id : String} {r : V → List V → Hp → VK → Prop}
theorem pe_bm (pa : PlainAttrs T) (slot : Slot T name id) (hty : typeOf (.builtin id) = pure (.type "method_descriptor")) (hm : MtR X id r) (ho : PE X o to) (ha : PA X (e :: es) t)
    (hbase : attributeBase o name X.env (eval o X.env) = eval o X.env := by rfl)
    (hfew : ((backTo cpos (starEach (e :: es) X.env)).all (fun x => !x.1) && (backToKw cpos (keywordEach [] X.env)).all (fun x => x.1.isSome)
      && decide ((e :: es).length + ([] : List Keyword).length + (if ([] : List Keyword).isEmpty then 0 else 1) < 30)) = true := by rfl)
    (hline : (apos.endLine == cpos.line) = true := by rfl) (hs : starEach (e :: es) X.env = (false, eval e X.env) :: starEach es X.env := by rfl) (hplain : (backTo cpos (starEach es X.env)).any (·.1) = false := by rfl) :
    PE X (.Call (.Attribute o name apos) (e :: es) [] cpos) (tBM X.K T r to t) := by
  intro pins s σ H Q I h
  refine wpAny_Call_method_late hbase hfew hline rfl (thn (ho pins s σ H _ I h) fun v s1 ⟨x, H1, I1, r1, ty, q1⟩ => ?_)
  obtain ⟨h1, h2⟩ := tyV_is I1 r1 ty
  refine ⟨T, id, pa, slot, hty, h1, h2, ?_⟩
  have hA := ha cpos pins s1 σ H1 _ I1 q1
  rw [hs] at hA ⊢
  refine Calls.callWith_builtin (by show (false || (backTo cpos (starEach es X.env)).any (·.1)) = false; rw [hplain] <;> rfl) (Calls.evalArgs_plain ?_)
  exact thn hA fun us s2 ⟨vs, H2, I2, r2, q2⟩ => hm pins s2 σ H2 x vs v us Q I2 r1 r2 q2
/- xs.append(e), list.index on a module's tuple .. are MtR facts of 06m -/
end
end L2

namespace L2
open PySem PySem.Spec PyProof.Rows

def MtM (X : Cx) (id : String) (r : V → List V → Hp → VK → Prop) : Prop :=
  ∀ (pins : List (Addr × Obj)) (s : Shared) (σ : St) (H : Hp) (x : V) (xs : List V) (v : Value) (us : List Value) (Q : VK), Inv X pins σ H s → RelV x v → Vals xs us → r x xs H Q →
    wpAny (model X.prog X.w) X.A (call (.builtin id) (v :: us)) (EP X pins σ Q) X.xe s

/-! ### lists of values -/
theorem Vals.one : ∀ {x : V} {us : List Value}, Vals [x] us → ∃ u, us = [u] ∧ RelV x u
  | _, _, .cons r .nil => ⟨_, rfl, r⟩
theorem Vals.two : ∀ {x y : V} {us : List Value}, Vals [x, y] us → ∃ u v, us = [u, v] ∧ RelV x u ∧ RelV y v
  | _, _, _, .cons r (.cons q .nil) => ⟨_, _, rfl, r, q⟩
theorem Vals.zero : ∀ {us : List Value}, Vals [] us → us = []
  | _, .nil => rfl
section
variable {X : Cx} {pins : List (Addr × Obj)} {σ : St} {H : Hp} {s : Shared} {l b : Addr} {xs ys zs : List V}

/-! ### the two steps: a tracked list is rewritten, a new list is laid -/
theorem Inv.lnew {its : List Value} {t' : Nat} (I : Inv X pins σ H s) (hv : Vals ys its) (hz : ys.length ≤ sizeLine) :
    Inv X pins σ (upd H s.heap.objs.size (.lst ys)) { s with heap := s.heap.push { cls := .type "list", data := .seq its.toArray }, toks := t' } :=
  I.laid (fun _ _ q => Heap.get?_push_of_some _ q) (Nat.le_refl _) ⟨hz, its, 0, hv, Heap.get?_push_size _ rfl⟩
theorem Inv.fresh (I : Inv X pins σ H s) : H s.heap.objs.size = none := I.hok.fresh (Nat.le_refl _)
end

section
variable {X : Cx}

/-! ### methods -/
/-! ### list + list, list += list, list * int -/
/-! ### del xs[i] -/
end

/-! ### xs[a:b] = ys -/
section
variable {prog : Program} {w : World} {A : Around} {E : Value → Shared → Prop} {s : Shared}
set_option maxRecDepth 100000 in
end

section
variable {X : Cx}
end
end L2


namespace L2
open PySem PySem.Spec PyProof.Rows

/-! ### lists of pairs as tables -/
section
variable {κ : Type} [DecidableEq κ]
def valV (kvs : List (κ × V)) (k : κ) : Option V := (kvs.find? fun kv => decide (kv.1 = k)).map (·.2)
/-- in its place, or at the end -/
def putK (kvs : List (κ × V)) (k : κ) (v : V) : List (κ × V) :=
  if (kvs.any fun kv => decide (kv.1 = k)) = true then kvs.map (fun kv => if kv.1 = k then (kv.1, v) else kv) else kvs ++ [(k, v)]
def dropK (kvs : List (κ × V)) (k : κ) : List (κ × V) := kvs.filter fun kv => decide (kv.1 ≠ k)

theorem valV_pos {p : κ × V} {r : List (κ × V)} {k : κ} (e : p.1 = k) : valV (p :: r) k = some p.2 := by simp [valV, List.find?_cons, e]
theorem valV_neg {p : κ × V} {r : List (κ × V)} {k : κ} (e : ¬ p.1 = k) : valV (p :: r) k = valV r k := by simp [valV, List.find?_cons, e]
theorem valV_any (k : κ) : ∀ kvs : List (κ × V), (kvs.any fun kv => decide (kv.1 = k)) = (valV kvs k).isSome
  | [] => rfl
  | p :: r => by
    rw [List.any_cons]
    by_cases e : p.1 = k
    · simp only [valV_pos e, decide_eq_true e, Bool.true_or, Option.isSome_some]
    · rw [valV_neg e, decide_eq_false e, Bool.false_or]; exact valV_any k r
theorem length_putK (kvs : List (κ × V)) (k : κ) (v : V) : (putK kvs k v).length ≤ kvs.length + 1 := by
  unfold putK
  split
  · rw [List.length_map]; omega
  · rw [List.length_append, List.length_cons, List.length_nil]; omega
theorem RelO.isSome_eq {o : Option V} {u : Option Value} (r : RelO o u) : o.isSome = u.isSome := by
  cases o with
  | none => cases u with
    | none => rfl
    | some _ => exact (show False from r).elim
  | some _ => cases u with
    | none => exact (show False from r).elim
    | some _ => rfl
theorem RelO.getD {o : Option V} {u : Option Value} {d : V} {d' : Value} (r : RelO o u) (rd : RelV d d') : RelV (o.getD d) (u.getD d') := by
  cases o with
  | none => cases u with
    | none => exact rd
    | some _ => exact (show False from r).elim
  | some _ => cases u with
    | none => exact (show False from r).elim
    | some _ => exact r

/-- raw tables of the same keys -/
theorem KV.val {kvs : List (κ × V)} {vs : List (κ × Value)} (r : KV kvs vs) (k : κ) : RelO (valV kvs k) (valueAt vs k) := by
  unfold KV at r
  induction r with
  | nil => exact True.intro
  | @cons p q ps qs h t ih =>
    obtain ⟨h1, h2⟩ := h
    by_cases e : p.1 = k
    · have e' : q.1 = k := h1.symm.trans e
      have b : valueAt (q :: qs) k = some q.2 := by simp [valueAt, List.find?_cons, e']
      rw [valV_pos e, b]; exact h2
    · have e' : ¬ q.1 = k := fun z => e (h1.trans z)
      have b : valueAt (q :: qs) k = valueAt qs k := by simp [valueAt, List.find?_cons, e']
      rw [valV_neg e, b]; exact ih
theorem KV.any {kvs : List (κ × V)} {vs : List (κ × Value)} (r : KV kvs vs) (k : κ) : (kvs.any fun kv => decide (kv.1 = k)) = vs.any fun kv => decide (kv.1 = k) := by
  unfold KV at r
  induction r with
  | nil => rfl
  | cons h t ih => rw [List.any_cons, List.any_cons, ih, h.1]
theorem KV.repl {kvs : List (κ × V)} {vs : List (κ × Value)} (r : KV kvs vs) (k : κ) {y : V} {u : Value} (ry : RelV y u) :
    KV (kvs.map fun kv => if kv.1 = k then (kv.1, y) else kv) (vs.map fun kv => if kv.1 = k then (kv.1, u) else kv) := by
  unfold KV at r ⊢
  induction r with
  | nil => exact .nil
  | @cons p q ps qs h t ih =>
    rw [List.map_cons, List.map_cons]
    refine .cons ?_ ih
    obtain ⟨h1, h2⟩ := h
    by_cases e : p.1 = k
    · rw [if_pos e, if_pos (h1.symm.trans e)]; exact ⟨h1, ry⟩
    · rw [if_neg e, if_neg (fun z => e (h1.trans z))]; exact ⟨h1, h2⟩
theorem KV.put {kvs : List (κ × V)} {vs : List (κ × Value)} (r : KV kvs vs) (k : κ) {y : V} {u : Value} (ry : RelV y u) : KV (putK kvs k y) (stored vs k u) := by
  unfold putK stored
  rw [r.any k]
  by_cases e : (vs.any fun kv => decide (kv.1 = k)) = true
  · rw [if_pos e, if_pos e]; exact r.repl k ry
  · rw [if_neg e, if_neg e]; exact Paired.snoc r ⟨rfl, ry⟩
theorem KV.drop {kvs : List (κ × V)} {vs : List (κ × Value)} (r : KV kvs vs) (k : κ) : KV (dropK kvs k) (without vs k) := by
  unfold KV at r ⊢
  unfold dropK without
  induction r with
  | nil => exact .nil
  | @cons p q ps qs h t ih =>
    obtain ⟨h1, h2⟩ := h
    rw [List.filter_cons, List.filter_cons]
    by_cases e : p.1 = k
    · have a : ¬ decide (p.1 ≠ k) = true := by simp [e]
      have b : ¬ decide (q.1 ≠ k) = true := by simp [h1.symm.trans e]
      rw [if_neg a, if_neg b]; exact ih
    · have e' : ¬ q.1 = k := fun z => e (h1.trans z)
      have a : decide (p.1 ≠ k) = true := by simp [e]
      have b : decide (q.1 ≠ k) = true := by simp [e']
      rw [if_pos a, if_pos b]; exact .cons ⟨h1, h2⟩ ih
theorem KV.keys {kvs : List (κ × V)} {vs : List (κ × Value)} (r : KV kvs vs) : kvs.map (·.1) = vs.map (·.1) := by
  unfold KV at r
  induction r with
  | nil => rfl
  | cons h t ih => rw [List.map_cons, List.map_cons, ih, h.1]
theorem KV.length {kvs : List (κ × V)} {vs : List (κ × Value)} (r : KV kvs vs) : kvs.length = vs.length := Paired.length r
end


/-! ### a tracked dict, its keys ints and texts or tuples of these -/
theorem kV_is {P : Program} {w : World} {k : Key} {u : Value} (r : RelV (kV k) u) : (mixKind P w).is k u = true := by
  cases k with
  | inl i => obtain ⟨t, e⟩ := (show ∃ t, u = Value.int i t from r); subst e; exact mixKind_int P w i t
  | inr x => obtain ⟨t, e⟩ := (show ∃ t, u = Value.str x t from r); subst e; exact mixKind_str P w x t
theorem items_are {P : Program} {w : World} : ∀ {ks : List Key} {us : List Value}, Vals (ks.map kV) us → ItemsAre (mixKind P w) ks us
  | [], _, r => by rw [List.map_nil] at r; cases r; exact .nil
  | k :: ks, _, r => by
    rw [List.map_cons] at r
    cases r with
    | cons h t => exact .cons (kV_is h) (items_are t)

/-- raw entries of a dict with tuple keys -/
abbrev KT (H : Hp) : List (List Key × V) → List (List Key × Addr × Value) → Prop := Paired fun p q => p.1 = q.1 ∧ H q.2.1 = some (.tup (p.1.map kV)) ∧ RelV p.2 q.2.2
theorem KT.val {H : Hp} {kvs : List (List Key × V)} {xs : List (List Key × Addr × Value)} (r : KT H kvs xs) (k : List Key) : RelO (valV kvs k) ((atKey xs k).map (·.2)) := by
  induction r with
  | nil => exact True.intro
  | @cons p q ps qs h t ih =>
    obtain ⟨h1, _, h2⟩ := h
    by_cases e : p.1 = k
    · have e' : q.1 = k := h1.symm.trans e
      have b : atKey (q :: qs) k = some q.2 := by simp [atKey, List.find?_cons, e']
      rw [valV_pos e, b]; exact h2
    · have e' : ¬ q.1 = k := fun z => e (h1.trans z)
      have b : atKey (q :: qs) k = atKey qs k := by simp [atKey, List.find?_cons, e']
      rw [valV_neg e, b]; exact ih
theorem KT.repl {H : Hp} {kvs : List (List Key × V)} {xs : List (List Key × Addr × Value)} (r : KT H kvs xs) (k : List Key) {y : V} {u : Value} (ry : RelV y u) :
    KT H (kvs.map fun kv => if kv.1 = k then (kv.1, y) else kv) (xs.map (putAt k u)) := by
  induction r with
  | nil => exact .nil
  | @cons p q ps qs h t ih =>
    rw [List.map_cons, List.map_cons]
    refine .cons ?_ ih
    obtain ⟨h1, h2, h3⟩ := h
    unfold putAt
    by_cases e : p.1 = k
    · rw [if_pos e, if_pos (h1.symm.trans e)]; exact ⟨h1, h2, ry⟩
    · rw [if_neg e, if_neg (fun z => e (h1.trans z))]; exact ⟨h1, h2, h3⟩
theorem KT.put {H : Hp} {kvs : List (List Key × V)} {xs : List (List Key × Addr × Value)} (r : KT H kvs xs) (k : List Key) {b : Addr} {y : V} {u : Value} (hb : H b = some (.tup (k.map kV))) (ry : RelV y u) :
    KT H (putK kvs k y) (storedH xs k b u) := by
  have e : (kvs.any fun kv => decide (kv.1 = k)) = (atKey xs k).isSome := by
    rw [valV_any, (r.val k).isSome_eq, Option.isSome_map]
  unfold putK storedH
  rw [e]
  by_cases q : (atKey xs k).isSome = true
  · rw [if_pos q, if_pos q]; exact r.repl k ry
  · rw [if_neg q, if_neg q]; exact Paired.snoc r ⟨rfl, hb, ry⟩
theorem KT.keeps {H H' : Hp} {kvs : List (List Key × V)} {xs : List (List Key × Addr × Value)} (r : KT H kvs xs) (ht : ∀ b ys, H b = some (.tup ys) → H' b = some (.tup ys)) : KT H' kvs xs :=
  Paired.mapP r fun _ _ z => ⟨z.1, ht _ _ z.2.1, z.2.2⟩

section
variable {P : Program} {w : World} {H : Hp} {h : Heap} {a : Addr}
theorem rd_of {u : HO} (ok : HOk P w H h) (e : Rd H a u) : ObjOk P w H h a u := e.ok ok
theorem dk_rd {kvs : List (Key × V)} (ok : HOk P w H h) (e : Rd H a (.dK kvs)) : kvs.length ≤ sizeLine ∧ (a == sysModules) = false ∧ ∃ vs, KV kvs vs ∧ h.DictOf (mixKind P w) a vs :=
  show ObjOk P w H h a (.dK kvs) from rd_of ok e
theorem dk_of {kvs : List (Key × V)} (ok : HOk P w H h) (e : H a = some (.dK kvs)) : kvs.length ≤ sizeLine ∧ (a == sysModules) = false ∧ ∃ vs, KV kvs vs ∧ h.DictOf (mixKind P w) a vs := dk_rd ok (.inl e)
/-- a tracked tuple of ints and texts is a key -/
theorem key_of {ks : List Key} (ok : HOk P w H h) (e : H a = some (.tup (ks.map kV))) : (tupleKind (mixKind P w)).is h ks a := by
  obtain ⟨_, its, r, o, h1, h2, n, h3⟩ := (show ObjOk P w H h a (.tup (ks.map kV)) from ok a _ e)
  exact ⟨o, its.toArray, n, h1, h2, h3, by simpa using items_are r⟩
theorem dt_rd {kvs : List (List Key × V)} (ok : HOk P w H h) (e : Rd H a (.dT kvs)) : kvs.length ≤ sizeLine ∧ (a == sysModules) = false ∧
    ∃ xs, KT H kvs xs ∧ h.DictOfH (tupleKind (mixKind P w)) a xs := by
  obtain ⟨z, y, xs, r, o, es, ep, h1, h2, h3, h4, h5⟩ := (show ObjOk P w H h a (.dT kvs) from rd_of ok e)
  refine ⟨z, y, xs, r, o, es, ep, h1, h2, h3, h4, fun x hx => ?_, h5⟩
  have all : ∀ {l : List (List Key × V)} {m : List (List Key × Addr × Value)}, KT H l m → ∀ x ∈ m, (tupleKind (mixKind P w)).is h x.1 x.2.1 := by
    intro l m q
    induction q with
    | nil => intro x hx; exact nomatch hx
    | @cons p q ps qs hq t ih =>
      intro x hx
      rcases List.mem_cons.mp hx with e | hx
      · subst e
        exact key_of ok (by rw [← hq.1]; exact hq.2.1)
      · exact ih x hx
  exact all r x hx
end

/-- what the dict at a holds at the key y -/
def DGet (H : Hp) (a : Addr) (y : V) (r : Option V) : Prop :=
  (∃ kvs k, Rd H a (.dK kvs) ∧ y = kV k ∧ r = valV kvs k) ∨ ∃ kvs k b, Rd H a (.dT kvs) ∧ y = .ref b ∧ H b = some (.tup (k.map kV)) ∧ r = valV kvs k
/-- the heap behind a[y] = v -/
def DPut (H : Hp) (a : Addr) (y v : V) (H' : Hp) : Prop :=
  (∃ kvs k, H a = some (.dK kvs) ∧ y = kV k ∧ kvs.length < sizeLine ∧ H' = upd H a (.dK (putK kvs k v))) ∨
  ∃ kvs k b, H a = some (.dT kvs) ∧ y = .ref b ∧ H b = some (.tup (k.map kV)) ∧ kvs.length < sizeLine ∧ H' = upd H a (.dT (putK kvs k v))
theorem DGet.k {H : Hp} {a : Addr} {kvs : List (Key × V)} {k : Key} (e : H a = some (.dK kvs)) : DGet H a (kV k) (valV kvs k) := .inl ⟨kvs, k, .inl e, rfl, rfl⟩
theorem DGet.t {H : Hp} {a b : Addr} {kvs : List (List Key × V)} {k : List Key} (e : H a = some (.dT kvs)) (eb : H b = some (.tup (k.map kV))) : DGet H a (.ref b) (valV kvs k) := .inr ⟨kvs, k, b, .inl e, rfl, eb, rfl⟩
theorem DPut.k {H : Hp} {a : Addr} {kvs : List (Key × V)} {k : Key} {v : V} (e : H a = some (.dK kvs)) (hl : kvs.length < sizeLine) : DPut H a (kV k) v (upd H a (.dK (putK kvs k v))) := .inl ⟨kvs, k, e, rfl, hl, rfl⟩
theorem DPut.t {H : Hp} {a b : Addr} {kvs : List (List Key × V)} {k : List Key} {v : V} (e : H a = some (.dT kvs)) (eb : H b = some (.tup (k.map kV))) (hl : kvs.length < sizeLine) :
    DPut H a (.ref b) v (upd H a (.dT (putK kvs k v))) := .inr ⟨kvs, k, b, e, rfl, eb, hl, rfl⟩


section
variable {X : Cx} {pins : List (Addr × Obj)} {σ : St} {H : Hp} {s : Shared} {a : Addr} {y v : V} {u r : Value} {o : Option V} {A : Around} {E : Value → Shared → Prop}

theorem Inv.big (I : Inv X pins σ H s) : sysModules < s.heap.objs.size := by
  have h : mainGlobals < s.heap.objs.size := (I.mod.glob.keeps I.bk).lt
  exact Nat.lt_trans (by decide) h

/-- d[y], there -/
theorem d_getItem {Q : Value → Shared → Prop} (hu : A.units + 1 < cLine) (I : Inv X pins σ H s) (g : DGet H a y (some v)) (ry : RelV y u) (h : ∀ w' s', Inv X pins σ H s' → RelV v w' → Q w' s') :
    wpAny (model X.prog X.w) A (getItem (.ref a) u) Q E s := by
  rcases g with ⟨kvs, k, e, ey, l⟩ | ⟨kvs, k, b, e, ey, eb, l⟩
  · subst ey
    obtain ⟨z, hd, vs, rel, dd⟩ := dk_rd I.hok e
    obtain ⟨w', hw, rw'⟩ := RelO.some_of (v := v) (o := valueAt vs k) (by rw [l]; exact rel.val k)
    exact wpAny_getItem_of (kV_is ry) dd.mapOf hw (h w' _ (I.tok _) rw')
  · subst ey
    cases (show u = Value.ref b from ry)
    obtain ⟨z, hd, xs, rel, dd⟩ := dt_rd I.hok e
    obtain ⟨w', hw, rw'⟩ := RelO.some_of (v := v) (o := (atKey xs k).map (·.2)) (by rw [l]; exact rel.val k)
    obtain ⟨p, hp, hp2⟩ := Option.map_eq_some_iff.mp hw
    refine wpAny_getItem_heap (tupleKind_room_in1 hu) (key_of I.hok eb) dd hp ?_
    rw [hp2]
    exact h w' _ (I.tok _) rw'
/-- y in d -/
theorem d_in {Q : Value → Shared → Prop} (hu : A.units + 1 < cLine) (I : Inv X pins σ H s) (g : DGet H a y o) (ry : RelV y u) (h : ∀ s', Inv X pins σ H s' → Q (.bool o.isSome) s') :
    wpAny (model X.prog X.w) A (compareOp .In u (.ref a)) Q E s := by
  rcases g with ⟨kvs, k, e, ey, l⟩ | ⟨kvs, k, b, e, ey, eb, l⟩
  · subst ey
    obtain ⟨z, hd, vs, rel, dd⟩ := dk_rd I.hok e
    refine wpAny_in_of (kV_is ry) hd dd.mapOf ?_
    rw [← (rel.val k).isSome_eq, ← l]
    exact h _ (I.tok _)
  · subst ey
    cases (show u = Value.ref b from ry)
    obtain ⟨z, hd, xs, rel, dd⟩ := dt_rd I.hok e
    refine wpAny_in_heap (tupleKind_room_in1 hu) (key_of I.hok eb) hd dd ?_
    have q := (rel.val k).isSome_eq
    rw [Option.isSome_map] at q
    rw [← q, ← l]
    exact h _ (I.tok _)
theorem d_notIn {Q : Value → Shared → Prop} (hu : A.units + 1 < cLine) (I : Inv X pins σ H s) (g : DGet H a y o) (ry : RelV y u) (h : ∀ s', Inv X pins σ H s' → Q (.bool (!o.isSome)) s') :
    wpAny (model X.prog X.w) A (compareOp .NotIn u (.ref a)) Q E s := by
  rcases g with ⟨kvs, k, e, ey, l⟩ | ⟨kvs, k, b, e, ey, eb, l⟩
  · subst ey
    obtain ⟨z, hd, vs, rel, dd⟩ := dk_rd I.hok e
    refine wpAny_notIn_of (kV_is ry) hd dd.mapOf ?_
    rw [← (rel.val k).isSome_eq, ← l]
    exact h _ (I.tok _)
  · subst ey
    cases (show u = Value.ref b from ry)
    obtain ⟨z, hd, xs, rel, dd⟩ := dt_rd I.hok e
    refine wpAny_notIn_heap (tupleKind_room_in1 hu) (key_of I.hok eb) hd dd ?_
    have q := (rel.val k).isSome_eq
    rw [Option.isSome_map] at q
    rw [← q, ← l]
    exact h _ (I.tok _)
/-- a dict's object is replaced -/
theorem d_write {h' : Heap} {t' : Nat} {ob : HO} (I : Inv X pins σ H s) (mu : Mut (H a)) (hs : Heap.SameBut a s.heap h') (he : ∃ q, h'.get? a = some q) (new : ObjOk X.prog X.w (upd H a ob) h' a ob) :
    Inv X pins σ (upd H a ob) { s with heap := h', toks := t' } :=
  I.write (x := a) (e := a) mu (.inl rfl) (fun b q hb z => (hs.2 b hb).trans z) he new
theorem dk_new {P : Program} {w : World} {H' : Hp} {h' : Heap} {kvs : List (Key × V)} {vs : List (Key × Value)} (z : kvs.length ≤ sizeLine) (hd : (a == sysModules) = false) (rel : KV kvs vs) (dd : h'.DictOf (mixKind P w) a vs) :
    ObjOk P w H' h' a (.dK kvs) := ⟨z, hd, vs, rel, dd⟩
end

section
variable {X : Cx} {pins : List (Addr × Obj)} {σ : St} {H : Hp} {s : Shared} {a : Addr} {kvs : List (Key × V)} {k : Key} {u : Value} {A : Around} {E : Value → Shared → Prop}
/-- len(d) -/
theorem d_len {Q : Value → Shared → Prop} (I : Inv X pins σ H s) (e : Rd H a (.dK kvs)) (h : ∀ t s', Inv X pins σ H s' → Q (.int kvs.length t) s') : wpAny (model X.prog X.w) A (call (.builtin "len") [.ref a]) Q E s := by
  obtain ⟨z, hd, vs, rel, dd⟩ := dk_rd I.hok e
  refine call_len_dict hd dd (by rw [← rel.length]; rw [sizeLine_eq] at z; omega) ?_
  rw [← rel.length]
  exact h _ _ (I.tok _)
end


/-! ### readings and rules -/
/-- the element of a subscription, not a slice -/
def NoSl (i : Expr) : Prop := ∀ ov iv, subscripted i false ov iv = operate [ov, iv] (getItem ov iv)
theorem subD_of {prog : Program} {w : World} {A : Around} {E : Value → Shared → Prop} {s : Shared} {env : Env} {value slice : Expr} {pos : Pos} {T id : String} {Q : Value → Shared → Prop}
    (hl : typeLookup (.type T) "__getitem__" = pure (some (.builtin id))) (hs : NoSl slice)
    (h : wpAny (model prog w) A (eval value env) (fun o s₁ => wpAny (model prog w) A (eval slice env) (fun i s₂ => s₂.TypeIs o T ∧ wpAny (model prog w) A (getItem o i) Q E s₂) E s₁) E s) :
    wpAny (model prog w) A (eval (.Subscript value slice pos) env) Q E s := by
  refine Subscript_ (wpAny_mono h (fun o s₁ h₁ => wpAny_mono h₁ (fun i s₂ h₂ => ?_) fun _ _ x => x) fun _ _ x => x)
  obtain ⟨hT, h₂⟩ := h₂
  unfold subscriptTail
  refine wpAny_bind ?_
  rw [getitemInPython_of_ne hT.not_modules]
  refine wpAny_bind (wpAny_specialOf hT hl ?_)
  have fin : wpAny (model prog w) A (subscripted slice false o i) (fun r s₃ => wpAny (model prog w) A (letTemporaryGo value o r >>= fun _ => pure r) Q E s₃) E s₂ := by
    rw [hs o i]
    exact wpAny_operating (wpAny_mono h₂ (fun r s₃ h₃ => wpAny_bind (wpAny_letTemporaryGo (wpAny_pure h₃))) fun _ _ x => x)
  first
    | exact wpAny_pure (wpAny_bind fin)
    | exact wpAny_bind (wpAny_pure (wpAny_bind fin))
    | exact wpAny_bind fin

theorem dict_typeIs {X : Cx} {pins : List (Addr × Obj)} {σ : St} {H : Hp} {s : Shared} {a : Addr} {y : V} {o : Option V} (I : Inv X pins σ H s) (g : DGet H a y o) : s.TypeIs (.ref a) "dict" := by
  rcases g with ⟨kvs, k, e, _, _⟩ | ⟨kvs, k, b, e, _, _, _⟩
  · obtain ⟨_, _, vs, _, dd⟩ := dk_rd I.hok e
    exact dd.typeIs
  · obtain ⟨_, _, xs, _, dd⟩ := dt_rd I.hok e
    exact dd.typeIs
/-- d[y] -/
def tDGet (td ty : TE) : TE := fun σ H Q => td σ H fun x H1 => ty σ H1 fun y H2 => ∃ a v, x = .ref a ∧ DGet H2 a y (some v) ∧ Q v H2
section
variable {X : Cx} {o i e value : Expr} {pos pos' tpos : Pos} {td ty tv : TE}
theorem pe_dget (hu : X.A.units + 1 < cLine) (ho : PE X o td) (hi : PE X i ty) (hs : NoSl i) : PE X (.Subscript o i pos) (tDGet td ty) := by
  intro pins s σ H Q I h
  refine subD_of PySem.F.slot_dict_getitem.lookup hs (thn (ho pins s σ H _ I h) fun u s1 ⟨x, H1, I1, rx, q1⟩ => thn (hi pins s1 σ H1 _ I1 q1) fun iv s2 ⟨y, H2, I2, ry, a, v, ex, g, q2⟩ => ?_)
  subst ex
  obtain rfl : u = Value.ref a := rx
  exact ⟨dict_typeIs I2 g, d_getItem hu I2 g ry fun w' s3 I3 rw' => ⟨v, H2, I3, rw', q2⟩⟩
end


/-! ### displays -/
theorem dk_empty {P : Program} {w : World} {H : Hp} (h : Heap) (hb : sysModules < h.objs.size) : ObjOk P w H (h.push { cls := .type "dict", data := .dict #[] }) h.objs.size (.dK []) :=
  ⟨Nat.zero_le _, beq_eq_false_iff_ne.mpr (Ne.symm (Nat.ne_of_lt hb)), [], .nil, Heap.DictOf.new h⟩
/-- {}, to be a dict of the kind that is wanted -/
def tDNewK : TE := fun _ H Q => ∀ p, H p = none → Q (.ref p) (upd H p (.dK []))
section
variable {X : Cx} {pos : Pos}
theorem pe_dnewK : PE X (.Dict [] [] pos) tDNewK := fun pins s σ H Q I h =>
  wpAny_Dict_empty ⟨.ref s.heap.objs.size, _, I.laid (a := s.heap.objs.size) (o := .dK []) (t' := s.toks) (fun _ _ q => Heap.get?_push_of_some _ q) (Nat.le_refl _) (dk_empty s.heap I.big), rfl, h _ (I.hok.fresh (Nat.le_refl _))⟩
end

/-- the pairs of a display, from the left -/
def tPairs : List (TE × TE) → St → Hp → (List (V × V) → Hp → Prop) → Prop
  | [], _, H, Q => Q [] H
  | (tk, tv) :: r, σ, H, Q => tk σ H fun x H1 => tv σ H1 fun y H2 => tPairs r σ H2 fun ps H3 => Q ((x, y) :: ps) H3
abbrev VV : List (V × V) → List (Value × Value) → Prop := Paired fun p q => RelV p.1 q.1 ∧ RelV p.2 q.2
def PPs (X : Cx) (pos : Pos) (keys : List (Option Expr)) (values : List Expr) (trs : List (TE × TE)) : Prop :=
  ∀ (pins : List (Addr × Obj)) (s : Shared) (σ : St) (H : Hp) (Q : List (V × V) → Hp → Prop), Inv X pins σ H s → tPairs trs σ H Q →
    wpAny (model X.prog X.w) X.A (evalPairs (pairTrees keys values X.env pos)) (fun vs s' => ∃ ps H', Inv X pins σ H' s' ∧ VV ps vs ∧ Q ps H') X.xe s
theorem pps_nil {X : Cx} {pos : Pos} : PPs X pos [] [] [] := fun pins s σ H Q I h => pairTrees_nil_walk ⟨[], H, I, .nil, h⟩
theorem pps_cons {X : Cx} {pos : Pos} {k v : Expr} {ks : List (Option Expr)} {vs : List Expr} {tk tv : TE} {trs : List (TE × TE)} (hk : PE X k tk) (hv : PE X v tv) (hr : PPs X pos ks vs trs) :
    PPs X pos (some k :: ks) (v :: vs) ((tk, tv) :: trs) := fun pins s σ H Q I h =>
  pairTrees_cons_walk (thn (hk pins s σ H _ I h) fun u s1 ⟨x, H1, I1, rx, q1⟩ => thn (hv pins s1 σ H1 _ I1 q1) fun w2 s2 ⟨y, H2, I2, ry, q2⟩ =>
    thn (hr pins s2 σ H2 _ I2 q2) fun ws s3 ⟨ps, H3, I3, rel, q3⟩ => ⟨(x, y) :: ps, H3, I3, .cons ⟨rx, ry⟩ rel, q3⟩)

def mergeK (kvs more : List (Key × V)) : List (Key × V) := more.foldl (fun acc kv => putK acc kv.1 kv.2) kvs
theorem KV.merge : ∀ {more : List (Key × V)} {rs : List (Key × Value)} {kvs : List (Key × V)} {vs : List (Key × Value)}, KV more rs → KV kvs vs → KV (mergeK kvs more) (merged vs rs) := by
  intro more rs kvs vs r
  unfold KV at r
  induction r generalizing kvs vs with
  | nil => intro q; exact q
  | @cons p q ps qs h t ih =>
    intro r0
    have e : KV (putK kvs p.1 p.2) (stored vs q.1 q.2) := by
      have := r0.put p.1 h.2
      rw [← h.1]; exact this
    exact ih e
theorem length_mergeK : ∀ (more kvs : List (Key × V)), (mergeK kvs more).length ≤ kvs.length + more.length
  | [], kvs => by show kvs.length ≤ kvs.length + 0; omega
  | p :: r, kvs => by
    have h1 := length_mergeK r (putK kvs p.1 p.2)
    have h2 := length_putK kvs p.1 p.2
    show (mergeK (putK kvs p.1 p.2) r).length ≤ _
    rw [List.length_cons]; omega
theorem carries_of {P : Program} {w : World} : ∀ {kvs : List (Key × V)} {ws : List (Value × Value)}, VV (kvs.map fun kv => (kV kv.1, kv.2)) ws → ∃ rs, Carries (mixKind P w) ws rs ∧ KV kvs rs
  | [], _, r => by rw [List.map_nil] at r; cases r; exact ⟨[], True.intro, .nil⟩
  | p :: kvs, _, r => by
    rw [List.map_cons] at r
    cases r with
    | @cons a b as bs h t =>
      obtain ⟨rs, c, q⟩ := carries_of (P := P) (w := w) t
      obtain ⟨b1, b2⟩ := b
      exact ⟨(p.1, b2) :: rs, ⟨kV_is h.1, rfl, c⟩, .cons ⟨rfl, h.2⟩ q⟩
/-- {k: v, ..} with keys ints and texts; the new dict stands empty while the pairs are made -/
def tDisp (trs : List (TE × TE)) : TE := fun σ H Q => ∀ p, H p = none → tPairs trs σ (upd H p (.dK [])) fun ps H2 => H2 p = some (.dK []) ∧ ∃ kvs : List (Key × V), ps = kvs.map (fun kv => (kV kv.1, kv.2)) ∧ kvs.length ≤ 15 ∧ Q (.ref p) (upd H2 p (.dK (mergeK [] kvs)))
theorem pe_disp {X : Cx} {pos : Pos} {keys : List (Option Expr)} {values : List Expr} {trs : List (TE × TE)} (h : PPs X pos keys values trs) (hall : keys.all (·.isSome) = true) (hl : keys.length = values.length) (h0 : keys ≠ [])
    (h15 : keys.length ≤ 15) : PE X (.Dict keys values pos) (tDisp trs) := by
  intro pins s σ H Q I q
  have hn := I.hok.fresh (Nat.le_refl s.heap.objs.size)
  have I1 := I.laid (a := s.heap.objs.size) (o := .dK []) (h' := s.heap.push { cls := .type "dict", data := .dict #[] }) (t' := s.toks) (fun _ _ q => Heap.get?_push_of_some _ q) (Nat.le_refl _) (dk_empty s.heap I.big)
  refine wpAny_Dict_walk (knd := mixKind X.prog X.w) hall hl h0 h15 (thn (h pins _ σ _ _ I1 (q _ hn)) fun ws s2 ⟨ps, H2, I2, rel, e, kvs, ep, lk, q2⟩ => ?_)
  subst ep
  obtain ⟨rs, c, rk⟩ := carries_of (P := X.prog) (w := X.w) rel
  obtain ⟨z, hd, vs0, r0, dd⟩ := dk_of I2.hok e
  cases r0
  refine ⟨rs, c, dd, fun h' dd' hs => ⟨.ref s.heap.objs.size, _, ?_, rfl, q2⟩⟩
  have hz : (mergeK [] kvs).length ≤ sizeLine := by
    have h1 := length_mergeK kvs []
    rw [List.length_nil] at h1
    rw [sizeLine_eq]; omega
  have he : ∃ q, h'.get? s.heap.objs.size = some q := let ⟨q, _, _, hq, _⟩ := dd'; ⟨q, hq⟩
  exact d_write I2 (by rw [e]; exact True.intro) hs he (dk_new hz hd (rk.merge .nil) dd')


/-! ### methods -/
/-- a method call o.m(e) of a built-in, with one argument: what must be seen of the text -/
structure M1 (X : Cx) (o : Expr) (m : Str) (apos : Pos) (e : Expr) (cpos : Pos) : Prop where
  base : attributeBase o m X.env (eval o X.env) = eval o X.env
  few : ((backTo cpos (starEach [e] X.env)).all (fun x => !x.1) && (backToKw cpos (keywordEach [] X.env)).all (fun x => x.1.isSome)
    && decide (([e] : List Expr).length + ([] : List Keyword).length + (if ([] : List Keyword).isEmpty then 0 else 1) < 30)) = true
  line : (apos.endLine == cpos.line) = true
  trees : backTo cpos (starEach [e] X.env) = [(false, eval e X.env)]
structure M2 (X : Cx) (o : Expr) (m : Str) (apos : Pos) (e f : Expr) (cpos : Pos) : Prop where
  base : attributeBase o m X.env (eval o X.env) = eval o X.env
  few : ((backTo cpos (starEach [e, f] X.env)).all (fun x => !x.1) && (backToKw cpos (keywordEach [] X.env)).all (fun x => x.1.isSome)
    && decide (([e, f] : List Expr).length + ([] : List Keyword).length + (if ([] : List Keyword).isEmpty then 0 else 1) < 30)) = true
  line : (apos.endLine == cpos.line) = true
  trees : backTo cpos (starEach [e, f] X.env) = [(false, eval e X.env), (false, eval f X.env)]

section
variable {X : Cx} {pins : List (Addr × Obj)} {σ : St} {H : Hp} {s : Shared} {a : Addr} {y d : V} {u r : Value} {o : Option V} {A : Around} {E : Value → Shared → Prop}
end

section
variable {X : Cx} {o e f : Expr} {apos cpos : Pos} {td ty tx : TE}
end

/-! ### dict(d): a copy -/
section
variable {X : Cx} {pins : List (Addr × Obj)} {σ : St} {H : Hp} {s : Shared} {a : Addr} {kvs : List (Key × V)} {A : Around} {E : Value → Shared → Prop}
end


section
variable {X : Cx} {pins : List (Addr × Obj)} {σ : St} {H : Hp} {s : Shared} {a : Addr} {y : V} {u : Value} {A : Around} {E : Value → Shared → Prop}
end
end L2


namespace Att
open PySem PySem.W PySem.Calls PyProof.Rows

/-! ### the script -/
theorem ints_of_wellAll {P : Params} {h : Heap} : ∀ (ns : List Int) (vs : List Value), WellAll P h vs (ns.map WData.int) → IntsAre vs ns := by
  intro ns
  induction ns with
  | nil =>
    intro vs w
    rw [List.map_nil] at w
    cases w
    exact .nil
  | cons n ns ih =>
    intro vs w
    rw [List.map_cons] at w
    cases w with
    | cons a b =>
      cases a
      exact .cons _ _ (ih _ b)

theorem script_of {l : OpenLaw} {n : Nat} (hn : l.most = some n) {P : Params} {h : Heap} {args : List WData} {vals : List Value}
    (hpre : l.row.toRowW.claim.pre args = true) (hwl : WellAll P h vals args) :
    ∃ a vs ns, vals = [Value.ref a] ∧ args = [WData.list (ns.map WData.int)] ∧ h.get? a = some { cls := .type "list", data := .seq vs.toArray } ∧ IntsAre vs ns ∧ ns.length ≤ n := by
  have hsh : WShape.hasAll [] args [.list .int] = true := (pre_splitW hpre).1
  have hc : l.pre.holds [] { args := args } = true := (pre_splitW hpre).2
  obtain ⟨d, r, rfl, h1, h2⟩ := hasAllW_cons hsh
  obtain rfl := hasAllW_nil h2
  obtain ⟨xs, rfl, h3⟩ := hasW_list h1
  obtain ⟨ns, rfl⟩ := items_int h3
  have hlen : ns.length ≤ n := by
    unfold OpenLaw.pre at hc
    have h4 : (WTm.not (.lt (.lit (.int (n : Int))) (.len (.arg 0)))).holds [] { args := [.list (ns.map .int)] } = true := by
      have h4 := (holds_andW hc).1
      rw [hn] at h4
      exact h4
    have h5 := condW_of h4 (w_not (w_lt w_lit (w_len_list (w_arg rfl))))
    rw [List.length_map] at h5
    refine Nat.le_of_not_lt fun q => ?_
    have q' : (n : Int) < ((ns.length : Nat) : Int) := by omega
    first
      | (rw [decide_eq_true q'] at h5; exact absurd h5 (by decide))
      | (simp at h5; omega)
  cases hwl with
  | cons w1 w2 =>
    cases w2
    cases w1 with
    | list ho hall => exact ⟨_, _, ns, rfl, rfl, ho, ints_of_wellAll ns _ hall, hlen⟩

theorem post_true (l : OpenLaw) (args : List WData) : l.row.toRowW.claim.post args (.bool true) args = true :=
  postW_of (r := l.row.toRowW) (X := (true == true))
    (show WShape.has [] (.bool true) .bool = true by first | rfl | decide | simp [WShape.has, WShape.arms, WShape.armsAll])
    (show (WTm.eq .res (.lit (.bool true))).value [] { args := args, res := some (.bool true), after := args } = some (.bool (true == true)) from w_eq_bool (w_res rfl) w_lit) rfl

/-! ### the attachment: holds_open's last premise (the goal 'hc' behind k_head) from a wpAny of the law's body -/
/-- the same from a codeAny of the CALL (for a layer whose function contracts speak of calls) -/
theorem attach_call {l : OpenLaw} {n : Nat} {q : Program} {loose : List Str} {XP : (Str → Option Value) → Heap → Prop} {YP : World → Heap → Prop} {d : DefRec}
    (hn : l.most = some n) (hdf : d.params.defaults = [])
    (call : ∀ (w : World) (s₀ s₁ : Shared) (mg mb : Str → Option Value) (fa : Addr) (o : Obj) (pm cd doc : Value) (a : Addr) (vs : List Value) (ns : List Int),
      Ground q loose [] XP w s₀ mg mb s₁.heap → YP w s₁.heap →
      s₁.heap.get? fa = some o → o.data = .func (docDef d.name d.params d.body d.scope pm cd doc) → s₁.heap.CodeRec cd d.name → mg d.name = some (.ref fa) →
      s₁.heap.get? a = some { cls := .type "list", data := .seq vs.toArray } → IntsAre vs ns → ns.length ≤ n → s₁.gens = #[] →
      codeAny (model l.prog w) callerA (.call (.ref fa) ⟨[.ref a], []⟩) (fun r s' => r = .ok (.ret (.bool true)) ∧ OldK s₁.heap s'.heap ∧ s'.os = s₁.os ∧ AllBare s'.gens) s₁) :
    WalkO q loose XP YP l.row.toRowW d [] (fun f vs => PySem.call f vs) := by
  intro w s₀ s₁ mg mb G Y fa o pm cd doc dV kV ho hd hcd hD hmg hg args vals as hpre hlay hrd hwl hlo
  obtain rfl : dV = .none := Dflts.none hD hdf
  obtain rfl : kV = .none := Dflts.noKw hD
  obtain ⟨a, vs, ns, rfl, rfl, hobj, hints, hlen⟩ := script_of hn hpre hwl
  refine enter_call (codeAny_mono (call w s₀ s₁ mg mb fa o pm cd doc a vs ns G Y ho (fd_plain hd) hcd hmg hobj hints hlen hg) fun r s' hq => ?_)
  obtain ⟨rfl, h2, h3, h4⟩ := hq
  exact ⟨.inl ⟨.bool true, .bool true, [], rfl, fun _ => rfl, .bool true, post_true l _, fun _ => ⟨List.Pairwise.nil, fun _ hm => (nomatch hm)⟩⟩, h2, h3, h4⟩

/-! ### rules over ANY heap (no ledger) from facts about the written part K: the library's own take a ledger (News) for what they write -/
section
variable {prog : Program} {w : World} {A : Around} {E : Value → Shared → Prop} {s : Shared} {K : Frag}

/-! the whole heap as the ledger: makes every rule that writes through a ledger a rule over any heap -/
def ledger (h : Heap) (L d : Addr) : List (Addr × Obj) := (List.range h.objs.size).filterMap fun a => if a = L ∨ a = d then none else (h.get? a).map fun o => (a, o)
end
end Att

namespace L2
open PySem PySem.Spec PyProof.Rows

theorem vals_ints : ∀ {vs : List Value} {ns : List Int}, IntsAre vs ns → Vals (ns.map V.int) vs
  | _, _, .nil => .nil
  | _, _, .cons n t h => .cons ⟨t, rfl⟩ (vals_ints h)

/-- nothing is tracked but the script, known to the object (or it is an object of the module) -/
def Only (H : Hp) : Prop := ∀ b, H b = none ∨ ∃ o xs, H b = some (.frz o (.lst xs))

/-- THE HEAD: the law's promise, at the heap behind the top. F, the promise of the law's def, may use that base is part of the heap (so K.In base, base.Ns mainGlobals mg stand in Mod) -/
theorem law_call {P : Program} {w : World} {K : PySem.W.Frag} {mg mb : Str → Option Value} {CX : CXT} {k : Nat} {fa a : Addr} {fd : FuncData} {x : Str} {sp : Sp} {s₁ : Shared} {vs : List Value} {ns : List Int}
    (KX : K.In s₁.heap) (hns : s₁.heap.Ns mainGlobals mg) (hb : s₁.heap.Ns builtinsNs mb) (hbb : ∀ x : Str, x ≠ "__name__" → mb x = bootBuiltins x) (hlim : s₁.heap.NoLimit) (hg : s₁.gens = #[])
    (ha : s₁.heap.get? a = some { cls := .type "list", data := .seq vs.toArray }) (hi : IntsAre vs ns) (hl : ns.length ≤ sizeLine) (hr : Room k callerA)
    (F : ∀ base : Heap, K.In base → base.Ns mainGlobals mg → FnOk P w K mg base CX k fa fd [x] sp) (hbind : ∀ (s : Shared) (u : Value), BindsTo s fd ⟨[u], []⟩ [(x, u)])
    (hsp : ∀ H : Hp, Only H → SqL K H a (ns.map V.int) → sp [.ref a] H (fun v _ => v = .bl true) fun _ _ _ => False)
    (hCX : ∀ H e s', CX [] H s₁ (fun _ _ _ => False) e s' → False) :
    codeAny (model P w) callerA (.call (.ref fa) ⟨[.ref a], []⟩) (fun r s' => r = .ok (.ret (.bool true)) ∧ OldK s₁.heap s'.heap ∧ s'.os = s₁.os ∧ AllBare s'.gens) s₁ := by
  have rv := vals_ints hi
  have lenV := hi.length
  -- from an abstract heap in which nothing but the script may be tracked
  have core : ∀ H : Hp, Only H → SqL K H a (ns.map V.int) → HOk P w H s₁.heap → (∀ b, H b ≠ none → b = a) → (H a ≠ none → K.lookup a = none) →
      codeAny (model P w) callerA (.call (.ref fa) ⟨[.ref a], []⟩) (fun r s' => r = .ok (.ret (.bool true)) ∧ OldK s₁.heap s'.heap ∧ s'.os = s₁.os ∧ AllBare s'.gens) s₁ := by
    intro H hO hS hok hA hK
    have base_of : ∀ {b : Addr} {o : Obj}, s₁.heap.get? b = some o → H b = none → (hidT s₁.heap H).get? b = some o := fun e n => hidT_get e n
    have noA : ∀ {b : Addr} {o : Obj} {es : Array DictEntry} {ep : Nat}, s₁.heap.get? b = some o → o.data = .dict es ep → H b = none := fun {b o es ep} e d => by
      cases q : H b with
      | none => rfl
      | some u =>
        have e' : b = a := hA b (by rw [q]; simp)
        subst e'
        rw [ha] at e; cases e
        have d' : Data.seq vs.toArray _ = Data.dict es ep := d
        cases d'
    have nsK : ∀ {b : Addr} {m : Str → Option Value}, s₁.heap.Ns b m → (hidT s₁.heap H).Ns b m := fun {b m} ⟨o, es, ep, e, d, r⟩ => ⟨o, es, ep, base_of e (noA e d), d, r⟩
    have hKb : K.In (hidT s₁.heap H) := fun b o e => base_of (KX b o e) (by
      cases q : H b with
      | none => rfl
      | some u =>
        have e' : b = a := hA b (by rw [q]; simp)
        subst e'
        rw [hK (by rw [q]; simp)] at e; cases e)
    have hM : Mod K mg (hidT s₁.heap H) := ⟨hKb, nsK hns, ⟨mb, nsK hb, hbb⟩, let ⟨mc, h1, h2⟩ := hlim; ⟨mc, nsK h1, h2⟩⟩
    have e0 : Env0 P w K mg (hidT s₁.heap H) callerA [] s₁ H := ⟨rfl, hM, fun b o e => of_hidT e, Nat.le_of_eq (hidT_size _ _), trivial, fun b hb => absurd (show b ∈ ([] : List Addr) from hb) (by simp), hok, .of_eq hg⟩
    refine codeAny_mono ((F _ hKb (nsK hns)).run callerA [] s₁ H ⟨[.ref a], []⟩ [.ref a] [.ref a] _ _ hr (fun _ => rfl) e0 (hbind s₁ (.ref a)) (.cons rfl .nil) (hsp H hO hS)) fun r s' h => ?_
    cases r with
    | error e => exact (hCX H e s' h).elim
    | ok fl =>
      cases fl with
      | next => exact False.elim h
      | brk => exact False.elim h
      | cont => exact False.elim h
      | ret u =>
        obtain ⟨v, H', os, bare, un, hok', r', q⟩ := h
        have q' : v = .bl true := q
        subst q'
        obtain rfl : u = Value.bool true := r'
        refine ⟨rfl, OldK.of_keep fun b o e => ?_, os, bare⟩
        cases q : H b with
        | none => exact un.keep b o e q (by intro z; exact absurd (show b ∈ ([] : List Addr) from z) (by simp)) (by simp)
        | some u =>
          rcases hO b with z | ⟨ob, xs, z⟩
          · rw [q] at z; cases z
          · have z2 := un.frzs b ob _ z
            obtain ⟨e1, _⟩ := hok b _ z
            obtain ⟨e2, _⟩ := hok' b _ z2
            rw [e] at e1; cases e1
            exact e2
  cases hk : K.lookup a with
  | some o =>
    -- the script is one of the module's own objects
    have e := KX a o hk
    rw [ha] at e
    cases e
    refine core (fun _ => none) (fun _ => .inl rfl) (.inr ⟨_, vs.toArray, _, hk, rfl, rfl, rfl, by rw [List.size_toArray, lenV]; exact hl, by simpa using rv⟩) (fun b u z => by have z' : (none : Option HO) = some u := z; cases z') (fun b z => absurd rfl z) fun z => absurd rfl z
  | none =>
    refine core (fun b => if b = a then some (.frz { cls := .type "list", data := .seq vs.toArray } (.lst (ns.map V.int))) else none) (fun b => ?_) (.inl (.inr ⟨{ cls := .type "list", data := .seq vs.toArray }, if_pos rfl⟩)) (fun b u z => ?_) (fun b z => ?_) fun _ => hk
    · by_cases hb : b = a
      · exact .inr ⟨_, _, if_pos hb⟩
      · exact .inl (if_neg hb)
    · by_cases hb : b = a
      · have z' := (if_pos hb).symm.trans z
        cases z'
        subst hb
        exact ⟨ha, by rw [List.length_map]; exact hl, vs, _, rv, ha⟩
      · have z' := (if_neg hb).symm.trans z
        cases z'
    · by_cases hb : b = a
      · exact hb
      · exact absurd (if_neg hb) z
end L2

namespace L2
open PySem PySem.Spec PyProof.Rows

abbrev KOf {K : PySem.W.Frag} {h : Heap} (_ : K.In h) : PySem.W.Frag := K

/-- the goal that k_head leaves (case hc), from the law's promise. F gives the function object fd (K's own) once, then the promise over every base -/
theorem walk_of {l : PySem.W.OpenLaw} {n k : Nat} {q : Program} {loose : List Str} {XP : (Str → Option Value) → Heap → Prop} {YP : World → Heap → Prop} {d : DefRec} {K : Params → PySem.W.Frag} {CX : World → CXT} {sp : World → Sp} {x : Str}
    (hn : l.most = some n) (hn2 : n ≤ sizeLine) (hdf : d.params.defaults = []) (hr : Room k callerA)
    (hY : ∀ (w : World) (h : Heap), YP w h → (K w.params).In h)
    (F : ∀ (w : World) (mg : Str → Option Value) (fa : Addr) (h : Heap), (K w.params).In h → h.Ns mainGlobals mg → mg d.name = some (.ref fa) →
      ∃ fd : FuncData, (∀ (s : Shared) (u : Value), BindsTo s fd ⟨[u], []⟩ [(x, u)]) ∧
        ∀ base : Heap, (K w.params).In base → base.Ns mainGlobals mg → FnOk l.prog w (K w.params) mg base (CX w) k fa fd [x] (sp w))
    (hsp : ∀ (w : World) (H : Hp) (a : Addr) (ns : List Int), ns.length ≤ n → Only H → SqL (K w.params) H a (ns.map V.int) → sp w [.ref a] H (fun v _ => v = .bl true) fun _ _ _ => False)
    (hCX : ∀ (w : World) (H : Hp) (s : Shared) (e : Value) (s' : Shared), CX w [] H s (fun _ _ _ => False) e s' → False) :
    PySem.W.WalkO q loose XP YP l.row.toRowW d [] (fun f vs => PySem.call f vs) := by
  refine Att.attach_call hn hdf fun w s₀ s₁ mg mb fa o pm cd doc a vs ns G Y ho hd hcd hmg hobj hints hlen hg => ?_
  have KX := hY w _ Y
  obtain ⟨fd, hb, hF⟩ := F w mg fa _ KX G.T.g hmg
  exact law_call KX G.T.g G.T.b G.T.builtins G.T.nolimit hg hobj hints (Nat.le_trans hlen hn2) hr hF hb (fun H hO hS => hsp w H a ns hlen hO hS) fun H e s' => hCX w H s₁ e s'
end L2

/- THE LAST THEOREM (shape; LID, My.* are yours):
   My.Adr: a structure of the addresses that your layer names (classes, functions); My.Txt K t: a structure (Prop) of the equations over K;
   My.txt_mk : {K} {implicit addresses ..} (e1 : nsIn K mainGlobals "law" = some (some (.ref f))) (e2 : K.lookup f = some ⟨oc, od, .func (fnOf "law" "law" params body scope dV kV doc pm an cdv ct), sl⟩) (e3 : codeIn K cdv "law" = true) .. : ∃ t, My.Txt K t

set_option maxRecDepth 100000 in
set_option maxHeartbeats 0 in
theorem PySem.Challenge.cw_LID_holds : PySem.Challenge.rw_LID.Holds := by
  w_on; o_law; k_head; (case hw => w_witness2)
  k_fill
  refine L2.walk_of (l := PySem.Challenge.rw_LID) (n := 63) (k := 40) (x := "script") (CX := fun w => ..) (sp := fun _ => My.sp_law) rfl (by decide) rfl ⟨rfl, by decide, by decide⟩ (fun w h Y => PySem.W.kIn_of Y) ?F ?S ?C
  case F =>
    intro w mg fa h KX G hmg
    have T : ∃ t, My.Txt (L2.KOf KX) t := by
      dsimp only [L2.KOf]                          -- K must stand as «<heap const> w.params» for k_is
      refine' My.txt_mk ?e1 ?e2 ?e3 ..
      (case e1 => PySem.W.k_is)                    -- in the order: a name -> its address -> its object -> its parts
      (case e2 => PySem.W.k_is)
      ..
    obtain ⟨t, T⟩ := T
    have e0 := hmg.symm.trans (PySem.W.mg_of KX G T.law)
    cases e0                                       -- fa is the law's own address
    exact ⟨_, fun s u => .of_eq rfl, fun base kb nb => My.law_fn T kb nb⟩     -- if «.of_eq rfl» comes too early: refine' ⟨_, ?b, fun base kb nb => My.law_fn T kb nb⟩; exact fun s u => .of_eq rfl
  case S => exact fun w H a ns hl hO hS => ..
  case C => exact ..
(the tactic k_is has no namespace: write k_is) -/

/-! SHORT WORDS over the layer: a def of the text, its body, what a loop and a test want. -/
namespace L2
open PySem PySem.Spec PyProof.Rows

/-! ### the text by places -/
/-- the j-th statement of a class's body -/
def inClass (s : Stmt) (j : Nat) : Stmt := match s with
  | .ClassDef _ _ _ body _ _ _ _ _ _ _ => body.getD j (.Pass ⟨0, 0, 0, 0⟩)
  | _ => .Pass ⟨0, 0, 0, 0⟩
def defArgs (s : Stmt) : Arguments := match s with
  | .FunctionDef _ a _ _ _ _ _ _ _ _ => a
  | _ => { posonlyargs := [], args := [], vararg := none, kwonlyargs := [], kw_defaults := [], kwarg := none, defaults := [] }
def defBody (s : Stmt) : List Stmt := match s with
  | .FunctionDef _ _ b _ _ _ _ _ _ _ => b
  | _ => []
def defScope (s : Stmt) : Scope := match s with
  | .FunctionDef _ _ _ _ _ _ sc _ _ _ => sc
  | _ => { kind := .function, names := [], isGenerator := false, isCoroutine := false }

/-! ### no exception leaves a def -/
abbrev CX0 : CXT := ⟨fun _ _ _ _ _ _ => False, true⟩
abbrev E0 : XK := fun _ _ _ => False
theorem pass0 {X : Cx} (hc : X.calm = true) : Passes CX0 X E0 := ⟨fun _ => hc, fun _ _ _ _ _ _ _ h => False.elim h⟩

/-! ### a def (or method) of the text as it stands behind the top -/
structure Fun (K : PySem.W.Frag) (x qual : Str) (st : Stmt) (f : Addr) (fd : FuncData) : Prop where
  ex : ∃ (oc : Value) (od : Option Addr) (kV doc pm : Value) (an : Option Addr) (cdv ct : Value) (osl : Array (Option Value)),
    fd = PySem.W.fnOf x qual (defArgs st) (defBody st) (defScope st) .none kV doc pm an cdv ct ∧ K.lookup f = some ⟨oc, od, .func fd, osl⟩ ∧ PySem.W.codeIn K cdv qual = true
  kp : PySem.W.keepIn K (.ref f) = true
section
variable {P : Program} {w : World} {K : PySem.W.Frag} {mg : Str → Option Value} {base : Heap}
/-- THE RULE for a def: its body as a term of rules, and the reading of that term -/
theorem Fun.ok {x qual : Str} {st : Stmt} {f : Addr} {fd : FuncData} {N ps : List Str} {k : Nat} {sp : Sp} (F : Fun K x qual st f fd) (S : FnScope N ps (defScope st)) (len : ∀ vs H Q E, sp vs H Q E → vs.length = ps.length)
    (hbody : ∀ (cdv : Value) (A : Around) (outer : List Env) (s : Shared) (H : Hp) (vs : List V) (Q : VK) (E : XK), Room k (A.deeper (envOfC qual (defScope st) s.heap.objs.size f cdv)) → sp vs H Q E →
      ∃ t, PSs (cxOf CX0 P w K mg base N qual (defScope st) f cdv A outer s H E).nox (defBody st) t ∧ t { nx := fun _ H' => Q .non H', rt := Q } (start N vs) H) : FnOk P w K mg base CX0 (k + 1) f fd ps sp := by
  obtain ⟨oc, od, kV, doc, pm, an, cdv, ct, osl, rfl, lk, hcd⟩ := F.ex
  refine fn_of lk hcd S len fun A outer s H vs Q E hr hsp => ?_
  obtain ⟨t, h, q⟩ := hbody cdv A outer s H vs Q E hr hsp
  exact ⟨t, h.nox, q⟩
/-- how its arguments bind (no defaults): h is «fun _ _ _ _ _ _ us hl => match us, hl with | [_, _], _ => rfl», one _ a parameter -/
theorem Fun.binds {x qual : Str} {st : Stmt} {f : Addr} {fd : FuncData} {ps : List Str} (F : Fun K x qual st f fd)
    (h : ∀ (kV doc pm : Value) (an : Option Addr) (cdv ct : Value) (us : List Value), us.length = ps.length → bindArgs (PySem.W.fnOf x qual (defArgs st) (defBody st) (defScope st) .none kV doc pm an cdv ct) ⟨us, []⟩ = pure (ps.zip us)) : Binds K fd ps [] := by
  obtain ⟨oc, od, kV, doc, pm, an, cdv, ct, osl, rfl, lk, hcd⟩ := F.ex
  exact .all (h kV doc pm an cdv ct)
theorem fun_mk {x qual : Str} {st : Stmt} {f : Addr} {oc : Value} {od an : Option Addr} {osl : Array (Option Value)} {kV doc pm cdv ct : Value} (l : K.lookup f = some ⟨oc, od, .func (PySem.W.fnOf x qual (defArgs st) (defBody st) (defScope st) .none kV doc pm an cdv ct), osl⟩)
    (c : PySem.W.codeIn K cdv qual = true) (k : PySem.W.keepIn K (.ref f) = true) : Fun K x qual st f (PySem.W.fnOf x qual (defArgs st) (defBody st) (defScope st) .none kV doc pm an cdv ct) := ⟨⟨oc, od, kV, doc, pm, an, cdv, ct, osl, rfl, l, c⟩, k⟩
end
theorem hu_of {A : Around} {k : Nat} (hr : Room k A) : A.units + 1 < cLine := Nat.lt_of_le_of_lt (Nat.add_le_add_left (by decide : 1 ≤ 64) _) hr.units
/-! ### expressions in short: the name that stands in the i-th slot -/
section
variable {X : Cx}
/-- len of a dict -/
theorem call_lenD : CallR X (.builtin "len") (fun xs H Q => ∃ a kvs, xs = [V.ref a] ∧ H a = some (.dK kvs) ∧ Q (.int kvs.length) H) := by
  intro pins s σ H xs us Q I r h
  obtain ⟨a, kvs, rfl, ha, q⟩ := h
  obtain ⟨u, rfl, ru⟩ := vals1 r
  cases ru
  exact d_len I (.inl ha) fun t s' I' => ⟨.int kvs.length, H, I', ⟨t, rfl⟩, q⟩
end

/-! ### tests -/
theorem iteF {A B : Prop} (h : B) : if false = true then A else B := by
  rw [if_neg Bool.false_ne_true]
  exact h
theorem iteT {A B : Prop} (h : A) : if true = true then A else B := by
  rw [if_pos rfl]
  exact h
/-! ### heaps -/
/-- all that was tracked is as it was -/
def Same (H H' : Hp) : Prop := ∀ b o, H b = some o → H' b = some o
theorem Same.refl (H : Hp) : Same H H := fun _ _ h => h
theorem Same.trans {H H1 H2 : Hp} (a : Same H H1) (b : Same H1 H2) : Same H H2 := fun c o h => b c o (a c o h)
theorem Same.free {H H' : Hp} (e : Same H H') {l : Addr} (h : H' l = Option.none) : H l = Option.none := by
  cases q : H l with
  | none => rfl
  | some o =>
    rw [e l o q] at h
    cases h
theorem Same.seq {K : PySem.W.Frag} {H H' : Hp} {a : Addr} {xs : List V} (e : Same H H') (h : SqL K H a xs) : SqL K H' a xs := by
  rcases h with (h | ⟨o, h⟩) | h
  · exact .inl (.inl (e _ _ h))
  · exact .inl (.inr ⟨o, e _ _ h⟩)
  · exact .inr h

/-! ### a dict's pairs: keys that differ -/
section
variable {κ : Type} [DecidableEq κ]
end
end L2

set_option Elab.async false
set_option linter.all false
set_option maxRecDepth 100000
namespace L2
open PySem PySem.Spec PyProof.Rows

/-! ## my own additions to the hand layer: A -/
theorem boot_ty_bool : bootBuiltins "bool" = some (.type "bool") := by decide +kernel
theorem boot_ty_str : bootBuiltins "str" = some (.type "str") := by decide +kernel
theorem boot_ty_ValueError : bootBuiltins "ValueError" = some (.type "ValueError") := by decide +kernel
theorem boot_b_len : bootBuiltins "len" = some (.builtin "len") := by decide +kernel
theorem boot_b_isinstance : bootBuiltins "isinstance" = some (.builtin "isinstance") := by decide +kernel
/-- a def of the top as the text has it -/
def DefAt (K : PySem.W.Frag) (mg : Str → Option Value) (x : Str) (st : Stmt) : Prop := ∃ f fd, Fun K x x st f fd ∧ mg x = some (.ref f)
/-- a def of the top with a promise -/
def FnAt (P : Program) (w : World) (K : PySem.W.Frag) (mg : Str → Option Value) (base : Heap) (CX : CXT) (k : Nat) (x : Str) (sp : Sp) : Prop :=
  ∃ f fd ps, FnOk P w K mg base CX k f fd ps sp ∧ mg x = some (.ref f) ∧ PySem.W.keepIn K (.ref f) = true ∧ Binds K fd ps []
/-- how a def's arguments bind -/
def BindsAll (x qual : Str) (st : Stmt) (ps : List Str) : Prop := ∀ (kV doc pm : Value) (an : Option Addr) (cdv ct : Value) (us : List Value), us.length = ps.length →
  bindArgs (PySem.W.fnOf x qual (defArgs st) (defBody st) (defScope st) .none kV doc pm an cdv ct) ⟨us, []⟩ = pure (ps.zip us)
section
variable {P : Program} {w : World} {K : PySem.W.Frag} {mg : Str → Option Value} {base : Heap}
theorem DefAt.ok {x : Str} {st : Stmt} {N ps : List Str} {k : Nat} {sp : Sp} (R : DefAt K mg x st) (S : FnScope N ps (defScope st)) (hb : BindsAll x x st ps) (len : ∀ vs H Q E, sp vs H Q E → vs.length = ps.length)
    (hbody : ∀ (f : Addr) (cdv : Value) (A : Around) (outer : List Env) (s : Shared) (H : Hp) (vs : List V) (Q : VK) (E : XK), Room k (A.deeper (envOfC x (defScope st) s.heap.objs.size f cdv)) → sp vs H Q E →
      ∃ t, PSs (cxOf CX0 P w K mg base N x (defScope st) f cdv A outer s H E).nox (defBody st) t ∧ t { nx := fun _ H' => Q .non H', rt := Q } (start N vs) H) : FnAt P w K mg base CX0 (k + 1) x sp := by
  obtain ⟨f, fd, F, hm⟩ := R
  exact ⟨f, fd, ps, F.ok S len (hbody f), hm, F.kp, F.binds hb⟩
theorem FnAt.mono {x : Str} {CX : CXT} {sp : Sp} {j k : Nat} (G : FnAt P w K mg base CX j x sp) (h : j ≤ k) : FnAt P w K mg base CX k x sp := by
  obtain ⟨f, fd, ps, F, r⟩ := G
  exact ⟨f, fd, ps, F.mono h, r⟩
theorem FnAt.imp {x : Str} {CX : CXT} {sp sp' : Sp} {k : Nat} (G : FnAt P w K mg base CX k x sp) (h : ∀ vs H Q E, sp' vs H Q E → sp vs H Q E) : FnAt P w K mg base CX k x sp' := by
  obtain ⟨f, fd, ps, F, r⟩ := G
  exact ⟨f, fd, ps, F.imp h, r⟩
end
section
variable {X : Cx} {CX : CXT} {k j : Nat} {sp : Sp} {E : XK} {x : Str} {p pos : Pos} {e : Expr} {es : List Expr} {t : TA}
theorem pe_fn (G : FnAt X.prog X.w X.K X.mg X.base CX k x sp) (hr : Room j X.A) (hkj : k ≤ j) (hg : Gl X x) (hx : Passes CX X E)
    (ha : PA X (e :: es) t) (hdb : (x == ("__debug__" : Str)) = false := by decide) (he : starEach (e :: es) X.env = (false, eval e X.env) :: starEach es X.env := by rfl) (hpl : (backTo pos (starEach es X.env)).any (·.1) = false := by rfl) :
    PE X (.Call (.Name x p) (e :: es) [] pos) (tCall sp [] E t) := by
  obtain ⟨f, fd, ps, F, hm, hk, hb⟩ := G
  exact pe_call F (hr.mono hkj) hg hm hk hb .nil hx ha hdb he hpl
/-- a constant of the top -/
def GC (mg : Str → Option Value) (x : Str) (v : V) : Prop := ∃ u, mg x = some u ∧ RelV v u
theorem pe_gc {v : V} (hg : Gl X x) (h : GC X.mg x v) (hd : (x == ("__debug__" : Str)) = false := by decide) : PE X (.Name x p) (tC v) := by
  obtain ⟨u, hm, r⟩ := h
  exact pe_glob hg hm r hd
/-- the name of a built-in type -/
theorem pe_ty (n : String) (hg : Gl X x) (hm : X.mg x = none) (hv : bootBuiltins x = some (.type n)) (hn : x ≠ "__name__" := by decide) (hd : (x == ("__debug__" : Str)) = false := by decide) : PE X (.Name x p) (tC (.ty n)) :=
  pe_bltn hg hm hv rfl hn hd
/-- two rules for one expression -/
theorem PE.or {t t' : TE} (h : PE X e t) (h' : PE X e t') : PE X e (fun σ H Q => t σ H Q ∨ t' σ H Q) := by
  intro pins s σ H Q I q
  rcases q with q | q
  · exact h pins s σ H Q I q
  · exact h' pins s σ H Q I q
/-- isinstance of one class -/
def clsV : V → Value → Prop
  | .ty n, c => c = .type n
  | .ref a, c => c = .ref a
  | _, _ => False
end

section
variable {K : PySem.W.Frag} {h : Heap} {mg : Str → Option Value}
theorem def_mk {x : Str} {st : Stmt} {f : Addr} {oc : Value} {od an : Option Addr} {osl : Array (Option Value)} {kV doc pm cdv ct : Value} (X : K.In h) (G : h.Ns mainGlobals mg) (a : PySem.W.nsIn K mainGlobals x = some (some (.ref f)))
    (l : K.lookup f = some ⟨oc, od, .func (PySem.W.fnOf x x (defArgs st) (defBody st) (defScope st) .none kV doc pm an cdv ct), osl⟩) (c : PySem.W.codeIn K cdv x = true) (k : PySem.W.keepIn K (.ref f) = true) : DefAt K mg x st :=
  ⟨f, _, fun_mk l c k, PySem.W.mg_of X G a⟩
theorem gc_mk {x : Str} {u : Value} {v : V} (X : K.In h) (G : h.Ns mainGlobals mg) (a : PySem.W.nsIn K mainGlobals x = some (some u)) (r : RelV v u) : GC mg x v := ⟨u, PySem.W.mg_of X G a, r⟩
theorem law_mk {P : Program} {w : World} {CX : CXT} {k : Nat} {sp : Sp} {st : Stmt} {fa : Addr} {x : Str} (R : DefAt K mg "law" st) (hmg : mg "law" = some (.ref fa)) (hb : BindsAll "law" "law" st [x])
    (F : ∀ (f : Addr) (fd : FuncData), Fun K "law" "law" st f fd → ∀ base : Heap, FnOk P w K mg base CX k f fd [x] sp) :
    ∃ fd : FuncData, (∀ (s : Shared) (u : Value), BindsTo s fd ⟨[u], []⟩ [(x, u)]) ∧ ∀ base : Heap, K.In base → base.Ns mainGlobals mg → FnOk P w K mg base CX k fa fd [x] sp := by
  obtain ⟨f, fd, F1, hm⟩ := R
  have e := hmg.symm.trans hm
  cases e
  refine ⟨fd, fun s u => ?_, fun base _ _ => F fa fd F1 base⟩
  obtain ⟨oc, od, kV, doc, pm, an, cdv, ct, osl, rfl, lk, hcd⟩ := F1.ex
  exact .of_eq (hb kV doc pm an cdv ct [u] rfl)
end
/-- law's promise: a list of at most 63 ints is handed in, True comes out -/
def sp_law (K : PySem.W.Frag) : Sp := fun vs H Q _ => ∃ (a : Addr) (ns : List Int), vs = [.ref a] ∧ SqL K H a (ns.map V.int) ∧ ns.length ≤ 63 ∧ Only H ∧ ∀ H', Q (.bl true) H'
theorem walk0 {l : PySem.W.OpenLaw} {k : Nat} {q : Program} {loose : List Str} {XP : (Str → Option Value) → Heap → Prop} {YP : World → Heap → Prop} {d : DefRec} {K : Params → PySem.W.Frag} {x : Str} (hn : l.most = some 63) (hdf : d.params.defaults = []) (hr : Room k callerA)
    (hY : ∀ (w : World) (h : Heap), YP w h → (K w.params).In h)
    (F : ∀ (w : World) (mg : Str → Option Value) (fa : Addr) (h : Heap), (K w.params).In h → h.Ns mainGlobals mg → mg d.name = some (.ref fa) →
      ∃ fd : FuncData, (∀ (s : Shared) (u : Value), BindsTo s fd ⟨[u], []⟩ [(x, u)]) ∧ ∀ base : Heap, (K w.params).In base → base.Ns mainGlobals mg → FnOk l.prog w (K w.params) mg base CX0 k fa fd [x] (sp_law (K w.params))) :
    PySem.W.WalkO q loose XP YP l.row.toRowW d [] (fun f vs => PySem.call f vs) :=
  walk_of (n := 63) (k := k) (x := x) (CX := fun _ => CX0) (sp := fun w => sp_law (K w.params)) hn (by decide) hdf hr hY F (fun _ H a ns hl hO hS => ⟨a, ns, rfl, hS, hl, hO, fun _ => rfl⟩) fun _ _ _ _ _ z => z
theorem Same.tup {K : PySem.W.Frag} {H H' : Hp} {a : Addr} {xs : List V} (e : Same H H') (h : SqT K H a xs) : SqT K H' a xs := by
  rcases h with (h | ⟨o, h⟩) | h
  · exact .inl (.inl (e _ _ h))
  · exact .inl (.inr ⟨o, e _ _ h⟩)
  · exact .inr h
theorem Same.new {H : Hp} {p : Addr} {o : HO} (h : H p = none) : Same H (upd H p o) := fun q u e => by rw [upd_ne (ne_of_none e h)]; exact e
end L2

set_option Elab.async false
set_option linter.all false
set_option maxRecDepth 100000
namespace L2
open PySem PySem.Spec PyProof.Rows
/-! ## B: readings that compute -/
def lstAt (H : Hp) (a : Addr) : Option (List V) := match H a with
  | some (.lst xs) => some xs
  | some (.frz _ (.lst xs)) => some xs
  | _ => none
def tupAt (H : Hp) (a : Addr) : Option (List V) := match H a with
  | some (.tup xs) => some xs
  | _ => none
theorem lstAt_rd {H : Hp} {a : Addr} {xs : List V} (h : lstAt H a = some xs) : Rd H a (.lst xs) := by
  unfold lstAt at h
  split at h
  · rename_i e; cases h; exact .inl e
  · rename_i e; cases h; exact .inr ⟨_, e⟩
  · cases h
theorem lstAt_sq {K : PySem.W.Frag} {H : Hp} {a : Addr} {xs : List V} (h : lstAt H a = some xs) : SqL K H a xs := .inl (lstAt_rd h)
theorem tupAt_eq {H : Hp} {a : Addr} {xs : List V} (h : tupAt H a = some xs) : H a = some (.tup xs) := by
  unfold tupAt at h
  split at h
  · rename_i e; cases h; exact e
  · cases h
theorem tupAt_sq {K : PySem.W.Frag} {H : Hp} {a : Addr} {xs : List V} (h : tupAt H a = some xs) : SqT K H a xs := .inl (.inl (tupAt_eq h))
theorem lstAt_of {H : Hp} {a : Addr} {xs : List V} (h : H a = some (.lst xs)) : lstAt H a = some xs := by unfold lstAt; rw [h]
theorem tupAt_of {H : Hp} {a : Addr} {xs : List V} (h : H a = some (.tup xs)) : tupAt H a = some xs := by unfold tupAt; rw [h]
theorem Same.lstAt {H H' : Hp} {a : Addr} {xs : List V} (e : Same H H') (h : L2.lstAt H a = some xs) : L2.lstAt H' a = some xs := by
  rcases lstAt_rd h with q | ⟨o, q⟩
  · exact lstAt_of (e _ _ q)
  · unfold L2.lstAt; rw [e _ _ q]
theorem Same.tupAt {H H' : Hp} {a : Addr} {xs : List V} (e : Same H H') (h : L2.tupAt H a = some xs) : L2.tupAt H' a = some xs := tupAt_of (e _ _ (tupAt_eq h))
def need {α : Type} (o : Option α) (k : α → Prop) : Prop := match o with
  | some a => k a
  | none => False
theorem need_ex {α : Type} {o : Option α} {k : α → Prop} (h : need o k) : ∃ a, o = some a ∧ k a := by
  cases o with
  | none => exact h.elim
  | some a => exact ⟨a, rfl, h⟩
/-- a list or a tuple that is read -/
def seqAt (H : Hp) (a : Addr) : Option (List V) := match H a with
  | some (.lst xs) => some xs
  | some (.frz _ (.lst xs)) => some xs
  | some (.tup xs) => some xs
  | _ => none
theorem seqAt_or {H : Hp} {a : Addr} {xs : List V} (h : seqAt H a = some xs) : lstAt H a = some xs ∨ tupAt H a = some xs := by
  unfold seqAt at h
  unfold lstAt tupAt
  split at h
  · rename_i e; cases h; left; rw [e]
  · rename_i e; cases h; left; rw [e]
  · rename_i e; cases h; right; rw [e]
  · cases h
def ixV : R2 := fun x y H Q => match x, y with
  | .ref p, .int i => need (seqAt H p) fun xs => need (atI xs i) fun v => Q v H
  | .str z, .int i => z.length ≤ sizeLine ∧ need (atI z.cps.toList i) fun c => Q (.str ⟨#[c]⟩) H
  | _, _ => False
section
variable {X : Cx} {a b c : Expr} {ta tb tc : TE} {pos : Pos}
theorem IxR.imp {r r' : R2} (h : IxR X r) (i : ∀ x y H Q, r' x y H Q → r x y H Q) : IxR X r' := fun value slice pins s σ H x y v u Q I rx ry q hs => h value slice pins s σ H x y v u Q I rx ry (i _ _ _ _ q) hs
theorem OpR.imp {f : Value → Value → Sem Value} {r r' : R2} (h : OpR X f r) (i : ∀ x y H Q, r' x y H Q → r x y H Q) : OpR X f r' := fun pins s σ H x y v u Q I rx ry q => h pins s σ H x y v u Q I rx ry (i _ _ _ _ q)
theorem CallR.imp {f : Value} {r r' : List V → Hp → VK → Prop} (h : CallR X f r) (i : ∀ xs H Q, r' xs H Q → r xs H Q) : CallR X f r' := fun pins s σ H xs us Q I rx q => h pins s σ H xs us Q I rx (i _ _ _ q)
theorem SlR.imp {r r' : V → Option Int → Option Int → Hp → VK → Prop} (h : SlR X r) (i : ∀ x l u H Q, r' x l u H Q → r x l u H Q) : SlR X r' := fun pins s σ H x v vl vu lo hi sl Q I rx h1 h2 h3 q => h pins s σ H x v vl vu lo hi sl Q I rx h1 h2 h3 (i _ _ _ _ _ q)
theorem ix_any : IxR X ixV := by
  refine (ix_seq (X := X)).imp fun x y H Q h => ?_
  unfold ixV at h
  split at h
  · rename_i p i
    obtain ⟨xs, e, h⟩ := need_ex h
    obtain ⟨v, e2, h⟩ := need_ex h
    rcases seqAt_or e with e | e
    · exact .inl ⟨p, xs, i, v, rfl, rfl, lstAt_sq e, e2, h⟩
    · exact .inr (.inl ⟨p, xs, i, v, rfl, rfl, tupAt_sq e, e2, h⟩)
  · rename_i z i
    obtain ⟨hz, h⟩ := h
    obtain ⟨c, e2, h⟩ := need_ex h
    exact .inr (.inr ⟨z, i, c, rfl, rfl, hz, e2, h⟩)
  · exact h.elim
theorem Inv.lstR {pins : List (Addr × Obj)} {s : Shared} {σ : St} {H : Hp} {l : Addr} {xs : List V} (I : Inv X pins σ H s) (hH : lstAt H l = some xs) :
    xs.length ≤ sizeLine ∧ ∃ (its : List Value) (n : Nat), Vals xs its ∧ xs.length = its.length ∧ s.heap.get? l = some { cls := .type "list", data := .seq its.toArray n } := by
  obtain ⟨z, its, n, r, e⟩ := (lstAt_rd hH).ok I.hok
  exact ⟨z, its, n, r, r.length, e⟩
def catV : R2 := fun x y H Q => match x, y with
  | .ref l, .ref b => need (lstAt H l) fun xs => need (lstAt H b) fun zs => xs.length + zs.length ≤ sizeLine ∧ ∀ p, H p = none → Q (.ref p) (upd H p (.lst (xs ++ zs)))
  | _, _ => False
theorem op_catV : OpR X (binaryOp .Add) catV := by
  intro pins s σ H x y v u Q I rx ry h
  unfold catV at h
  split at h
  · obtain ⟨xs, hH, h⟩ := need_ex h
    obtain ⟨zs, hB, hz, q⟩ := need_ex h
    cases rx
    cases ry
    obtain ⟨z, its, n, r, hl, e⟩ := I.lstR hH
    obtain ⟨z2, its2, n2, r2, hl2, e2⟩ := I.lstR hB
    refine PySem.P.add_list e e2 ?_ (by rw [List.size_toArray, List.size_toArray]; omega)
    have ea : its.toArray ++ its2.toArray = (its ++ its2).toArray := by simp
    rw [ea]
    exact ⟨.ref _, _, I.lnew (t' := s.toks) (r.append r2) (by rw [List.length_append]; omega), rfl, q _ I.fresh⟩
  · exact h.elim
/-- + of ints, texts, lists -/
def addV : R2 := fun x y H Q => match x, y with
  | .int i, .int j => Q (.int (i + j)) H
  | .str i, .str j => i.length + j.length ≤ sizeLine ∧ Q (.str (i ++ j)) H
  | .ref l, .ref b => catV (.ref l) (.ref b) H Q
  | _, _ => False
theorem op_addV : OpR X (binaryOp .Add) addV := by
  refine ((op_add (X := X)).or ((op_add_str (X := X)).or (op_catV (X := X)))).imp fun x y H Q h => ?_
  unfold addV at h
  split at h
  · exact .inl ⟨_, _, rfl, rfl, h⟩
  · exact .inr (.inl ⟨_, _, rfl, rfl, h.1, h.2⟩)
  · exact .inr (.inr h)
  · exact h.elim
/-- a list's slice -/
def slL : V → Option Int → Option Int → Hp → VK → Prop := fun x lo hi H Q => match x with
  | .ref a => need (lstAt H a) fun xs => ∀ p, H p = none → Q (.ref p) (upd H p (.lst (cutV xs lo hi)))
  | _ => False
theorem sl_lstV : SlR X slL := by
  refine (sl_list (X := X)).imp fun x l u H Q h => ?_
  unfold slL at h
  split at h
  · obtain ⟨xs, e, h⟩ := need_ex h
    exact ⟨_, xs, rfl, lstAt_sq e, h⟩
  · exact h.elim
/-- len -/
def lenV : List V → Hp → VK → Prop := fun xs H Q => match xs with
  | [.str z] => z.length ≤ sizeLine ∧ Q (.int z.length) H
  | [.ref p] => (match H p with
    | some (.dK kvs) => Q (.int kvs.length) H
    | _ => need (seqAt H p) fun ys => Q (.int ys.length) H)
  | _ => False
theorem call_lenV : CallR X (.builtin "len") lenV := by
  refine ((call_len (X := X)).or (call_lenD (X := X))).imp fun xs H Q h => ?_
  unfold lenV at h
  split at h
  · exact .inl ⟨_, _, rfl, ⟨h.1, rfl⟩, h.2⟩
  · rename_i p
    split at h
    · rename_i e
      exact .inr ⟨p, _, rfl, e, h⟩
    · obtain ⟨ys, e, h⟩ := need_ex h
      rcases seqAt_or e with e | e
      · exact .inl ⟨_, _, rfl, .inl ⟨ys, lstAt_sq e, rfl⟩, h⟩
      · exact .inl ⟨_, _, rfl, .inr ⟨ys, tupAt_sq e, rfl⟩, h⟩
  · exact h.elim
end
end L2

set_option Elab.async false
set_option linter.all false
set_option maxRecDepth 100000
set_option maxHeartbeats 1000000
namespace L2
open PySem PySem.Spec PyProof.Rows
/-! ## C: list comprehensions -/
/-- what a block asks of the names, by a look at the text -/
def compOk (osc : Scope) (N own fr : List Str) (ix : List Nat) (scope : Scope) : Bool :=
  scope.kind == .function && scope.names.all (fun y => y.2 != .cell) && scope.names.all (fun y => y.2 != .local || scope.names.lookup y.1 == some .local) &&
  scope.names.all (fun y => y.2 != .free || osc.names.lookup y.1 == some .cell) && own.all (fun x => scope.names.lookup x == some .local) && fr.all (fun x => scope.names.lookup x == some .free) && decide (ix.map (fun j => N[j]?) = fr.map some) && decide ((own ++ fr).Nodup) && own.all (fun x => scope.names.all fun y => y.2 != .free || decide (y.1 ≠ x))
structure CompScope (osc : Scope) (N own fr : List Str) (ix : List Nat) (scope : Scope) : Prop where
  kind : scope.kind = .function
  nocell : ∀ y ∈ scope.names, y.2 ≠ .cell
  loc : ∀ y ∈ scope.names, y.2 = .local → scope.names.lookup y.1 = some .local
  free : ∀ y ∈ scope.names, y.2 = .free → osc.names.lookup y.1 = some .cell
  ow : ∀ x ∈ own, scope.names.lookup x = some .local
  fe : ∀ x ∈ fr, scope.names.lookup x = some .free
  ic : ix.map (fun j => N[j]?) = fr.map some
  nd : (own ++ fr).Nodup
  lf : ∀ x ∈ own, ∀ y ∈ scope.names, y.2 = .free → y.1 ≠ x
theorem compOk.of {osc : Scope} {N own fr : List Str} {ix : List Nat} {scope : Scope} (h : compOk osc N own fr ix scope = true) : CompScope osc N own fr ix scope := by
  unfold compOk at h
  simp only [Bool.and_eq_true, decide_eq_true_eq] at h
  obtain ⟨⟨⟨⟨⟨⟨⟨⟨h1, h2⟩, h3⟩, h4⟩, h5⟩, h6⟩, h7⟩, h8⟩, h9⟩ := h
  refine ⟨?_, fun y hy e => ?_, fun y hy e => ?_, fun y hy e => ?_, fun x hx => ?_, fun x hx => ?_, h7, h8, fun x hx y hy e => ?_⟩
  · revert h1; cases scope.kind <;> first | (intro _; rfl) | (intro z; cases z)
  · have := List.all_eq_true.mp h2 y hy
    rw [e] at this
    exact absurd this (by decide)
  · have := List.all_eq_true.mp h3 y hy
    rw [e] at this
    have q : (scope.names.lookup y.1 == some NameKind.local) = true := by simpa using this
    exact eq_of_beq q
  · have := List.all_eq_true.mp h4 y hy
    rw [e] at this
    have q : (osc.names.lookup y.1 == some NameKind.cell) = true := by simpa using this
    exact eq_of_beq q
  · exact eq_of_beq (List.all_eq_true.mp h5 x hx)
  · exact eq_of_beq (List.all_eq_true.mp h6 x hx)
  · have := List.all_eq_true.mp (List.all_eq_true.mp h9 x hx) y hy
    rw [e] at this
    simpa using this

section
variable {X : Cx} {pins : List (Addr × Obj)} {σ : St} {H H' : Hp} {s : Shared} {own fr : List Str} {ix : List Nat} {scope : Scope} {fp : List Addr} {osc : Scope} {N : List Str}
end
end L2

set_option Elab.async false
set_option linter.all false
set_option maxRecDepth 100000
set_option maxHeartbeats 1000000
namespace L2
open PySem PySem.Spec PyProof.Rows
/-- the second knows at least what the first knows -/
def leS : St → St → Prop
  | [], [] => True
  | none :: a, _ :: b => leS a b
  | some x :: a, y :: b => y = some x ∧ leS a b
  | _, _ => False
theorem leS.len : ∀ {a b : St}, leS a b → a.length = b.length
  | [], [], _ => rfl
  | none :: a, _ :: b, h => by have := leS.len (a := a) (b := b) h; simp [this]
  | some x :: a, y :: b, h => by have := leS.len (a := a) (b := b) h.2; simp [this]
  | [], _ :: _, h => h.elim
  | none :: _, [], h => h.elim
  | some _ :: _, [], h => h.elim
theorem leS.get : ∀ {a b : St} {i : Nat} {v : V}, leS a b → a[i]? = some (some v) → b[i]? = some (some v)
  | [], [], _, _, _, e => by simp at e
  | none :: a, _ :: b, 0, _, _, e => by simp at e
  | none :: a, _ :: b, i + 1, v, h, e => by
    have := leS.get (a := a) (b := b) (i := i) (v := v) h (by simpa using e)
    simpa using this
  | some x :: a, y :: b, 0, v, h, e => by
    simp at e; subst e
    simpa using h.1
  | some x :: a, y :: b, i + 1, v, h, e => by
    have := leS.get (a := a) (b := b) (i := i) (v := v) h.2 (by simpa using e)
    simpa using this
  | [], _ :: _, _, _, h, _ => h.elim
  | none :: _, [], _, _, h, _ => h.elim
  | some _ :: _, [], _, _, h, _ => h.elim
section
variable {X : Cx} {pins : List (Addr × Obj)} {σ σ' : St} {H : Hp} {s : Shared}
/-- a comprehension's tests -/
def PCs (X : Cx) (ifs : List Expr) (t : TT) : Prop :=
  ∀ (pins : List (Addr × Obj)) (s : Shared) (σ : St) (H : Hp) (Q : Bool → Hp → Prop), Inv X pins σ H s → t σ H Q →
    wpAny (model X.prog X.w) X.A (forIn ifs true fun c r => if r = true then do let ok ← isTrue c X.env (eval c X.env); pure (ForInStep.yield ok) else pure (ForInStep.yield r)) (TP X pins σ Q) X.xe s
end

section
variable {X : Cx} {osc : Scope} {N own fr : List Str} {ix : List Nat} {scope : Scope} {tg iter elt : Expr} {ifs : List Expr} {pos : Pos} {wi : TI} {g : TG} {tt : TT} {te : TE}
end
end L2

set_option Elab.async false
set_option linter.all false
set_option maxRecDepth 100000
set_option maxHeartbeats 1000000
namespace L2
open PySem PySem.Spec PyProof.Rows
section
variable {K : PySem.W.Frag} {a acc : Addr} {xs : List V} {σ0 : St} {g : TG} {tt : TT} {te : TE} {Q : Hp → Prop} {H H0 : Hp}
end
theorem atI_get' {α : Type} {l : List α} {i : Int} (h0 : 0 ≤ i) : atI l i = l[i.toNat]? := by
  unfold atI ixN
  rw [if_pos h0]
  by_cases h : i < l.length
  · rw [if_pos h]; rfl
  · rw [if_neg h]
    have : l.length ≤ i.toNat := by omega
    simp [List.getElem?_eq_none this]
theorem atI_0 {α : Type} {a : α} {l : List α} : atI (a :: l) 0 = some a := by rw [atI_get' (by decide)]; rfl
theorem atI_1 {α : Type} {a b : α} {l : List α} : atI (a :: b :: l) 1 = some b := by rw [atI_get' (by decide)]; rfl
theorem atI_2 {α : Type} {a b c : α} {l : List α} : atI (a :: b :: c :: l) 2 = some c := by rw [atI_get' (by decide)]; rfl
theorem atI_3 {α : Type} {a b c d : α} {l : List α} : atI (a :: b :: c :: d :: l) 3 = some d := by rw [atI_get' (by decide)]; rfl
theorem seqAt_lst {H : Hp} {a : Addr} {xs : List V} (h : H a = some (.lst xs)) : seqAt H a = some xs := by unfold seqAt; rw [h]
theorem seqAt_tup {H : Hp} {a : Addr} {xs : List V} (h : H a = some (.tup xs)) : seqAt H a = some xs := by unfold seqAt; rw [h]
end L2

set_option Elab.async false
set_option linter.all false
set_option maxRecDepth 100000
set_option maxHeartbeats 1000000
namespace L2
open PySem PySem.Spec PyProof.Rows
/-! ## F: == and != of nested lists and tuples -/
def allF (f : V → V → Option Bool) : List V → List V → Option Bool
  | x :: xs, y :: ys => match f x y, allF f xs ys with
    | some a, some b => some (a && b)
    | _, _ => none
  | _, _ => some true
def eAt (f : V → V → Option Bool) (xs ys : List V) (j : Nat) : Bool := match xs[j]?, ys[j]? with
  | some x, some y => (f x y).getD false
  | _, _ => true
theorem allF_spec {f : V → V → Option Bool} : ∀ {xs ys : List V} {b : Bool}, allF f xs ys = some b →
    (∀ (j : Nat) x y, xs[j]? = some x → ys[j]? = some y → f x y = some (eAt f xs ys j)) ∧ b = (List.range (min xs.length ys.length)).all (eAt f xs ys)
  | [], ys, b, h => by
    cases h
    exact ⟨fun j x y e _ => by simp at e, by simp⟩
  | x :: xs, [], b, h => by
    cases h
    exact ⟨fun j x y _ e => by simp at e, by simp⟩
  | x :: xs, y :: ys, b, h => by
    unfold allF at h
    cases e1 : f x y with
    | none => rw [e1] at h; cases h
    | some a =>
      cases e2 : allF f xs ys with
      | none => rw [e1, e2] at h; cases h
      | some c =>
        rw [e1, e2] at h
        cases h
        obtain ⟨h1, h2⟩ := allF_spec e2
        refine ⟨fun j x' y' ex ey => ?_, ?_⟩
        · cases j with
          | zero =>
            simp at ex ey
            subst ex ey
            simp [eAt, e1]
          | succ j =>
            have := h1 j x' y' (by simpa using ex) (by simpa using ey)
            rw [this]
            simp [eAt]
        · have em : min (x :: xs).length (y :: ys).length = min xs.length ys.length + 1 := by simp
          rw [em, List.range_succ_eq_map, List.all_cons, List.all_map, h2]
          have e0 : eAt f (x :: xs) (y :: ys) 0 = a := by simp [eAt, e1]
          have e3 : (eAt f (x :: xs) (y :: ys) ∘ Nat.succ) = eAt f xs ys := by
            funext j
            simp [eAt]
          rw [e0, e3]
def eqF (H : Hp) : Nat → V → V → Option Bool
  | 0, x, y => if (flatV x && flatV y) = true then some (eqV x y) else none
  | n + 1, x, y => if (flatV x && flatV y) = true then some (eqV x y) else match x, y with
    | .ref a, .ref b => (match lstAt H a, lstAt H b with
      | some xs, some ys => if xs.length = ys.length then allF (eqF H n) xs ys else some false
      | none, none => (match tupAt H a, tupAt H b with
        | some xs, some ys => (allF (eqF H n) xs ys).map (· && decide (xs.length = ys.length))
        | _, _ => none)
      | some _, none => if (tupAt H b).isSome = true then some false else none
      | none, some _ => if (tupAt H a).isSome = true then some false else none)
    | .ref a, y => if ((seqAt H a).isSome && flatV y) = true then some false else none
    | x, .ref b => if ((seqAt H b).isSome && flatV x) = true then some false else none
    | _, _ => none
theorem eqV_self {x : V} (h : flatV x = true) : eqV x x = true := by
  cases x <;> first | rfl | (simp [eqV]; done) | (simp [flatV] at h)
theorem allF_self {f : V → V → Option Bool} (hf : ∀ x b, f x x = some b → b = true) : ∀ {xs : List V} {b : Bool}, allF f xs xs = some b → b = true
  | [], b, h => by cases h; rfl
  | x :: xs, b, h => by
    unfold allF at h
    cases e1 : f x x with
    | none => rw [e1] at h; cases h
    | some a =>
      cases e2 : allF f xs xs with
      | none => rw [e1, e2] at h; cases h
      | some c =>
        rw [e1, e2] at h
        cases h
        rw [hf x a e1, allF_self hf e2]
        rfl
theorem eqF_self {H : Hp} : ∀ {n : Nat} {x : V} {b : Bool}, eqF H n x x = some b → b = true
  | 0, x, b, h => by
    unfold eqF at h
    split at h
    · rename_i hf
      cases h
      rw [Bool.and_self] at hf
      exact eqV_self hf
    · cases h
  | n + 1, x, b, h => by
    unfold eqF at h
    split at h
    · rename_i hf
      cases h
      rw [Bool.and_self] at hf
      exact eqV_self hf
    · rename_i hf
      cases x with
      | ref a =>
        simp only at h
        cases e1 : lstAt H a with
        | some xs =>
          rw [e1] at h
          simp only [if_true] at h
          exact allF_self (fun x b h => eqF_self h) h
        | none =>
          rw [e1] at h
          simp only at h
          cases e2 : tupAt H a with
          | some xs =>
            rw [e2] at h
            simp only [decide_true, Bool.and_true] at h
            cases e3 : allF (eqF H n) xs xs with
            | none => rw [e3] at h; cases h
            | some c =>
              rw [e3] at h
              cases h
              exact allF_self (fun x b h => eqF_self h) e3
          | none =>
            rw [e2] at h
            cases h
      | _ => first | (simp [flatV] at hf; done) | (simp only at h; cases h)
theorem rcAt_V {A : Around} {s : Shared} {y x : V} {u v : Value} (ry : RelV y u) (rx : RelV x v) (fy : flatV y = true) (fx : flatV x = true) : SeqAt.RcAt A s u v (eqV y x) := by
  cases y with
  | non =>
    cases ry
    cases x with
    | non => cases rx; exact SeqAt.RcAt.none_none
    | bl b => cases rx; exact SeqAt.RcAt.none_bool b
    | int b => obtain ⟨t, rfl⟩ := rx; exact SeqAt.RcAt.none_int b t
    | str b => obtain ⟨t, rfl⟩ := rx; exact SeqAt.RcAt.none_str b t
    | _ => exact absurd (show false = true from fx) Bool.false_ne_true
  | bl a =>
    cases ry
    cases x with
    | non => cases rx; exact SeqAt.RcAt.bool_none a
    | bl b => cases rx; exact SeqAt.RcAt.bool_bool a b
    | int b => obtain ⟨t, rfl⟩ := rx; exact SeqAt.RcAt.bool_int a b t
    | str b => obtain ⟨t, rfl⟩ := rx; exact SeqAt.RcAt.bool_str a b t
    | _ => exact absurd (show false = true from fx) Bool.false_ne_true
  | int a =>
    obtain ⟨t', rfl⟩ := ry
    cases x with
    | non => cases rx; exact SeqAt.RcAt.int_none a t'
    | bl b => cases rx; exact SeqAt.RcAt.int_bool a t' b
    | int b => obtain ⟨t, rfl⟩ := rx; exact SeqAt.RcAt.int_int a t' b t
    | str b => obtain ⟨t, rfl⟩ := rx; exact SeqAt.RcAt.int_str a t' b t
    | _ => exact absurd (show false = true from fx) Bool.false_ne_true
  | str a =>
    obtain ⟨t', rfl⟩ := ry
    cases x with
    | non => cases rx; exact SeqAt.RcAt.str_none a t'
    | bl b => cases rx; exact SeqAt.RcAt.str_bool a t' b
    | int b => obtain ⟨t, rfl⟩ := rx; exact SeqAt.RcAt.str_int a t' b t
    | str b => obtain ⟨t, rfl⟩ := rx; exact SeqAt.RcAt.str_str a t' b t
    | _ => exact absurd (show false = true from fx) Bool.false_ne_true
  | _ => exact absurd (show false = true from fy) Bool.false_ne_true
theorem rnAt_V {A : Around} {s : Shared} {y x : V} {u v : Value} (ry : RelV y u) (rx : RelV x v) (fy : flatV y = true) (fx : flatV x = true) : SeqAt.RcNeAt A s u v (!eqV y x) := by
  cases y with
  | non =>
    cases ry
    cases x with
    | non => cases rx; exact SeqAt.RcNeAt.none_none
    | bl b => cases rx; exact SeqAt.RcNeAt.none_bool b
    | int b => obtain ⟨t, rfl⟩ := rx; exact SeqAt.RcNeAt.none_int b t
    | str b => obtain ⟨t, rfl⟩ := rx; exact SeqAt.RcNeAt.none_str b t
    | _ => exact absurd (show false = true from fx) Bool.false_ne_true
  | bl a =>
    cases ry
    cases x with
    | non => cases rx; exact SeqAt.RcNeAt.bool_none a
    | bl b => cases rx; exact SeqAt.RcNeAt.bool_bool a b
    | int b => obtain ⟨t, rfl⟩ := rx; exact SeqAt.RcNeAt.bool_int a b t
    | str b => obtain ⟨t, rfl⟩ := rx; exact SeqAt.RcNeAt.bool_str a b t
    | _ => exact absurd (show false = true from fx) Bool.false_ne_true
  | int a =>
    obtain ⟨t', rfl⟩ := ry
    cases x with
    | non => cases rx; exact SeqAt.RcNeAt.int_none a t'
    | bl b => cases rx; exact SeqAt.RcNeAt.int_bool a t' b
    | int b => obtain ⟨t, rfl⟩ := rx; exact SeqAt.RcNeAt.int_int a t' b t
    | str b => obtain ⟨t, rfl⟩ := rx; exact SeqAt.RcNeAt.int_str a t' b t
    | _ => exact absurd (show false = true from fx) Bool.false_ne_true
  | str a =>
    obtain ⟨t', rfl⟩ := ry
    cases x with
    | non => cases rx; exact SeqAt.RcNeAt.str_none a t'
    | bl b => cases rx; exact SeqAt.RcNeAt.str_bool a t' b
    | int b => obtain ⟨t, rfl⟩ := rx; exact SeqAt.RcNeAt.str_int a t' b t
    | str b => obtain ⟨t, rfl⟩ := rx; exact SeqAt.RcNeAt.str_str a t' b t
    | _ => exact absurd (show false = true from fx) Bool.false_ne_true
  | _ => exact absurd (show false = true from fy) Bool.false_ne_true

structure EqOk (A : Around) (s : Shared) (u v : Value) (b : Bool) : Prop where
  rc : SeqAt.RcAt A s u v b
  rn : SeqAt.RcNeAt A s u v (!b)
  eq : SeqAt.EqAt A s u v b
theorem EqOk.flat {A : Around} {s : Shared} {y x : V} {u v : Value} (ry : RelV y u) (rx : RelV x v) (fy : flatV y = true) (fx : flatV x = true) : EqOk A s u v (eqV y x) := ⟨rcAt_V ry rx fy fx, rnAt_V ry rx fy fx, eqAt_V ry rx fy fx⟩
theorem EqOk.list_flat {A : Around} {s : Shared} {l : Addr} {items : Array Value} {x : V} {v : Value} (hl : s.heap.IsList l items) (hu : A.units < cLine) (rx : RelV x v) (fx : flatV x = true) : EqOk A s (.ref l) v false := by
  cases x with
  | non => cases rx; exact ⟨SeqAt.RcAt.list_none hl hu, SeqAt.RcNeAt.list_none hl hu, SeqAt.EqAt.list_none hl hu⟩
  | bl b => cases rx; exact ⟨SeqAt.RcAt.list_bool b hl hu, SeqAt.RcNeAt.list_bool b hl hu, SeqAt.EqAt.list_bool b hl hu⟩
  | int b => obtain ⟨t, rfl⟩ := rx; exact ⟨SeqAt.RcAt.list_int b t hl hu, SeqAt.RcNeAt.list_int b t hl hu, SeqAt.EqAt.list_int b t hl hu⟩
  | str b => obtain ⟨t, rfl⟩ := rx; exact ⟨SeqAt.RcAt.list_str b t hl hu, SeqAt.RcNeAt.list_str b t hl hu, SeqAt.EqAt.list_str b t hl hu⟩
  | _ => exact absurd (show false = true from fx) Bool.false_ne_true
theorem EqOk.flat_list {A : Around} {s : Shared} {l : Addr} {items : Array Value} {x : V} {v : Value} (hl : s.heap.IsList l items) (hu : A.units < cLine) (rx : RelV x v) (fx : flatV x = true) : EqOk A s v (.ref l) false := by
  cases x with
  | non => cases rx; exact ⟨SeqAt.RcAt.none_list hl hu, SeqAt.RcNeAt.none_list hl hu, SeqAt.EqAt.none_list hl hu⟩
  | bl b => cases rx; exact ⟨SeqAt.RcAt.bool_list b hl hu, SeqAt.RcNeAt.bool_list b hl hu, SeqAt.EqAt.bool_list b hl hu⟩
  | int b => obtain ⟨t, rfl⟩ := rx; exact ⟨SeqAt.RcAt.int_list b t hl hu, SeqAt.RcNeAt.int_list b t hl hu, SeqAt.EqAt.int_list b t hl hu⟩
  | str b => obtain ⟨t, rfl⟩ := rx; exact ⟨SeqAt.RcAt.str_list b t hl hu, SeqAt.RcNeAt.str_list b t hl hu, SeqAt.EqAt.str_list b t hl hu⟩
  | _ => exact absurd (show false = true from fx) Bool.false_ne_true
theorem EqOk.tuple_flat {A : Around} {s : Shared} {l : Addr} {items : Array Value} {x : V} {v : Value} (hl : s.heap.IsTuple l items) (hu : A.units < cLine) (rx : RelV x v) (fx : flatV x = true) : EqOk A s (.ref l) v false := by
  cases x with
  | non => cases rx; exact ⟨SeqAt.RcAt.tuple_none hl hu, SeqAt.RcNeAt.tuple_none hl hu, SeqAt.EqAt.tuple_none hl hu⟩
  | bl b => cases rx; exact ⟨SeqAt.RcAt.tuple_bool b hl hu, SeqAt.RcNeAt.tuple_bool b hl hu, SeqAt.EqAt.tuple_bool b hl hu⟩
  | int b => obtain ⟨t, rfl⟩ := rx; exact ⟨SeqAt.RcAt.tuple_int b t hl hu, SeqAt.RcNeAt.tuple_int b t hl hu, SeqAt.EqAt.tuple_int b t hl hu⟩
  | str b => obtain ⟨t, rfl⟩ := rx; exact ⟨SeqAt.RcAt.tuple_str b t hl hu, SeqAt.RcNeAt.tuple_str b t hl hu, SeqAt.EqAt.tuple_str b t hl hu⟩
  | _ => exact absurd (show false = true from fx) Bool.false_ne_true
theorem EqOk.flat_tuple {A : Around} {s : Shared} {l : Addr} {items : Array Value} {x : V} {v : Value} (hl : s.heap.IsTuple l items) (hu : A.units < cLine) (rx : RelV x v) (fx : flatV x = true) : EqOk A s v (.ref l) false := by
  cases x with
  | non => cases rx; exact ⟨SeqAt.RcAt.none_tuple hl hu, SeqAt.RcNeAt.none_tuple hl hu, SeqAt.EqAt.none_tuple hl hu⟩
  | bl b => cases rx; exact ⟨SeqAt.RcAt.bool_tuple b hl hu, SeqAt.RcNeAt.bool_tuple b hl hu, SeqAt.EqAt.bool_tuple b hl hu⟩
  | int b => obtain ⟨t, rfl⟩ := rx; exact ⟨SeqAt.RcAt.int_tuple b t hl hu, SeqAt.RcNeAt.int_tuple b t hl hu, SeqAt.EqAt.int_tuple b t hl hu⟩
  | str b => obtain ⟨t, rfl⟩ := rx; exact ⟨SeqAt.RcAt.str_tuple b t hl hu, SeqAt.RcNeAt.str_tuple b t hl hu, SeqAt.EqAt.str_tuple b t hl hu⟩
  | _ => exact absurd (show false = true from fx) Bool.false_ne_true

theorem IsTup.isTuple {h : Heap} {a : Addr} {items : Array Value} (x : IsTup h a items) : h.IsTuple a items := let ⟨o, ho, hc, n, hd⟩ := x; ⟨o, ho, hc, n, hd⟩
section
variable {X : Cx} {pins : List (Addr × Obj)} {σ : St} {H : Hp} {s : Shared}
theorem Vals.at {xs : List V} {us : List Value} (r : Vals xs us) {j : Nat} (h : j < us.toArray.size) : ∃ x, xs[j]? = some x ∧ RelV x us.toArray[j] := by
  have hl := r.length
  have hj : j < us.length := by simpa using h
  have hx : j < xs.length := by omega
  obtain ⟨u, e, q⟩ := r.get (i := j) (x := xs[j]) (by simp [hx])
  refine ⟨xs[j], by simp [hx], ?_⟩
  have : us.toArray[j] = u := by
    rw [List.getElem_toArray]
    rw [List.getElem?_eq_getElem hj] at e
    exact Option.some.inj e
  rw [this]
  exact q
theorem eqF_ok (I : Inv X pins σ H s) : ∀ (n : Nat) (A : Around) {x y : V} {u v : Value} {b : Bool}, A.units + n < cLine → eqF H n x y = some b → RelV x u → RelV y v → EqOk A s u v b
  | 0, A, x, y, u, v, b, hu, h, rx, ry => by
    unfold eqF at h
    split at h
    · rename_i hf
      cases h
      rw [Bool.and_eq_true] at hf
      exact .flat rx ry hf.1 hf.2
    · cases h
  | n + 1, A, x, y, u, v, b, hu, h, rx, ry => by
    have ih := fun {x y u v b} => eqF_ok I n A.in1 (x := x) (y := y) (u := u) (v := v) (b := b) (by show A.units + 1 + n < cLine; omega)
    have hu0 : A.units < cLine := by omega
    have h0 := h
    unfold eqF at h
    split at h
    · rename_i hf
      cases h
      rw [Bool.and_eq_true] at hf
      exact .flat rx ry hf.1 hf.2
    · split at h
      · rename_i p q _
        cases rx
        cases ry
        have fin : SeqAt.RcAt A s (.ref p) (.ref q) b → SeqAt.RcNeAt A s (.ref p) (.ref q) (!b) → EqOk A s (.ref p) (.ref q) b := fun h1 h2 => by
          refine ⟨h1, h2, ?_⟩
          by_cases e : p = q
          · subst e
            rw [eqF_self h0]
            exact SeqAt.EqAt.same _
          · exact SeqAt.EqAt.of_refs e h1
        split at h
        · rename_i xs ys e1 e2
          obtain ⟨its, r1, p1, z1⟩ := I.list (lstAt_sq (K := X.K) e1)
          obtain ⟨its2, r2, p2, z2⟩ := I.list (lstAt_sq (K := X.K) e2)
          have l1 := r1.length
          have l2 := r2.length
          split at h
          · rename_i el
            obtain ⟨s1, s2⟩ := allF_spec h
            have hsz : its.toArray.size = its2.toArray.size := by simp; omega
            have hm : min xs.length ys.length = its.toArray.size := by simp; omega
            have he : ∀ j (h1 : j < its.toArray.size) (h2 : j < its2.toArray.size), SeqAt.EqAt A.in1 s its.toArray[j] its2.toArray[j] (eAt (eqF H n) xs ys j) := fun j h1 h2 => by
              obtain ⟨x', ex, qx⟩ := r1.at h1
              obtain ⟨y', ey, qy⟩ := r2.at h2
              exact (ih (s1 j x' y' ex ey) qx qy).eq
            rw [hm] at s2
            subst s2
            exact fin (SeqAt.RcAt.lists p1.isList p2.isList hsz hu0 he) (SeqAt.RcNeAt.lists p1.isList p2.isList hsz hu0 he)
          · rename_i el
            cases h
            have hsz : (its.toArray.size != its2.toArray.size) = true := by
              simp only [List.size_toArray, bne_iff_ne, ne_eq]; omega
            exact fin (SeqAt.RcAt.lists_lengths p1.isList p2.isList hsz hu0) (SeqAt.RcNeAt.lists_lengths p1.isList p2.isList hsz hu0)
        · rename_i e1 e2
          split at h
          · rename_i xs ys e3 e4
            obtain ⟨its, r1, p1, z1⟩ := I.tuple (tupAt_sq (K := X.K) e3)
            obtain ⟨its2, r2, p2, z2⟩ := I.tuple (tupAt_sq (K := X.K) e4)
            have l1 := r1.length
            have l2 := r2.length
            cases ea : allF (eqF H n) xs ys with
            | none => rw [ea] at h; cases h
            | some c =>
              rw [ea] at h
              cases h
              obtain ⟨s1, s2⟩ := allF_spec ea
              have hm : min xs.length ys.length = min its.toArray.size its2.toArray.size := by simp; omega
              have hd : decide (xs.length = ys.length) = (its.toArray.size == its2.toArray.size) := by
                rw [Bool.eq_iff_iff]; simp; omega
              have he : ∀ j (h1 : j < its.toArray.size) (h2 : j < its2.toArray.size), SeqAt.EqAt A.in1 s its.toArray[j] its2.toArray[j] (eAt (eqF H n) xs ys j) := fun j h1 h2 => by
                obtain ⟨x', ex, qx⟩ := r1.at h1
                obtain ⟨y', ey, qy⟩ := r2.at h2
                exact (ih (s1 j x' y' ex ey) qx qy).eq
              rw [hm] at s2
              rw [s2, hd] at fin ⊢
              exact fin (SeqAt.RcAt.tuples (IsTup.isTuple p1) (IsTup.isTuple p2) hu0 he) (SeqAt.RcNeAt.tuples (IsTup.isTuple p1) (IsTup.isTuple p2) hu0 he)
          · cases h
        · rename_i xs e1 e2
          split at h
          · rename_i e3
            cases h
            obtain ⟨ys, e4⟩ := Option.isSome_iff_exists.mp e3
            obtain ⟨its, r1, p1, z1⟩ := I.list (lstAt_sq (K := X.K) e1)
            obtain ⟨its2, r2, p2, z2⟩ := I.tuple (tupAt_sq (K := X.K) e4)
            exact fin (SeqAt.RcAt.list_tuple p1.isList (IsTup.isTuple p2) hu0) (SeqAt.RcNeAt.list_tuple p1.isList (IsTup.isTuple p2) hu0)
          · cases h
        · rename_i ys e1 e2
          split at h
          · rename_i e3
            cases h
            obtain ⟨xs, e4⟩ := Option.isSome_iff_exists.mp e3
            obtain ⟨its, r1, p1, z1⟩ := I.tuple (tupAt_sq (K := X.K) e4)
            obtain ⟨its2, r2, p2, z2⟩ := I.list (lstAt_sq (K := X.K) e2)
            exact fin (SeqAt.RcAt.tuple_list (IsTup.isTuple p1) p2.isList hu0) (SeqAt.RcNeAt.tuple_list (IsTup.isTuple p1) p2.isList hu0)
          · cases h
      · rename_i p _ _
        cases rx
        split at h
        · rename_i e1
          cases h
          rw [Bool.and_eq_true] at e1
          obtain ⟨xs, e2⟩ := Option.isSome_iff_exists.mp e1.1
          rcases seqAt_or e2 with e3 | e3
          · obtain ⟨its, r1, p1, z1⟩ := I.list (lstAt_sq (K := X.K) e3)
            exact .list_flat p1.isList hu0 ry e1.2
          · obtain ⟨its, r1, p1, z1⟩ := I.tuple (tupAt_sq (K := X.K) e3)
            exact .tuple_flat (IsTup.isTuple p1) hu0 ry e1.2
        · cases h
      · rename_i p _ _
        cases ry
        split at h
        · rename_i e1
          cases h
          rw [Bool.and_eq_true] at e1
          obtain ⟨xs, e2⟩ := Option.isSome_iff_exists.mp e1.1
          rcases seqAt_or e2 with e3 | e3
          · obtain ⟨its, r1, p1, z1⟩ := I.list (lstAt_sq (K := X.K) e3)
            exact .flat_list p1.isList hu0 rx e1.2
          · obtain ⟨its, r1, p1, z1⟩ := I.tuple (tupAt_sq (K := X.K) e3)
            exact .flat_tuple (IsTup.isTuple p1) hu0 rx e1.2
        · cases h
      · cases h
/-- == and != : the answer is reckoned over the heap (four levels deep) -/
def rEqF : R2 := fun x y H Q => need (eqF H 4 x y) fun b => Q (.bl b) H
theorem op_eqF {k : Nat} (hr : Room k X.A) : OpR X (compareOp .Eq) rEqF := by
  intro pins s σ H x y v u Q I rx ry h
  obtain ⟨b, e, q⟩ := need_ex h
  refine PySem.W.cmp_ofEq ((eqF_ok I 4 X.A ?_ e rx ry).rc _ _ _ _ ⟨.bl b, H, I, rfl, q⟩)
  have := hr.un
  omega
end
end L2

set_option Elab.async false
set_option linter.all false
set_option maxRecDepth 100000
set_option maxHeartbeats 1000000
namespace L2
open PySem PySem.Spec PyProof.Rows
/-! ## G: texts, sums -/
def strsOf : List V → Option (List Str)
  | [] => some []
  | .str x :: r => (strsOf r).map (x :: ·)
  | _ :: _ => none
def bolsOf : List V → Option (List Bool)
  | [] => some []
  | .bl x :: r => (bolsOf r).map (x :: ·)
  | _ :: _ => none
theorem strsOf_eq : ∀ {xs : List V} {ts : List Str}, strsOf xs = some ts → xs = ts.map V.str
  | [], ts, h => by cases h; rfl
  | x :: r, ts, h => by
    cases x with
    | str y =>
      unfold strsOf at h
      cases e : strsOf r with
      | none => rw [e] at h; cases h
      | some t => rw [e] at h; cases h; rw [strsOf_eq e]; rfl
    | _ => cases h
theorem bolsOf_eq : ∀ {xs : List V} {ts : List Bool}, bolsOf xs = some ts → xs = ts.map V.bl
  | [], ts, h => by cases h; rfl
  | x :: r, ts, h => by
    cases x with
    | bl y =>
      unfold bolsOf at h
      cases e : bolsOf r with
      | none => rw [e] at h; cases h
      | some t => rw [e] at h; cases h; rw [bolsOf_eq e]; rfl
    | _ => cases h
section
variable {X : Cx} {o e : Expr} {to te : TE} {t : TA} {apos cpos : Pos}
/-- a text's slice -/
def slS : V → Option Int → Option Int → Hp → VK → Prop := fun x lo hi H Q => match x with
  | .str z => z.length ≤ sizeLine ∧ Q (.str (Txt.slice z lo hi)) H
  | _ => False
theorem sl_str : SlR X slS := by
  intro pins s σ H x v vl vu lo hi sl Q I rx hs pl pu h
  unfold slS at h
  split at h
  · rename_i z
    obtain ⟨hz, q⟩ := h
    obtain ⟨tk, rfl⟩ := rx
    refine ⟨"str", _, F.slot_str_getitem.lookup, typeIs_str _ _ _, ?_⟩
    have fin : ∀ (l u : Option (Int × Tok)), vl = partValue l → vu = partValue u → lo = l.map (·.1) → hi = u.map (·.1) → wpAny (model X.prog X.w) X.A (getItem (.str z tk) (.ref sl)) (EP X pins σ Q) X.xe s := fun l u e1 e2 e3 e4 => by
      subst e1 e2 e3 e4
      obtain ⟨o, ho, hc, hd⟩ := hs
      exact wpAny_getItem_str_slice (l := l) (u := u) (st := none) ⟨o, ho, hc, hd⟩ rfl
        (post_val_or_str ⟨Nat.le_trans (Txt.slice_le z _ _) hz, fun t' k => ⟨.str _, H, I.tok k, ⟨t', rfl⟩, q⟩⟩)
    cases pl with
    | none => cases pu with
      | none => exact fin none none rfl rfl rfl rfl
      | int j t => exact fin none (some (j, t)) rfl rfl rfl rfl
    | int i t' => cases pu with
      | none => exact fin (some (i, t')) none rfl rfl rfl rfl
      | int j t => exact fin (some (i, t')) (some (j, t)) rfl rfl rfl rfl
  · exact h.elim
end
end L2
namespace L2
theorem eqF_flat4 {H : Hp} {n : Nat} {x y : V} (h : (flatV x && flatV y) = true) : eqF H n x y = some (eqV x y) := by
  cases n <;> (unfold eqF; rw [if_pos h])
end L2
namespace L2
open PySem PySem.Spec PyProof.Rows
section
variable {X : Cx} {a : Expr} {ta : TE} {pos : Pos}
end
end L2
namespace L2
open PySem PySem.Spec PyProof.Rows
theorem lstAt_upd_l {H : Hp} {p : Addr} {xs : List V} : lstAt (upd H p (.lst xs)) p = some xs := lstAt_of upd_same
theorem Same.seqAt {H H' : Hp} {a : Addr} {xs : List V} (e : Same H H') (h : L2.seqAt H a = some xs) : L2.seqAt H' a = some xs := by
  rcases seqAt_or h with q | q
  · have := e.lstAt q
    rcases lstAt_rd this with z | ⟨o, z⟩ <;> (unfold L2.seqAt; rw [z])
  · exact seqAt_tup (e _ _ (tupAt_eq q))
end L2
namespace L2
open PySem PySem.Spec PyProof.Rows
theorem eqF_lists {H : Hp} {n : Nat} {a b : Addr} {xs ys : List V} (h1 : lstAt H a = some xs) (h2 : lstAt H b = some ys) : eqF H (n + 1) (.ref a) (.ref b) = if xs.length = ys.length then allF (eqF H n) xs ys else some false := by
  unfold eqF
  rw [if_neg (by simp [flatV])]
  simp only [h1, h2]
theorem eqF_tuples {H : Hp} {n : Nat} {a b : Addr} {xs ys : List V} (h1 : tupAt H a = some xs) (h2 : tupAt H b = some ys) : eqF H (n + 1) (.ref a) (.ref b) = (allF (eqF H n) xs ys).map (· && decide (xs.length = ys.length)) := by
  have l1 : lstAt H a = none := by unfold lstAt; rw [tupAt_eq h1]
  have l2 : lstAt H b = none := by unfold lstAt; rw [tupAt_eq h2]
  unfold eqF
  rw [if_neg (by simp [flatV])]
  simp only [h1, h2, l1, l2]
theorem allF_flat {H : Hp} {n : Nat} : ∀ {xs ys : List V}, (xs.all flatV = true) → (ys.all flatV = true) → allF (eqF H n) xs ys = some ((xs.zip ys).all fun p => eqV p.1 p.2)
  | [], _, _, _ => rfl
  | x :: xs, [], _, _ => rfl
  | x :: xs, y :: ys, h1, h2 => by
    simp only [List.all_cons, Bool.and_eq_true] at h1 h2
    unfold allF
    rw [eqF_flat4 (by rw [h1.1, h2.1]; rfl), allF_flat h1.2 h2.2]
    simp
theorem zip_self_all : ∀ (xs : List V), xs.all flatV = true → ((xs.zip xs).all fun p => eqV p.1 p.2) = true
  | [], _ => rfl
  | x :: xs, h => by
    simp only [List.all_cons, Bool.and_eq_true] at h
    simp only [List.zip_cons_cons, List.all_cons, Bool.and_eq_true]
    exact ⟨eqV_self h.1, zip_self_all xs h.2⟩
/-- two flat lists that are the same -/
theorem eqF_same_lists {H : Hp} {n : Nat} {a b : Addr} {xs : List V} (h1 : lstAt H a = some xs) (h2 : lstAt H b = some xs) (hf : xs.all flatV = true) : eqF H (n + 1) (.ref a) (.ref b) = some true := by
  rw [eqF_lists h1 h2, if_pos rfl, allF_flat hf hf, zip_self_all xs hf]
end L2
namespace L2
open PySem PySem.Spec PyProof.Rows
section
variable {X : Cx}
end
end L2

set_option Elab.async false
set_option linter.all false
set_option maxRecDepth 100000
set_option maxHeartbeats 1000000
namespace L2
open PySem PySem.Spec PyProof.Rows
/-! ## H: what stays; lists that are held to the end -/
/-- all that was tracked, but at S, is as it was -/
def Keep (S : List Addr) (H H' : Hp) : Prop := ∀ b o, H b = some o → b ∉ S → H' b = some o
theorem Same.keep {S : List Addr} {H H' : Hp} (h : Same H H') : Keep S H H' := fun b o e _ => h b o e
theorem Keep.trans {S : List Addr} {H H1 H2 : Hp} (a : Keep S H H1) (b : Keep S H1 H2) : Keep S H H2 := fun c o e n => b c o (a c o e n) n
theorem Keep.set {S : List Addr} {H : Hp} {p : Addr} {o : HO} (hp : p ∈ S) : Keep S H (upd H p o) := fun b u e n => by
  have : b ≠ p := fun z => n (by rw [z]; exact hp)
  rw [upd_ne this]; exact e
theorem Keep.new {S : List Addr} {H : Hp} {p : Addr} {o : HO} (hp : H p = none) : Keep S H (upd H p o) := (Same.new hp).keep
theorem Keep.same {H H' : Hp} (h : Keep [] H H') : Same H H' := fun b o e => h b o e (by simp)
theorem Keep.mono {S S' : List Addr} {H H' : Hp} (h : Keep S H H') (hs : ∀ b, b ∈ S → b ∈ S') : Keep S' H H' := fun b o e n => h b o e fun z => n (hs b z)
/-- what is new on the way may change -/
theorem Keep.fresh {S : List Addr} {p : Addr} {H H' : Hp} (h : Keep (p :: S) H H') (hp : H p = none) : Keep S H H' := fun b o e n => h b o e fun z => by
  rcases List.mem_cons.mp z with z | z
  · subst z; rw [hp] at e; cases e
  · exact n z
section
variable {X : Cx} {o e : Expr} {to : TE} {t : TA} {apos cpos : Pos}
end
/-- two values that are equal and stay so while only h changes -/
def EqP (H : Hp) (h : Addr) (x y : V) : Prop := (flatV x = true ∧ flatV y = true ∧ eqV x y = true) ∨
  ∃ a b xs, x = .ref a ∧ y = .ref b ∧ a ≠ h ∧ b ≠ h ∧ xs.all flatV = true ∧ ((H a = some (.lst xs) ∧ H b = some (.lst xs)) ∨ (H a = some (.tup xs) ∧ H b = some (.tup xs)))
theorem EqP.keep {H H' : Hp} {h : Addr} {x y : V} (k : Keep [h] H H') (e : EqP H h x y) : EqP H' h x y := by
  rcases e with e | ⟨a, b, xs, e1, e2, na, nb, f, q⟩
  · exact .inl e
  · refine .inr ⟨a, b, xs, e1, e2, na, nb, f, ?_⟩
    rcases q with ⟨q1, q2⟩ | ⟨q1, q2⟩
    · exact .inl ⟨k _ _ q1 (by simpa using na), k _ _ q2 (by simpa using nb)⟩
    · exact .inr ⟨k _ _ q1 (by simpa using na), k _ _ q2 (by simpa using nb)⟩
theorem EqP.eq {H : Hp} {h : Addr} {x y : V} {n : Nat} (e : EqP H h x y) : eqF H (n + 1) x y = some true := by
  rcases e with ⟨f1, f2, e⟩ | ⟨a, b, xs, rfl, rfl, _, _, f, q⟩
  · rw [eqF_flat4 (by rw [f1, f2]; rfl), e]
  · rcases q with ⟨q1, q2⟩ | ⟨q1, q2⟩
    · exact eqF_same_lists (lstAt_of q1) (lstAt_of q2) f
    · rw [eqF_tuples (tupAt_of q1) (tupAt_of q2), allF_flat f f, zip_self_all xs f]; simp
/-- the list at h holds the pairs at ts, each of two equal values -/
structure Held (H : Hp) (h : Addr) (ts : List Addr) : Prop where
  lst : H h = some (.lst (ts.map V.ref))
  prs : ∀ t ∈ ts, t ≠ h ∧ ∃ x y, H t = some (.tup [x, y]) ∧ EqP H h x y
theorem Held.keep {H H' : Hp} {h : Addr} {ts : List Addr} (k : Keep [h] H H') (hl : H' h = some (.lst (ts.map V.ref))) (e : Held H h ts) : Held H' h ts :=
  ⟨hl, fun t ht => by
    obtain ⟨n, x, y, q, r⟩ := e.prs t ht
    exact ⟨n, x, y, k _ _ q (by simpa using n), r.keep k⟩⟩
theorem Held.same {H H' : Hp} {h : Addr} {ts : List Addr} (k : Same H H') (e : Held H h ts) : Held H' h ts := e.keep k.keep (k _ _ e.lst)
theorem Held.push {H : Hp} {h t : Addr} {ts : List Addr} {x y : V} (e : Held H h ts) (n : t ≠ h) (q : H t = some (.tup [x, y])) (r : EqP H h x y) : Held (upd H h (.lst (ts.map V.ref ++ [.ref t]))) h (ts ++ [t]) := by
  refine ⟨by rw [upd_same]; simp, fun u hu => ?_⟩
  have k : Keep [h] H (upd H h (.lst (ts.map V.ref ++ [.ref t]))) := Keep.set (by simp)
  rcases List.mem_append.mp hu with hu | hu
  · obtain ⟨n', x', y', q', r'⟩ := e.prs u hu
    exact ⟨n', x', y', k _ _ q' (by simpa using n'), r'.keep k⟩
  · have : u = t := by simpa using hu
    subst this
    exact ⟨n, x, y, k _ _ q (by simpa using n), r.keep k⟩
end L2

set_option Elab.async false
set_option linter.all false
set_option maxRecDepth 100000
set_option maxHeartbeats 1000000
namespace M
open PySem PySem.Spec PyProof.Rows L2
/-! ## MA: a small machine over trees; what it says of the abstract heap -/
/-- a value: what is never changed is a tree (tuples, lists, dicts and instances that are only read), what may change stands in the store -/
inductive W where
  | non | bl (b : Bool) | int (i : Int) | str (x : Str) | ty (n : String) | cls (c : Str) | ref (n : Nat)
  | tup (ws : List W) | tl (ws : List W) | td (ks : List Key) (ws : List W) | ti (c : Str) (fs : List Str) (ws : List W) | exc (c : Str) (fs : List Str) (ws : List W)
inductive O where
  | lst (ws : List W) | dic (kvs : List (Key × W)) | ins (c : Str) (fs : List (Str × W))
abbrev Mem := List O
abbrev Sg := List (Option W)
/-- the classes that the text names: of instances, of exceptions, any -/
structure CTb where
  t : Str → Option Addr
  x : Str → Option Addr
  o : Str → Option Addr
def CTb.any (T : CTb) (c : Str) : Option Addr := match T.t c with
  | some C => some C
  | none => (match T.x c with
    | some C => some C
    | none => T.o c)
instance : CoeFun CTb fun _ => Str → Option Addr := ⟨CTb.t⟩
theorem CTb.any_t {T : CTb} {c : Str} {C : Addr} (h : T c = some C) : T.any c = some C := by unfold CTb.any; rw [show T.t c = some C from h]
abbrev St := L2.St
/-- an exception's record: its class, its own dict -/
def XShape (e C : Addr) (d : Option Addr) (h : Heap) : Prop := ∃ o vs, h.get? e = some o ∧ o.cls = .ref C ∧ o.data = .fields vs ∧ o.dict = d
section
variable (T : CTb) (φ : List Addr) (H : Hp)
mutual
def RW : W → V → Prop
  | .non, v => v = .non
  | .bl b, v => v = .bl b
  | .int i, v => v = .int i
  | .str x, v => v = .str x
  | .ty n, v => v = .ty n
  | .cls c, v => ∃ C, T.any c = some C ∧ v = .ref C
  | .ref n, v => ∃ a, φ[n]? = some a ∧ v = .ref a
  | .tup ws, v => ∃ p vs, v = .ref p ∧ p ∉ φ ∧ H p = some (.tup vs) ∧ RWs ws vs
  | .tl ws, v => ∃ p vs, v = .ref p ∧ p ∉ φ ∧ lstAt H p = some vs ∧ RWs ws vs
  | .td ks ws, v => ∃ p vs, v = .ref p ∧ p ∉ φ ∧ H p = some (.dK (ks.zip vs)) ∧ ks.length = ws.length ∧ RWs ws vs
  | .ti c fs ws, v => ∃ p C dx vs, v = .ref p ∧ p ∉ φ ∧ T c = some C ∧ H p = some (.ins C dx (fs.zip vs)) ∧ fs.length = ws.length ∧ RWs ws vs
  | .exc c fs ws, v => ∃ e C d vs, v = .ref e ∧ e ∉ φ ∧ T.x c = some C ∧ H e = some (.ext (XShape e C d)) ∧ fs.length = ws.length ∧ (match d with
    | some da => da ∉ φ ∧ H da = some (.xd (fs.zip vs))
    | none => fs = []) ∧ RWs ws vs
def RWs : List W → List V → Prop
  | [], vs => vs = []
  | w :: ws, vs => ∃ v r, vs = v :: r ∧ RW w v ∧ RWs ws r
end
def RP {κ : Type} : List (κ × W) → List (κ × V) → Prop := Paired fun p q => p.1 = q.1 ∧ RW T φ H p.2 q.2
def RO : O → HO → Prop
  | .lst ws, o => ∃ vs, o = .lst vs ∧ RWs T φ H ws vs
  | .dic kvs, o => ∃ kv, o = .dK kv ∧ RP T φ H kvs kv
  | .ins c fs, o => ∃ C dx fv, o = .ins C dx fv ∧ T c = some C ∧ RP T φ H fs fv
end
structure Step (φ : List Addr) (H : Hp) (φ' : List Addr) (H' : Hp) : Prop where
  pre : φ <+: φ'
  keep : ∀ a o, H a = some o → a ∉ φ → H' a = some o
  new : ∀ a, a ∈ φ' → a ∉ φ → H a = none
theorem Step.refl (φ : List Addr) (H : Hp) : Step φ H φ H := ⟨List.prefix_refl _, fun _ _ e _ => e, fun _ h n => absurd h n⟩
theorem Step.out {φ φ' : List Addr} {H H' : Hp} (s : Step φ H φ' H') {a : Addr} {o : HO} (e : H a = some o) (n : a ∉ φ) : a ∉ φ' := fun z => by rw [s.new a z n] at e; cases e
theorem Step.trans {φ φ' φ'' : List Addr} {H H' H'' : Hp} (s : Step φ H φ' H') (t : Step φ' H' φ'' H'') : Step φ H φ'' H'' :=
  ⟨s.pre.trans t.pre, fun a o e n => t.keep a o (s.keep a o e n) (s.out e n), fun a h n => by
    by_cases z : a ∈ φ'
    · exact s.new a z n
    · cases e : H a with
      | none => rfl
      | some o => have := t.new a h z; rw [s.keep a o e n] at this; cases this⟩
theorem Step.get {φ φ' : List Addr} {H H' : Hp} (s : Step φ H φ' H') {n : Nat} {a : Addr} (e : φ[n]? = some a) : φ'[n]? = some a := by
  obtain ⟨t, rfl⟩ := s.pre
  rw [List.getElem?_append_left (List.getElem?_eq_some_iff.mp e).1]
  exact e
theorem lstAt_cases {H : Hp} {p : Addr} {vs : List V} (h : lstAt H p = some vs) : ∃ o, H p = some o ∧ ∀ H' : Hp, H' p = some o → lstAt H' p = some vs := by
  rcases lstAt_rd h with q | ⟨o, q⟩
  · exact ⟨_, q, fun H' e => lstAt_of e⟩
  · exact ⟨_, q, fun H' e => by unfold lstAt; rw [e]⟩
section
variable {T : CTb} {φ φ' : List Addr} {H H' : Hp}
mutual
theorem RW.step (s : Step φ H φ' H') : ∀ {w : W} {v : V}, RW T φ H w v → RW T φ' H' w v
  | .non, v, h => by unfold RW at h ⊢; exact h
  | .bl b, v, h => by unfold RW at h ⊢; exact h
  | .int i, v, h => by unfold RW at h ⊢; exact h
  | .str x, v, h => by unfold RW at h ⊢; exact h
  | .ty n, v, h => by unfold RW at h ⊢; exact h
  | .cls c, v, h => by unfold RW at h ⊢; exact h
  | .ref n, v, h => by
    unfold RW at h ⊢
    obtain ⟨a, e, q⟩ := h
    exact ⟨a, s.get e, q⟩
  | .tup ws, v, h => by
    unfold RW at h ⊢
    obtain ⟨p, vs, e, n, q, r⟩ := h
    exact ⟨p, vs, e, s.out q n, s.keep _ _ q n, RWs.step s r⟩
  | .tl ws, v, h => by
    unfold RW at h ⊢
    obtain ⟨p, vs, e, n, q, r⟩ := h
    obtain ⟨o, ho, k⟩ := lstAt_cases q
    exact ⟨p, vs, e, s.out ho n, k _ (s.keep _ _ ho n), RWs.step s r⟩
  | .td ks ws, v, h => by
    unfold RW at h ⊢
    obtain ⟨p, vs, e, n, q, l, r⟩ := h
    exact ⟨p, vs, e, s.out q n, s.keep _ _ q n, l, RWs.step s r⟩
  | .ti c fs ws, v, h => by
    unfold RW at h ⊢
    obtain ⟨p, C, dx, vs, e, n, c, q, l, r⟩ := h
    exact ⟨p, C, dx, vs, e, s.out q n, c, s.keep _ _ q n, l, RWs.step s r⟩
  | .exc c fs ws, v, h => by
    unfold RW at h ⊢
    obtain ⟨e, C, d, vs, q, n, c, x, l, m, r⟩ := h
    refine ⟨e, C, d, vs, q, s.out x n, c, s.keep _ _ x n, l, ?_, RWs.step s r⟩
    cases d with
    | none => exact m
    | some da => exact ⟨s.out m.2 m.1, s.keep _ _ m.2 m.1⟩
theorem RWs.step (s : Step φ H φ' H') : ∀ {ws : List W} {vs : List V}, RWs T φ H ws vs → RWs T φ' H' ws vs
  | [], vs, h => by unfold RWs at h ⊢; exact h
  | w :: ws, vs, h => by
    unfold RWs at h ⊢
    obtain ⟨v, r, e, a, b⟩ := h
    exact ⟨v, r, e, RW.step s a, RWs.step s b⟩
end
theorem paired_step {κ : Type} (s : Step φ H φ' H') {ps : List (κ × W)} {qs : List (κ × V)} (h : RP T φ H ps qs) : RP T φ' H' ps qs := Paired.mapP h fun _ _ q => ⟨q.1, q.2.step s⟩
theorem RO.step (s : Step φ H φ' H') {o : O} {ho : HO} (h : RO T φ H o ho) : RO T φ' H' o ho := by
  cases o with
  | lst ws => obtain ⟨vs, e, r⟩ := h; exact ⟨vs, e, r.step s⟩
  | dic kvs => obtain ⟨kv, e, r⟩ := h; exact ⟨kv, e, paired_step s r⟩
  | ins c fs => obtain ⟨C, dx, fv, e, c, r⟩ := h; exact ⟨C, dx, fv, e, c, paired_step s r⟩
end
/-- the store is what the abstract heap holds at φ -/
structure RH (T : CTb) (φ : List Addr) (h : Mem) (H : Hp) : Prop where
  len : φ.length = h.length
  nd : φ.Nodup
  obj : ∀ (n : Nat) o a, h[n]? = some o → φ[n]? = some a → ∃ ho, H a = some ho ∧ RO T φ H o ho
/-- the names: what the machine knows of them -/
structure RS (T : CTb) (φ : List Addr) (H : Hp) (ρ : Sg) (σ : St) : Prop where
  len : ρ.length = σ.length
  var : ∀ (i : Nat) w, ρ[i]? = some (some w) → ∃ v, σ[i]? = some (some v) ∧ RW T φ H w v
section
variable {T : CTb} {φ φ' : List Addr} {H H' : Hp} {h : Mem} {ρ : Sg} {σ : St}
theorem RS.step (s : Step φ H φ' H') (r : RS T φ H ρ σ) : RS T φ' H' ρ σ := ⟨r.len, fun i w e => by
  obtain ⟨v, a, b⟩ := r.var i w e
  exact ⟨v, a, b.step s⟩⟩
theorem RS.set {i : Nat} {w : W} {v : V} (r : RS T φ H ρ σ) (q : RW T φ H w v) : RS T φ H (ρ.set i (some w)) (σ.set i (some v)) := ⟨by simp [r.len], fun j u e => by
  rw [List.getElem?_set] at e ⊢
  split at e
  · rename_i hij
    subst hij
    split at e
    · rename_i hl
      rw [if_pos rfl, if_pos (by rw [← r.len]; exact hl)]
      cases e
      exact ⟨v, rfl, q⟩
    · cases e
  · rename_i hij
    rw [if_neg hij]
    exact r.var j u e⟩
theorem RH.at (r : RH T φ h H) {n : Nat} {o : O} (e : h[n]? = some o) : ∃ a ho, φ[n]? = some a ∧ H a = some ho ∧ RO T φ H o ho := by
  have hn : n < φ.length := by rw [r.len]; exact (List.getElem?_eq_some_iff.mp e).1
  obtain ⟨ho, q, x⟩ := r.obj n o φ[n] e (by simp [hn])
  exact ⟨φ[n], ho, by simp [hn], q, x⟩
theorem RH.there (r : RH T φ h H) {a : Addr} (m : a ∈ φ) : ∃ ho, H a = some ho := by
  obtain ⟨n, hn, e⟩ := List.getElem_of_mem m
  have hl : n < h.length := by rw [← r.len]; exact hn
  obtain ⟨ho, q, _⟩ := r.obj n h[n] a (by simp [hl]) (by simp [hn, e])
  exact ⟨ho, q⟩
theorem RH.fresh (r : RH T φ h H) {p : Addr} (hp : H p = none) : p ∉ φ := fun m => by
  obtain ⟨ho, q⟩ := r.there m
  rw [hp] at q; cases q
/-- something new that is not tracked -/
theorem step_tmp {p : Addr} {ho : HO} (hp : H p = none) : Step φ H φ (upd H p ho) := ⟨List.prefix_refl _, fun a o e _ => by rw [upd_ne (ne_of_none e hp)]; exact e, fun _ m n => absurd m n⟩
theorem RH.stay (r : RH T φ h H) (s : Step φ H φ H') (k : ∀ a ∈ φ, H' a = H a) : RH T φ h H' := ⟨r.len, r.nd, fun n o a e q => by
  obtain ⟨ho, x, y⟩ := r.obj n o a e q
  exact ⟨ho, by rw [k a (List.mem_of_getElem? q)]; exact x, y.step s⟩⟩
theorem RH.tmp (r : RH T φ h H) {p : Addr} {ho : HO} (hp : H p = none) : RH T φ h (upd H p ho) := r.stay (step_tmp hp) fun a m => upd_ne fun z => by subst z; exact r.fresh hp m
/-- something new that is tracked -/
theorem step_new {p : Addr} {ho : HO} (hp : H p = none) : Step φ H (φ ++ [p]) (upd H p ho) := ⟨List.prefix_append _ _, fun a o e _ => by rw [upd_ne (ne_of_none e hp)]; exact e, fun a m n => by
  rcases List.mem_append.mp m with m | m
  · exact absurd m n
  · have : a = p := by simpa using m
    subst this; exact hp⟩
theorem RH.new (r : RH T φ h H) {p : Addr} {o : O} {ho : HO} (hp : H p = none) (x : RO T φ H o ho) : RH T (φ ++ [p]) (h ++ [o]) (upd H p ho) := by
  have s := step_new (φ := φ) (ho := ho) hp
  refine ⟨by simp [r.len], ?_, fun n u a e q => ?_⟩
  · rw [List.nodup_append]
    refine ⟨r.nd, by simp, fun a m b k z => ?_⟩
    have : b = p := by simpa using k
    subst z this
    exact r.fresh hp m
  · by_cases hn : n < h.length
    · rw [List.getElem?_append_left hn] at e
      rw [List.getElem?_append_left (by rw [r.len]; exact hn)] at q
      obtain ⟨hu, y, z⟩ := r.obj n u a e q
      exact ⟨hu, by rw [upd_ne (fun z => by subst z; exact r.fresh hp (List.mem_of_getElem? q))]; exact y, z.step s⟩
    · have hn' : h.length ≤ n := Nat.le_of_not_lt hn
      rw [List.getElem?_append_right hn'] at e
      rw [List.getElem?_append_right (by rw [r.len]; exact hn'), r.len] at q
      have : n - h.length = 0 := by
        have := (List.getElem?_eq_some_iff.mp e).1
        simp at this; omega
      rw [this] at e q
      simp at e q
      subst e q
      exact ⟨ho, upd_same, x.step s⟩
/-- a tracked thing that changes -/
theorem step_set {a : Addr} {ho : HO} (m : a ∈ φ) : Step φ H φ (upd H a ho) := ⟨List.prefix_refl _, fun b o e n => by rw [upd_ne (fun z => by subst z; exact n m)]; exact e, fun _ m n => absurd m n⟩
theorem RH.set (r : RH T φ h H) {n : Nat} {a : Addr} {o : O} {ho : HO} (q : φ[n]? = some a) (x : RO T φ H o ho) : RH T φ (h.set n o) (upd H a ho) := by
  have s := step_set (H := H) (ho := ho) (List.mem_of_getElem? q)
  refine ⟨by simp [r.len], r.nd, fun k u b e q' => ?_⟩
  rw [List.getElem?_set] at e
  split at e
  · rename_i hk
    subst hk
    rw [q] at q'
    cases q'
    split at e
    · cases e
      exact ⟨ho, upd_same, x.step s⟩
    · cases e
  · rename_i hk
    obtain ⟨hu, y, z⟩ := r.obj k u b e q'
    refine ⟨hu, ?_, z.step s⟩
    rw [upd_ne]
    · exact y
    · intro z
      subst z
      exact hk ((List.getElem?_inj (List.getElem?_eq_some_iff.mp q).1 r.nd).mp (q.trans q'.symm))
end
end M

set_option Elab.async false
set_option linter.all false
set_option maxRecDepth 100000
set_option maxHeartbeats 1000000
namespace M
open PySem PySem.Spec PyProof.Rows L2
/-! ## MB: results, expressions -/
inductive Res where
  | ok (w : W) (h : Mem) | ex (w : W) (h : Mem) | no
inductive RsL where
  | ok (ws : List W) (h : Mem) | ex (w : W) (h : Mem) | no
abbrev Ex := Sg → Mem → Res
abbrev Exs := Sg → Mem → RsL
def Res.bind (r : Res) (k : W → Mem → Res) : Res := match r with
  | .ok w h => k w h
  | .ex w h => .ex w h
  | .no => .no
def Res.of (o : Option W) (h : Mem) : Res := match o with
  | some w => .ok w h
  | none => .no
def Res.post (r : Res) (k : W → Mem → Prop) (e : W → Mem → Prop) : Prop := match r with
  | .ok w h => k w h
  | .ex w h => e w h
  | .no => False
def RsL.post (r : RsL) (k : List W → Mem → Prop) (e : W → Mem → Prop) : Prop := match r with
  | .ok w h => k w h
  | .ex w h => e w h
  | .no => False
theorem Res.post.mono {r : Res} {k k' : W → Mem → Prop} {e : W → Mem → Prop} (h : r.post k e) (i : ∀ w m, k w m → k' w m) : r.post k' e := by
  cases r <;> first | exact i _ _ h | exact h
theorem RsL.post.mono {r : RsL} {k k' : List W → Mem → Prop} {e : W → Mem → Prop} (h : r.post k e) (i : ∀ w m, k w m → k' w m) : r.post k' e := by
  cases r <;> first | exact i _ _ h | exact h
/-- where the machine stands: the classes, the entry, what stays true of the names, what is wanted of an exception -/
structure Zc where
  T : CTb
  φ : List Addr
  H : Hp
  sg : St → Prop
  xw : W → Mem → Prop
structure Here (Z : Zc) (σ : St) (H : Hp) (φ : List Addr) (h : Mem) (ρ : Sg) : Prop where
  sg : Z.sg σ
  st : Step Z.φ Z.H φ H
  rh : RH Z.T φ h H
  rs : RS Z.T φ H ρ σ
theorem Here.step {Z : Zc} {σ : St} {H H' : Hp} {φ φ' : List Addr} {h h' : Mem} {ρ : Sg} (x : Here Z σ H φ h ρ) (s : Step φ H φ' H') (r : RH Z.T φ' h' H') : Here Z σ H' φ' h' ρ := ⟨x.sg, x.st.trans s, r, x.rs.step s⟩
/-- what is wanted of a value -/
def Kv (T : CTb) (φ : List Addr) (H : Hp) (Q : VK) : W → Mem → Prop := fun w h' => ∀ φ' H' v, Step φ H φ' H' → RH T φ' h' H' → RW T φ' H' w v → Q v H'
def Kvs (T : CTb) (φ : List Addr) (H : Hp) (Q : List V → Hp → Prop) : List W → Mem → Prop := fun ws h' => ∀ φ' H' vs, Step φ H φ' H' → RH T φ' h' H' → RWs T φ' H' ws vs → Q vs H'
theorem Kv.step {T : CTb} {φ φ' : List Addr} {H H' : Hp} {Q : VK} {w : W} {h : Mem} (k : Kv T φ H Q w h) (s : Step φ H φ' H') : Kv T φ' H' Q w h := fun φ2 H2 v t r x => k φ2 H2 v (s.trans t) r x
theorem Kvs.step {T : CTb} {φ φ' : List Addr} {H H' : Hp} {Q : List V → Hp → Prop} {w : List W} {h : Mem} (k : Kvs T φ H Q w h) (s : Step φ H φ' H') : Kvs T φ' H' Q w h := fun φ2 H2 v t r x => k φ2 H2 v (s.trans t) r x
def tH (Z : Zc) (f : Ex) : TE := fun σ H Q => ∃ φ h ρ, Here Z σ H φ h ρ ∧ (f ρ h).post (Kv Z.T φ H Q) Z.xw
def tHA (Z : Zc) (f : Exs) : TA := fun σ H Q => ∃ φ h ρ, Here Z σ H φ h ρ ∧ (f ρ h).post (Kvs Z.T φ H Q) Z.xw
/-- a test: a bool must come -/
def tHT (Z : Zc) (f : Ex) : TT := fun σ H Q => ∃ φ h ρ, Here Z σ H φ h ρ ∧ (f ρ h).post (fun w h' => ∃ b, w = .bl b ∧ ∀ φ' H', Step φ H φ' H' → RH Z.T φ' h' H' → Q b H') Z.xw
section
variable {X : Cx} {e a b c : Expr} {es : List Expr}
theorem _root_.L2.PE.imp {t t' : TE} (h : PE X e t) (i : ∀ σ H Q, t' σ H Q → t σ H Q) : PE X e t' := fun pins s σ H Q I q => h pins s σ H Q I (i σ H Q q)
theorem _root_.L2.PT.imp {t t' : TT} (h : PT X e t) (i : ∀ σ H Q, t' σ H Q → t σ H Q) : PT X e t' := fun pins s σ H Q I q => h pins s σ H Q I (i σ H Q q)
theorem _root_.L2.PW.imp {t t' : TT} (h : PW X e t) (i : ∀ σ H Q, t' σ H Q → t σ H Q) : PW X e t' := fun w pins s σ H Q I q => h w pins s σ H Q I (i σ H Q q)
theorem _root_.L2.PA.imp {t t' : TA} (h : PA X es t) (i : ∀ σ H Q, t' σ H Q → t σ H Q) : PA X es t' := fun pos pins s σ H Q I q => h pos pins s σ H Q I (i σ H Q q)
theorem _root_.L2.PE.any {t : TE} {ι : Type} {ts : ι → TE} (h : ∀ i, PE X e (ts i)) (k : ∀ σ H Q, t σ H Q → ∃ i, ts i σ H Q) : PE X e t := fun pins s σ H Q I q => by
  obtain ⟨i, z⟩ := k σ H Q q
  exact h i pins s σ H Q I z
end
/-! names and constants -/
def xVar (i : Nat) : Ex := fun ρ h => match ρ[i]? with
  | some (some w) => .ok w h
  | _ => .no
def xC (w : W) : Ex := fun _ h => .ok w h
def xNil : Exs := fun _ h => .ok [] h
def xCons (f : Ex) (g : Exs) : Exs := fun ρ h => match f ρ h with
  | .ok w h1 => (match g ρ h1 with
    | .ok ws h2 => .ok (w :: ws) h2
    | r => r)
  | .ex w h1 => .ex w h1
  | .no => .no
def xBin (op : Mem → W → W → Option W) (f g : Ex) : Ex := fun ρ h => (f ρ h).bind fun a h1 => (g ρ h1).bind fun b h2 => .of (op h2 a b) h2
def xUn (op : Mem → W → Option W) (f : Ex) : Ex := fun ρ h => (f ρ h).bind fun a h1 => .of (op h1 a) h1
def xCb (op : Mem → List W → Option W) (f : Exs) : Ex := fun ρ h => match f ρ h with
  | .ok ws h1 => .of (op h1 ws) h1
  | .ex w h1 => .ex w h1
  | .no => .no
def xBm (op : Mem → W → List W → Option W) (f : Ex) (g : Exs) : Ex := fun ρ h => (f ρ h).bind fun a h1 => match g ρ h1 with
  | .ok ws h2 => .of (op h2 a ws) h2
  | .ex w h2 => .ex w h2
  | .no => .no
def xAnd (f g : Ex) : Ex := fun ρ h => (f ρ h).bind fun w h1 => match w with
  | .bl true => g ρ h1
  | .bl false => .ok (.bl false) h1
  | _ => .no
def xOr (f g : Ex) : Ex := fun ρ h => (f ρ h).bind fun w h1 => match w with
  | .bl true => .ok (.bl true) h1
  | .bl false => g ρ h1
  | _ => .no
def xNot (f : Ex) : Ex := fun ρ h => (f ρ h).bind fun w h1 => match w with
  | .bl b => .ok (.bl (!b)) h1
  | _ => .no
def xIf (c f g : Ex) : Ex := fun ρ h => (c ρ h).bind fun w h1 => match w with
  | .bl true => f ρ h1
  | .bl false => g ρ h1
  | _ => .no
def xChain (op op' : Mem → W → W → Option W) (f g k : Ex) : Ex := fun ρ h => (f ρ h).bind fun a h1 => (g ρ h1).bind fun b h2 => match op h2 a b with
  | some (.bl true) => (k ρ h2).bind fun c h3 => (match op' h3 b c with
    | some (.bl z) => .ok (.bl z) h3
    | _ => .no)
  | some (.bl false) => .ok (.bl false) h2
  | _ => .no
def xTup (f : Exs) : Ex := fun ρ h => match f ρ h with
  | .ok ws h1 => if ws.length ≤ sizeLine then .ok (.tup ws) h1 else .no
  | .ex w h1 => .ex w h1
  | .no => .no
def xLst (f : Exs) : Ex := fun ρ h => match f ρ h with
  | .ok ws h1 => if ws.length ≤ sizeLine then .ok (.tl ws) h1 else .no
  | .ex w h1 => .ex w h1
  | .no => .no
/-- a list that will be changed: it stands in the store -/
def xLstN (f : Exs) : Ex := fun ρ h => match f ρ h with
  | .ok ws h1 => if ws.length ≤ sizeLine then .ok (.ref h1.length) (h1 ++ [.lst ws]) else .no
  | .ex w h1 => .ex w h1
  | .no => .no
/-- what an operation of two values must show -/
def OpW (T : CTb) (op : Mem → W → W → Option W) (r : R2) : Prop := ∀ φ h H a b u v w Q, RH T φ h H → RW T φ H a u → RW T φ H b v → op h a b = some w → (∀ H' x, Step φ H φ H' → RH T φ h H' → RW T φ H' w x → Q x H') → r u v H Q
def CbW (T : CTb) (op : Mem → List W → Option W) (r : List V → Hp → VK → Prop) : Prop := ∀ φ h H ws vs w Q, RH T φ h H → RWs T φ H ws vs → op h ws = some w → (∀ H' x, Step φ H φ H' → RH T φ h H' → RW T φ H' w x → Q x H') → r vs H Q
def BmW (T : CTb) (op : Mem → W → List W → Option W) (r : V → List V → Hp → VK → Prop) : Prop := ∀ φ h H a u ws vs w Q, RH T φ h H → RW T φ H a u → RWs T φ H ws vs → op h a ws = some w → (∀ H' x, Step φ H φ H' → RH T φ h H' → RW T φ H' w x → Q x H') → r u vs H Q
section
variable {X : Cx} {Z : Zc} {f g k : Ex} {fa : Exs} {e a b c : Expr} {es rest : List Expr} {pos : Pos}
theorem bindP {r : Res} {k : W → Mem → Res} {K : W → Mem → Prop} {E : W → Mem → Prop} : (r.bind k).post K E ↔ r.post (fun w h => (k w h).post K E) E := by cases r <;> rfl
theorem ofP {o : Option W} {h : Mem} {K : W → Mem → Prop} {E : W → Mem → Prop} (q : (Res.of o h).post K E) : ∃ w, o = some w ∧ K w h := by
  cases o with
  | none => exact q.elim
  | some w => exact ⟨w, rfl, q⟩
theorem Kv.end {T : CTb} {φ : List Addr} {H : Hp} {Q : VK} {w : W} {h : Mem} (k : Kv T φ H Q w h) : ∀ H' x, Step φ H φ H' → RH T φ h H' → RW T φ H' w x → Q x H' := fun H' x s r y => k φ H' x s r y
theorem ph_var (i : Nat) (h : PE X e (tVar i)) : PE X e (tH Z (xVar i)) := h.imp fun σ H Q ⟨φ, m, ρ, x, q⟩ => by
  unfold xVar at q
  split at q
  · rename_i w e
    obtain ⟨v, hv, r⟩ := x.rs.var i w e
    exact ⟨v, hv, q φ H v (Step.refl _ _) x.rh r⟩
  · exact q.elim
theorem ph_c {w : W} {v : V} (h : PE X e (tC v)) (r : ∀ φ H, RW Z.T φ H w v) : PE X e (tH Z (xC w)) := h.imp fun σ H Q ⟨φ, m, ρ, x, q⟩ => q φ H v (Step.refl _ _) x.rh (r φ H)
theorem ph_int {i j pos} : PE X (.Constant (.int i) j pos) (tH Z (xC (.int i))) := ph_c pe_int fun _ _ => by unfold RW; rfl
theorem ph_bl {b j pos} : PE X (.Constant (.bool b) j pos) (tH Z (xC (.bl b))) := ph_c pe_bl fun _ _ => by unfold RW; rfl
theorem ph_non {j pos} : PE X (.Constant .none j pos) (tH Z (xC .non)) := ph_c pe_non fun _ _ => by unfold RW; rfl
theorem ph_str {x j pos} : PE X (.Constant (.str x) j pos) (tH Z (xC (.str x))) := ph_c pe_str fun _ _ => by unfold RW; rfl
/-- two parts, one behind the other -/
theorem two {σ : St} {H : Hp} {φ : List Addr} {h : Mem} {ρ : Sg} {k : W → W → Mem → Res} {Q : VK} (x : Here Z σ H φ h ρ) (q : ((f ρ h).bind fun a h1 => (g ρ h1).bind fun b h2 => k a b h2).post (Kv Z.T φ H Q) Z.xw)
    {R : V → V → Hp → Prop} (i : ∀ φ2 H2 h2 u v a b, Step φ H φ2 H2 → Here Z σ H2 φ2 h2 ρ → RW Z.T φ2 H2 a u → RW Z.T φ2 H2 b v → (k a b h2).post (Kv Z.T φ2 H2 Q) Z.xw → R u v H2) :
    tH Z f σ H fun u H1 => tH Z g σ H1 fun v H2 => R u v H2 := by
  refine ⟨φ, h, ρ, x, ?_⟩
  rw [bindP] at q
  refine q.mono fun a h1 q1 => fun φ1 H1 u s1 r1 ra => ?_
  refine ⟨φ1, h1, ρ, x.step s1 r1, ?_⟩
  rw [bindP] at q1
  refine q1.mono fun b h2 q2 => fun φ2 H2 v s2 r2 rb => ?_
  exact i φ2 H2 h2 u v a b (s1.trans s2) ((x.step s1 r1).step s2 r2) (ra.step s2) rb (q2.mono fun w m k => k.step (s1.trans s2))
theorem ph_bin {op : Operator} {o : Mem → W → W → Option W} {r : R2} (ho : OpR X (binaryOp op) r) (hw : OpW Z.T o r) (ha : PE X a (tH Z f)) (hb : PE X b (tH Z g)) : PE X (.BinOp a op b pos) (tH Z (xBin o f g)) :=
  (pe_op ho ha hb).imp fun σ H Q ⟨φ, m, ρ, x, q⟩ => two x q fun φ2 H2 h2 u v a b s y ra rb q2 => by
    obtain ⟨w, e, k⟩ := ofP q2
    exact hw φ2 h2 H2 a b u v w Q y.rh ra rb e k.end
theorem ph_cmp {op : CmpOp} {o : Mem → W → W → Option W} {r : R2} (ho : OpR X (compareOp op) r) (hw : OpW Z.T o r) (ha : PE X a (tH Z f)) (hb : PE X b (tH Z g)) (hm : behindInMarks op b = false) : PE X (.Compare a [op] [b] pos) (tH Z (xBin o f g)) :=
  (pe_cmpR ho ha hb hm).imp fun σ H Q ⟨φ, m, ρ, x, q⟩ => two x q fun φ2 H2 h2 u v a b s y ra rb q2 => by
    obtain ⟨w, e, k⟩ := ofP q2
    exact hw φ2 h2 H2 a b u v w Q y.rh ra rb e k.end
theorem ph_ix {o : Mem → W → W → Option W} {r : R2} (ho : IxR X r) (hw : OpW Z.T o r) (ha : PE X a (tH Z f)) (hb : PE X b (tH Z g)) (hs : PlainIx b) : PE X (.Subscript a b pos) (tH Z (xBin o f g)) :=
  (pe_ix ho ha hb hs).imp fun σ H Q ⟨φ, m, ρ, x, q⟩ => two x q fun φ2 H2 h2 u v a b s y ra rb q2 => by
    obtain ⟨w, e, k⟩ := ofP q2
    exact hw φ2 h2 H2 a b u v w Q y.rh ra rb e k.end
/-! tests -/
theorem bl_rw {T : CTb} {φ : List Addr} {H : Hp} {v : V} {c : Bool} (h : RW T φ H (.bl c) v) : v = .bl c := by unfold RW at h; exact h
theorem tHT_B {σ : St} {H : Hp} {Q : Bool → Hp → Prop} (h : tHT Z f σ H Q) : tB (tH Z f) σ H Q := by
  obtain ⟨φ, m, ρ, x, q⟩ := h
  refine ⟨φ, m, ρ, x, q.mono ?_⟩
  rintro w h1 ⟨b, rfl, k⟩ φ1 H1 v s1 r1 rw1
  exact ⟨b, bl_rw rw1, k φ1 H1 s1 r1⟩
theorem pth_val (h : PE X e (tH Z f)) (he : ∀ whole, isTrue e X.env whole = (do let v ← whole; standAt e.pos; holding [v] (truthy v)) := by intro _; rfl) : PT X e (tHT Z f) := (pt_val h he).imp fun σ H Q q => tHT_B q
theorem pth_cmp {op : CmpOp} {o : Mem → W → W → Option W} {r : R2} (ho : OpR X (compareOp op) r) (hw : OpW Z.T o r) (ha : PE X a (tH Z f)) (hb : PE X b (tH Z g)) (hm : behindInMarks op b = false) : PT X (.Compare a [op] [b] pos) (tHT Z (xBin o f g)) :=
  (pt_cmpR ho ha hb hm).imp fun σ H Q ⟨φ, m, ρ, x, q⟩ => by
    have q' : (xBin o f g ρ m).post (Kv Z.T φ H fun v H' => ∃ k, v = .bl k ∧ Q k H') Z.xw := q.mono (by
      rintro w h1 ⟨b, rfl, k⟩ φ1 H1 v s1 r1 rw1
      exact ⟨b, bl_rw rw1, k φ1 H1 s1 r1⟩)
    exact two x q' fun φ2 H2 h2 u v a b s y ra rb q2 => by
      obtain ⟨w, e, k⟩ := ofP q2
      exact hw φ2 h2 H2 a b u v w _ y.rh ra rb e k.end
theorem tHT_not {σ : St} {H : Hp} {Q : Bool → Hp → Prop} (h : tHT Z (xNot f) σ H Q) : tNot (tHT Z f) σ H Q := by
  obtain ⟨φ, m, ρ, x, q⟩ := h
  refine ⟨φ, m, ρ, x, ?_⟩
  unfold xNot at q
  rw [bindP] at q
  refine q.mono fun w h1 q1 => ?_
  split at q1
  · obtain ⟨b, e, k⟩ := q1
    cases e
    exact ⟨_, rfl, k⟩
  · exact q1.elim
theorem pth_not (h : PT X a (tHT Z f)) : PT X (.UnaryOp .Not a pos) (tHT Z (xNot f)) := (pt_not h).imp fun _ _ _ q => tHT_not q
/-! and, or, not, if as values -/
theorem ph_and (ha : PE X a (tH Z f)) (hb : PE X (.BoolOp .And (b :: rest) pos) (tH Z g)) : PE X (.BoolOp .And (a :: b :: rest) pos) (tH Z (xAnd f g)) :=
  (pe_and ha hb).imp fun σ H Q ⟨φ, m, ρ, x, q⟩ => ⟨φ, m, ρ, x, by
    unfold xAnd at q
    rw [bindP] at q
    refine q.mono fun w h1 q1 => fun φ1 H1 v s1 r1 rw1 => ?_
    split at q1
    · exact ⟨true, bl_rw rw1, iteT (⟨φ1, h1, ρ, x.step s1 r1, q1.mono fun w h2 k => k.step s1⟩)⟩
    · exact ⟨false, bl_rw rw1, iteF (q1 φ1 H1 _ s1 r1 (by unfold RW; rfl))⟩
    · exact q1.elim⟩
theorem ph_one {op} (h : PE X a (tH Z f)) : PE X (.BoolOp op [a] pos) (tH Z f) := pe_one h
theorem ph_not (ha : PE X a (tH Z f)) : PE X (.UnaryOp .Not a pos) (tH Z (xNot f)) :=
  (pe_not ha).imp fun σ H Q ⟨φ, m, ρ, x, q⟩ => ⟨φ, m, ρ, x, by
    unfold xNot at q
    rw [bindP] at q
    refine q.mono fun w h1 q1 => fun φ1 H1 v s1 r1 rw1 => ?_
    split at q1
    · exact ⟨_, bl_rw rw1, q1 φ1 H1 _ s1 r1 (by unfold RW; rfl)⟩
    · exact q1.elim⟩
/-! argument lists, displays -/
theorem pah_nil : PA X [] (tHA Z xNil) := pa_nil.imp fun σ H Q ⟨φ, m, ρ, x, q⟩ => q φ H [] (Step.refl _ _) x.rh (by unfold RWs; rfl)
theorem pah_cons (ha : PE X e (tH Z f)) (hr : PA X es (tHA Z fa)) (hs : starEach (e :: es) X.env = (false, eval e X.env) :: starEach es X.env := by rfl) : PA X (e :: es) (tHA Z (xCons f fa)) :=
  (pa_cons ha hr hs).imp fun σ H Q ⟨φ, m, ρ, x, q⟩ => ⟨φ, m, ρ, x, by
    unfold xCons at q
    cases e1 : f ρ m with
    | no => rw [e1] at q; exact q.elim
    | ex w h1 => rw [e1] at q; exact q
    | ok w h1 =>
      rw [e1] at q
      intro φ1 H1 v s1 r1 rw1
      refine ⟨φ1, h1, ρ, x.step s1 r1, ?_⟩
      simp only at q
      cases e2 : fa ρ h1 with
      | no => rw [e2] at q; exact q.elim
      | ex w2 h2 => rw [e2] at q; exact q
      | ok ws h2 =>
        rw [e2] at q
        intro φ2 H2 vs s2 r2 rw2
        refine q φ2 H2 (v :: vs) (s1.trans s2) r2 ?_
        unfold RWs
        exact ⟨v, vs, rfl, rw1.step s2, rw2⟩⟩
theorem RWs.length {T : CTb} {φ : List Addr} {H : Hp} : ∀ {ws : List W} {vs : List V}, RWs T φ H ws vs → ws.length = vs.length
  | [], vs, h => by unfold RWs at h; subst h; rfl
  | w :: ws, vs, h => by
    unfold RWs at h
    obtain ⟨v, r, rfl, _, h⟩ := h
    simp [RWs.length h]
theorem ph_tup {x1} (h : PA X es (tHA Z fa)) : PE X (.Tuple es x1 pos) (tH Z (xTup fa)) :=
  (pe_tup h).imp fun σ H Q ⟨φ, m, ρ, x, q⟩ => ⟨φ, m, ρ, x, by
    unfold xTup at q
    cases e1 : fa ρ m with
    | no => rw [e1] at q; exact q.elim
    | ex w h1 => rw [e1] at q; exact q
    | ok ws h1 =>
      rw [e1] at q
      simp only at q
      split at q
      · rename_i hz
        intro φ1 H1 vs s1 r1 rw1
        refine ⟨by rw [← rw1.length]; exact hz, fun p hp => ?_⟩
        have s2 := step_tmp (φ := φ1) (ho := .tup vs) hp
        refine q φ1 _ _ (s1.trans s2) (r1.tmp hp) ?_
        unfold RW
        exact ⟨p, vs, rfl, r1.fresh hp, upd_same, rw1.step s2⟩
      · exact q.elim⟩
theorem ph_lst (h : PA X es (tHA Z fa)) : PE X (.List es pos) (tH Z (xLst fa)) :=
  (pe_lst h).imp fun σ H Q ⟨φ, m, ρ, x, q⟩ => ⟨φ, m, ρ, x, by
    unfold xLst at q
    cases e1 : fa ρ m with
    | no => rw [e1] at q; exact q.elim
    | ex w h1 => rw [e1] at q; exact q
    | ok ws h1 =>
      rw [e1] at q
      simp only at q
      split at q
      · rename_i hz
        intro φ1 H1 vs s1 r1 rw1
        refine ⟨by rw [← rw1.length]; exact hz, fun p hp => ?_⟩
        have s2 := step_tmp (φ := φ1) (ho := .lst vs) hp
        refine q φ1 _ _ (s1.trans s2) (r1.tmp hp) ?_
        unfold RW
        exact ⟨p, vs, rfl, r1.fresh hp, lstAt_upd_l, rw1.step s2⟩
      · exact q.elim⟩
theorem ph_cb {r : List V → Hp → VK → Prop} {o : Mem → List W → Option W} (hw : CbW Z.T o r) (h : ∀ {t : TA}, PA X es t → PE X e (tCB r t)) (ha : PA X es (tHA Z fa)) : PE X e (tH Z (xCb o fa)) :=
  (h ha).imp fun σ H Q ⟨φ, m, ρ, x, q⟩ => ⟨φ, m, ρ, x, by
    unfold xCb at q
    cases e1 : fa ρ m with
    | no => rw [e1] at q; exact q.elim
    | ex w h1 => rw [e1] at q; exact q
    | ok ws h1 =>
      rw [e1] at q
      intro φ1 H1 vs s1 r1 rw1
      obtain ⟨w, e, k⟩ := ofP q
      exact hw φ1 h1 H1 ws vs w Q r1 rw1 e (k.step s1).end⟩
end
end M

set_option Elab.async false
set_option linter.all false
set_option maxRecDepth 100000
set_option maxHeartbeats 1000000
namespace M
open PySem PySem.Spec PyProof.Rows L2
/-! ## MC: statements, loops, blocks, defs -/
inductive Out where
  | nx (ρ : Sg) (h : Mem) | rt (w : W) (h : Mem) | bk (ρ : Sg) (h : Mem) | ct (ρ : Sg) (h : Mem) | ex (w : W) (h : Mem) | no
abbrev Sm := Sg → Mem → Out
def Ks (Z : Zc) (φ : List Addr) (H : Hp) (n : St → Hp → Prop) : Sg → Mem → Prop := fun ρ' h' => ∀ φ' H' σ', Step φ H φ' H' → RH Z.T φ' h' H' → RS Z.T φ' H' ρ' σ' → Z.sg σ' → n σ' H'
def Out.post (Z : Zc) (φ : List Addr) (H : Hp) (D : Ends) : Out → Prop
  | .nx ρ h => Ks Z φ H D.nx ρ h
  | .rt w h => Kv Z.T φ H D.rt w h
  | .bk ρ h => Ks Z φ H D.bk ρ h
  | .ct ρ h => Ks Z φ H D.ct ρ h
  | .ex w h => Z.xw w h
  | .no => False
theorem Ks.step {Z : Zc} {φ φ' : List Addr} {H H' : Hp} {n : St → Hp → Prop} {ρ : Sg} {h : Mem} (k : Ks Z φ H n ρ h) (s : Step φ H φ' H') : Ks Z φ' H' n ρ h := fun φ2 H2 σ t r x g => k φ2 H2 σ (s.trans t) r x g
theorem post_step {Z : Zc} {φ φ' : List Addr} {H H' : Hp} {D : Ends} {o : Out} (k : o.post Z φ H D) (s : Step φ H φ' H') : o.post Z φ' H' D := by
  cases o with
  | nx ρ h => exact Ks.step k s
  | rt w h => exact Kv.step k s
  | bk ρ h => exact Ks.step k s
  | ct ρ h => exact Ks.step k s
  | ex w h => exact k
  | no => exact k
def tHS (Z : Zc) (F : Sm) : TS := fun D σ H => ∃ φ h ρ, Here Z σ H φ h ρ ∧ (F ρ h).post Z φ H D
def xNext : Sm := fun ρ h => .nx ρ h
def xSeq (F G : Sm) : Sm := fun ρ h => match F ρ h with
  | .nx ρ' h' => G ρ' h'
  | o => o
def xIfS (c : Ex) (F G : Sm) : Sm := fun ρ h => match c ρ h with
  | .ok (.bl true) h' => F ρ h'
  | .ok (.bl false) h' => G ρ h'
  | .ex w h' => .ex w h'
  | _ => .no
def xRet (f : Ex) : Sm := fun ρ h => match f ρ h with
  | .ok w h' => .rt w h'
  | .ex w h' => .ex w h'
  | .no => .no
def xDrop (f : Ex) : Sm := fun ρ h => match f ρ h with
  | .ok _ h' => .nx ρ h'
  | .ex w h' => .ex w h'
  | .no => .no
/-- a target: what it makes of the names -/
abbrev Tg := W → Sg → Option Sg
def gN (i : Nat) : Tg := fun w ρ => some (ρ.set i (some w))
def TgW (Z : Zc) (g : TG) (G : Tg) : Prop := ∀ σ H φ h ρ w v ρ' Q, Here Z σ H φ h ρ → RW Z.T φ H w v → G w ρ = some ρ' → (∀ σ', RS Z.T φ H ρ' σ' → Z.sg σ' → Q σ' H) → g v σ H Q
theorem tg_name {Z : Zc} {i : Nat} (hsg : ∀ σ v, Z.sg σ → Z.sg (σ.set i (some v))) : TgW Z (gName i) (gN i) := fun σ H φ h ρ w v ρ' Q x r e k => by
  cases e
  exact k _ (x.rs.set r) (hsg _ _ x.sg)
def xAsg (G : Tg) (f : Ex) : Sm := fun ρ h => match f ρ h with
  | .ok w h' => (match G w ρ with
    | some ρ' => .nx ρ' h'
    | none => .no)
  | .ex w h' => .ex w h'
  | .no => .no
def xLoop (G : Tg) (B : Sm) : List W → Sm
  | [], ρ, h => .nx ρ h
  | w :: r, ρ, h => match G w ρ with
    | none => .no
    | some ρ1 => (match B ρ1 h with
      | .nx ρ' h' => xLoop G B r ρ' h'
      | .ct ρ' h' => xLoop G B r ρ' h'
      | .bk ρ' h' => .nx ρ' h'
      | o => o)
/-- what is walked: where it stands in the store, if it does; the items -/
inductive RsI where
  | ok (src : Option Nat) (ws : List W) (h : Mem) | ex (w : W) (h : Mem) | no
abbrev Ei := Sg → Mem → RsI
def srcP (src : Option Nat) (ws : List W) (h : Mem) : Prop := match src with
  | none => True
  | some n => h[n]? = some (.lst ws)
structure ItOk (T : CTb) (φ : List Addr) (H : Hp) (J : It) (ws : List W) (P : Mem → Prop) : Prop where
  go : ∀ φ2 H2 h2 (i : Nat) w, Step φ H φ2 H2 → RH T φ2 h2 H2 → P h2 → ws[i]? = some w → J.go i H2
  yld : ∀ φ2 H2 h2 (i : Nat) w x H', Step φ H φ2 H2 → RH T φ2 h2 H2 → P h2 → ws[i]? = some w → J.yld i H2 x H' → H' = H2 ∧ RW T φ2 H2 w x
  stop : ∀ φ2 H2 h2, Step φ H φ2 H2 → RH T φ2 h2 H2 → P h2 → J.stop ws.length H2
theorem ItOk.step {T : CTb} {φ φ' : List Addr} {H H' : Hp} {J : It} {ws : List W} {P : Mem → Prop} (k : ItOk T φ H J ws P) (s : Step φ H φ' H') : ItOk T φ' H' J ws P :=
  ⟨fun a b c i w t => k.go a b c i w (s.trans t), fun a b c i w x y t => k.yld a b c i w x y (s.trans t), fun a b c t => k.stop a b c (s.trans t)⟩
def tHI (Z : Zc) (f : Ei) : TI := fun σ H R => ∃ φ h ρ, Here Z σ H φ h ρ ∧ match f ρ h with
  | .ok src ws h' => ∀ φ' H' J, Step φ H φ' H' → RH Z.T φ' h' H' → srcP src ws h' → ItOk Z.T φ' H' J ws (srcP src ws) → R J H'
  | .ex w h' => Z.xw w h'
  | .no => False
def xFor (f : Ei) (G : Tg) (B : Sm) : Sm := fun ρ h => match f ρ h with
  | .ok none ws h' => xLoop G B ws ρ h'
  | .ex w h' => .ex w h'
  | _ => .no
section
variable {X : Cx} {Z : Zc} {f g k : Ex} {fa : Exs} {e a b c : Expr} {es : List Expr} {pos : Pos} {F G B : Sm} {st : Stmt} {rest sts body : List Stmt} {fi : Ei} {tg iter : Expr}
theorem _root_.L2.PS.imp {t t' : TS} (h : PS X st t) (i : ∀ D σ H, t' D σ H → t D σ H) : PS X st t' := fun pins s σ H D I q => h pins s σ H D I (i D σ H q)
theorem _root_.L2.PSs.imp {t t' : TS} (h : PSs X sts t) (i : ∀ D σ H, t' D σ H → t D σ H) : PSs X sts t' := fun pins s σ H D I q => h pins s σ H D I (i D σ H q)
theorem _root_.L2.PI.imp {t t' : TI} (h : PI X tg iter t) (i : ∀ σ H R, t' σ H R → t σ H R) : PI X tg iter t' := fun pins s σ H R I q => h pins s σ H R I (i σ H R q)
theorem Here.nx {σ : St} {H : Hp} {φ : List Addr} {h : Mem} {ρ : Sg} {n : St → Hp → Prop} (x : Here Z σ H φ h ρ) (q : Ks Z φ H n ρ h) : n σ H := q φ H σ (Step.refl _ _) x.rh x.rs x.sg
theorem pssh_nil : PSs X [] (tHS Z xNext) := pss_nil.imp fun D σ H ⟨φ, h, ρ, x, q⟩ => x.nx q
theorem seq_ok {D : Ends} {σ : St} {H : Hp} (h : tHS Z (xSeq F G) D σ H) : tSeq (tHS Z F) (tHS Z G) D σ H := by
  obtain ⟨φ, h, ρ, x, q⟩ := h
  refine ⟨φ, h, ρ, x, ?_⟩
  unfold xSeq at q
  cases e : F ρ h with
  | nx ρ' h' =>
    rw [e] at q
    intro φ1 H1 σ1 s1 r1 rs1 g1
    exact ⟨φ1, h', ρ', ⟨g1, x.st.trans s1, r1, rs1⟩, post_step q s1⟩
  | rt w h' => rw [e] at q; exact q
  | bk ρ' h' => rw [e] at q; exact q
  | ct ρ' h' => rw [e] at q; exact q
  | ex w h' => rw [e] at q; exact q
  | no => rw [e] at q; exact q
theorem pssh_cons (h1 : PS X st (tHS Z F)) (h2 : PSs X rest (tHS Z G)) : PSs X (st :: rest) (tHS Z (xSeq F G)) := (pss_cons h1 h2).imp fun D σ H q => seq_ok q
theorem pssh_one (h1 : PS X st (tHS Z F)) : PSs X [st] (tHS Z F) := pss_one h1
theorem psh_ret (he : PE X e (tH Z f)) : PS X (.Return (some e) pos) (tHS Z (xRet f)) := (ps_ret he).imp fun D σ H ⟨φ, h, ρ, x, q⟩ => ⟨φ, h, ρ, x, by
  unfold xRet at q
  cases e : f ρ h with
  | ok w h' => rw [e] at q; exact q
  | ex w h' => rw [e] at q; exact q
  | no => rw [e] at q; exact q⟩
def xRetN : Sm := fun _ h => .rt .non h
theorem psh_expr (he : PE X e (tH Z f)) (hs : swapsWith e none pos.line X.env = pure false := by rfl) : PS X (.Expr e pos) (tHS Z (xDrop f)) := (ps_expr he hs).imp fun D σ H ⟨φ, h, ρ, x, q⟩ => ⟨φ, h, ρ, x, by
  unfold xDrop at q
  cases e : f ρ h with
  | ok w h' => rw [e] at q; exact fun φ1 H1 v s1 r1 _ => q φ1 H1 σ s1 r1 (x.rs.step s1) x.sg
  | ex w h' => rw [e] at q; exact q
  | no => rw [e] at q; exact q⟩
theorem psh_if (hc : PT X c (tHT Z f)) (ha : PSs X sts (tHS Z F)) (hb : PSs X rest (tHS Z G)) : PS X (.If c sts rest pos) (tHS Z (xIfS f F G)) := (ps_if hc ha hb).imp fun D σ H ⟨φ, h, ρ, x, q⟩ => ⟨φ, h, ρ, x, by
  unfold xIfS at q
  cases e : f ρ h with
  | ok w h' =>
    rw [e] at q
    cases w with
    | bl b =>
      cases b with
      | true => exact ⟨true, rfl, fun φ1 H1 s1 r1 => iteT ⟨φ1, h', ρ, x.step s1 r1, post_step q s1⟩⟩
      | false => exact ⟨false, rfl, fun φ1 H1 s1 r1 => iteF ⟨φ1, h', ρ, x.step s1 r1, post_step q s1⟩⟩
    | _ => exact q.elim
  | ex w h' => rw [e] at q; exact q
  | no => rw [e] at q; exact q⟩
theorem asg_ok {gg : TG} {Gt : Tg} (hw : TgW Z gg Gt) {D : Ends} {σ : St} {H : Hp} (h : tHS Z (xAsg Gt f) D σ H) : tAsg (tH Z f) gg D σ H := by
  obtain ⟨φ, h, ρ, x, q⟩ := h
  refine ⟨φ, h, ρ, x, ?_⟩
  unfold xAsg at q
  cases e : f ρ h with
  | ok w h' =>
    rw [e] at q
    intro φ1 H1 v s1 r1 rw1
    simp only at q
    cases e2 : Gt w ρ with
    | none => rw [e2] at q; exact q.elim
    | some ρ' =>
      rw [e2] at q
      exact hw σ H1 φ1 h' ρ w v ρ' _ (x.step s1 r1) rw1 e2 fun σ' rs g => q φ1 H1 σ' s1 r1 rs g
  | ex w h' => rw [e] at q; exact q
  | no => rw [e] at q; exact q
theorem psh_set {i : Nat} {x : Str} {pos' : Pos} (hN : X.N.Nodup) (hi : X.N[i]? = some x) (hx : Loc X.env.scope x) (hsg : ∀ σ v, Z.sg σ → Z.sg (σ.set i (some v))) (he : PE X e (tH Z f)) (hs : swapsWith e (some (.Name x pos')) pos.line X.env = pure false := by rfl)
    (hf : X.fn x = true ∨ X.env.scope.names.lookup x = some .local := by first | exact .inl rfl | exact .inr rfl | assumption) : PS X (.Assign [.Name x pos'] e pos) (tHS Z (xAsg (gN i) f)) := (ps_set hN hi hx he hs hf).imp fun D σ H q => asg_ok (tg_name hsg) q
/-- for, whatever is walked -/
theorem loop_ok {gg : TG} {Gt : Tg} (hw : TgW Z gg Gt) {J : It} {D : Ends} {ws : List W} {φ1 : List Addr} {H1 : Hp} {h1 : Mem} {σ : St} {ρ : Sg} (x : Here Z σ H1 φ1 h1 ρ) (it : ItOk Z.T φ1 H1 J ws fun _ => True) (q : (xLoop Gt B ws ρ h1).post Z φ1 H1 D) :
    ∃ Wd : Nat → Nat → St → Hp → Prop, (∃ m, Wd 0 m σ H1) ∧ ∀ i m σ H, Wd i m σ H → (J.stop i H ∧ D.nx σ H) ∨ (J.go i H ∧ ∃ N : St → Hp → Prop, (∀ σ' H', N σ' H' → ∃ m', m' < m ∧ Wd (i + 1) m' σ' H') ∧
      ∀ v H', J.yld i H v H' → gg v σ H' fun σ2 H2 => tHS Z B { D with nx := N, ct := N, bk := D.nx } σ2 H2) := by
  refine ⟨fun i m σ H => m = ws.length - i ∧ i ≤ ws.length ∧ ∃ φ h ρ, Step φ1 H1 φ H ∧ Here Z σ H φ h ρ ∧ (xLoop Gt B (ws.drop i) ρ h).post Z φ H D, ⟨ws.length, by simp, Nat.zero_le _, φ1, h1, ρ, Step.refl _ _, x, q⟩, ?_⟩
  rintro i m σ H ⟨rfl, hi, φ, h, ρ, s, y, q⟩
  by_cases hlt : i < ws.length
  · have ed : ws.drop i = ws[i] :: ws.drop (i + 1) := List.drop_eq_getElem_cons hlt
    have ei : ws[i]? = some ws[i] := by simp [hlt]
    refine .inr ⟨it.go φ H h i _ s y.rh trivial ei, fun σ' H' => i + 1 ≤ ws.length ∧ ∃ φ h ρ, Step φ1 H1 φ H' ∧ Here Z σ' H' φ h ρ ∧ (xLoop Gt B (ws.drop (i + 1)) ρ h).post Z φ H' D, fun σ' H' p => ⟨ws.length - (i + 1), by omega, rfl, p⟩, fun v H' yl => ?_⟩
    obtain ⟨rfl, rw1⟩ := it.yld φ H h i _ v H' s y.rh trivial ei yl
    rw [ed] at q
    unfold xLoop at q
    cases e2 : Gt ws[i] ρ with
    | none => rw [e2] at q; exact q.elim
    | some ρ' =>
      rw [e2] at q
      simp only at q
      refine hw σ H' φ h ρ _ v ρ' _ y rw1 e2 fun σ' rs g => ⟨φ, h, ρ', ⟨g, y.st, y.rh, rs⟩, ?_⟩
      cases e3 : B ρ' h with
      | nx ρ2 h2 =>
        rw [e3] at q
        exact fun φ2 H2 σ2 s2 r2 rs2 g2 => ⟨hlt, φ2, h2, ρ2, s.trans s2, ⟨g2, y.st.trans s2, r2, rs2⟩, post_step q s2⟩
      | ct ρ2 h2 =>
        rw [e3] at q
        exact fun φ2 H2 σ2 s2 r2 rs2 g2 => ⟨hlt, φ2, h2, ρ2, s.trans s2, ⟨g2, y.st.trans s2, r2, rs2⟩, post_step q s2⟩
      | bk ρ2 h2 => rw [e3] at q; exact q
      | rt w2 h2 => rw [e3] at q; exact q
      | ex w2 h2 => rw [e3] at q; exact q
      | no => rw [e3] at q; exact q.elim
  · have e : i = ws.length := by omega
    subst e
    rw [List.drop_length] at q
    exact .inl ⟨it.stop φ H h s y.rh trivial, y.nx q⟩
theorem for_ok {gg : TG} {Gt : Tg} (hw : TgW Z gg Gt) {D : Ends} {σ : St} {H : Hp} (h : tHS Z (xFor fi Gt B) D σ H) : tFor (tHI Z fi) gg (tHS Z B) D σ H := by
  obtain ⟨φ, h, ρ, x, q⟩ := h
  refine ⟨φ, h, ρ, x, ?_⟩
  unfold xFor at q
  cases e : fi ρ h with
  | no => rw [e] at q; exact q.elim
  | ex w h' => rw [e] at q; exact q
  | ok src ws h' =>
    rw [e] at q
    cases src with
    | some n => exact q.elim
    | none => exact fun φ1 H1 J s1 r1 _ it => loop_ok hw (x.step s1 r1) it (post_step q s1)
theorem psh_for {gg : TG} {Gt : Tg} (hw : TgW Z gg Gt) (hp : PassesOwn (model X.prog X.w) X.A X.env X.xe) (hc : X.calm = true) (hi : PI X tg iter (tHI Z fi)) (hg : PG X tg gg) (hb : PSs X body (tHS Z B)) (hs : ∀ x, foldedSetIterable iter X.env x = pure x := by intro _; rfl) :
    PS X (.For tg iter body [] pos) (tHS Z (xFor fi Gt B)) := (ps_for hp hc hi hg hb hs).imp fun D σ H q => for_ok hw q
/-! what is walked -/
def xIl (f : Ex) : Ei := fun ρ h => match f ρ h with
  | .ok (.tl ws) h' => .ok none ws h'
  | .ok (.ref n) h' => (match h'[n]? with
    | some (.lst ws) => .ok (some n) ws h'
    | _ => .no)
  | .ex w h' => .ex w h'
  | _ => .no
theorem rws_get {T : CTb} {φ : List Addr} {H : Hp} : ∀ {ws : List W} {vs : List V} {i : Nat} {w : W}, RWs T φ H ws vs → ws[i]? = some w → ∃ v, vs[i]? = some v ∧ RW T φ H w v
  | [], _, _, _, _, e => by simp at e
  | w :: ws, vs, i, u, h, e => by
    unfold RWs at h
    obtain ⟨v, r, rfl, a, b⟩ := h
    cases i with
    | zero => simp at e; subst e; exact ⟨v, by simp, a⟩
    | succ i =>
      obtain ⟨x, p, q⟩ := rws_get (i := i) b (by simpa using e)
      exact ⟨x, by simpa using p, q⟩
theorem phi_list (h : PE X iter (tH Z f)) : PI X tg iter (tHI Z (xIl f)) := by
  intro pins s σ H R I q
  have base : ∀ b o, X.base.get? b = some o → H b = none := fun b o e => (I.bs b o e).2
  refine pi_list h pins s σ H R I ?_
  obtain ⟨φ, m, ρ, x, q⟩ := q
  refine ⟨φ, m, ρ, x, ?_⟩
  unfold xIl at q
  cases e : f ρ m with
  | no => rw [e] at q; exact q.elim
  | ex w h' => rw [e] at q; exact q
  | ok w h' =>
    rw [e] at q
    intro φ1 H1 v s1 r1 rw1
    cases w with
    | tl ws =>
      unfold RW at rw1
      obtain ⟨p, vs, rfl, np, hp, rws⟩ := rw1
      refine ⟨p, rfl, ⟨vs, lstAt_sq hp⟩, q φ1 H1 _ s1 r1 trivial ?_⟩
      obtain ⟨o, ho, ko⟩ := lstAt_cases hp
      refine ⟨fun φ2 H2 h2 i w s2 r2 _ ei => ?_, fun φ2 H2 h2 i w y H' s2 r2 _ ei yl => ?_, fun φ2 H2 h2 s2 r2 _ => ?_⟩
      · obtain ⟨v, ev, _⟩ := rws_get rws ei
        exact ⟨vs, v, lstAt_sq (ko H2 (s2.keep _ _ ho np)), ev⟩
      · obtain ⟨v, ev, rv⟩ := rws_get rws ei
        obtain ⟨rfl, z⟩ := yl
        have := z vs (lstAt_sq (ko _ (s2.keep _ _ ho np)))
        rw [ev] at this; cases this
        exact ⟨rfl, rv.step s2⟩
      · exact ⟨vs, lstAt_sq (ko H2 (s2.keep _ _ ho np)), by rw [rws.length]; exact Nat.le_refl _⟩
    | ref n =>
      simp only at q
      cases e2 : h'[n]? with
      | none => rw [e2] at q; exact q.elim
      | some o =>
        rw [e2] at q
        cases o with
        | lst ws =>
          simp only at q
          unfold RW at rw1
          obtain ⟨p, hp, rfl⟩ := rw1
          have rd : ∀ φ2 H2 h2, Step φ1 H1 φ2 H2 → RH Z.T φ2 h2 H2 → h2[n]? = some (.lst ws) → ∃ vs, H2 p = some (.lst vs) ∧ RWs Z.T φ2 H2 ws vs := fun φ2 H2 h2 s2 r2 e3 => by
            obtain ⟨ho, y1, y2⟩ := r2.obj n _ p e3 (s2.get hp)
            obtain ⟨vs, rfl, y3⟩ := y2
            exact ⟨vs, y1, y3⟩
          obtain ⟨vs, hv, rws⟩ := rd φ1 H1 h' (Step.refl _ _) r1 e2
          refine ⟨p, rfl, ⟨vs, lstAt_sq (lstAt_of hv)⟩, q φ1 H1 _ s1 r1 e2 ⟨fun φ2 H2 h2 i w s2 r2 e3 ei => ?_, fun φ2 H2 h2 i w y H' s2 r2 e3 ei yl => ?_, fun φ2 H2 h2 s2 r2 e3 => ?_⟩⟩
          · obtain ⟨vs2, hv2, rws2⟩ := rd φ2 H2 h2 s2 r2 e3
            obtain ⟨v, ev, _⟩ := rws_get rws2 ei
            exact ⟨vs2, v, lstAt_sq (lstAt_of hv2), ev⟩
          · obtain ⟨vs2, hv2, rws2⟩ := rd φ2 H2 h2 s2 r2 e3
            obtain ⟨v, ev, rv⟩ := rws_get rws2 ei
            obtain ⟨rfl, z⟩ := yl
            have := z vs2 (lstAt_sq (lstAt_of hv2))
            rw [ev] at this; cases this
            exact ⟨rfl, rv⟩
          · obtain ⟨vs2, hv2, rws2⟩ := rd φ2 H2 h2 s2 r2 e3
            exact ⟨vs2, lstAt_sq (lstAt_of hv2), by rw [rws2.length]; exact Nat.le_refl _⟩
        | _ => exact q.elim
    | _ => exact q.elim
def xIt (f : Ex) : Ei := fun ρ h => match f ρ h with
  | .ok (.tup ws) h' => .ok none ws h'
  | .ex w h' => .ex w h'
  | _ => .no
/-- lo, lo + 1, .., n of them -/
def rngW (lo : Int) (n : Nat) : List W := (List.range n).map fun (i : Nat) => .int (lo + (i : Int))
def xIr1 (f : Ex) : Ei := fun ρ h => match f ρ h with
  | .ok (.int j) h' => cond (decide (-(2 ^ 62) ≤ j) && decide (j < 2 ^ 62)) (.ok none (rngW 0 j.toNat) h') .no
  | .ex w h' => .ex w h'
  | _ => .no
theorem int_rw {T : CTb} {φ : List Addr} {H : Hp} {v : V} {c : Int} (h : RW T φ H (.int c) v) : v = .int c := by unfold RW at h; exact h
theorem str_rw {T : CTb} {φ : List Addr} {H : Hp} {v : V} {c : Str} (h : RW T φ H (.str c) v) : v = .str c := by unfold RW at h; exact h
end
end M

set_option Elab.async false
set_option linter.all false
set_option maxRecDepth 100000
set_option maxHeartbeats 1000000
namespace M
open PySem PySem.Spec PyProof.Rows L2
/-! ## MD: what is forgotten; blocks; defs -/
mutual
/-- all places of the store in it are below k -/
def ltW (k : Nat) : W → Bool
  | .ref n => decide (n < k)
  | .tup ws => ltWs k ws
  | .tl ws => ltWs k ws
  | .td _ ws => ltWs k ws
  | .ti _ _ ws => ltWs k ws
  | .exc _ _ ws => ltWs k ws
  | .non => true
  | .bl _ => true
  | .int _ => true
  | .str _ => true
  | .ty _ => true
  | .cls _ => true
def ltWs (k : Nat) : List W → Bool
  | [] => true
  | w :: ws => ltW k w && ltWs k ws
end
def ltO (k : Nat) : O → Bool
  | .lst ws => ltWs k ws
  | .dic kvs => ltWs k (kvs.map (·.2))
  | .ins _ fs => ltWs k (fs.map (·.2))
section
variable {T : CTb} {φ φ' : List Addr} {H H' : Hp}
mutual
theorem RW.lt : ∀ {w : W} {v : V}, RW T φ H w v → ltW φ.length w = true
  | .non, v, h => by unfold ltW; rfl
  | .bl b, v, h => by unfold ltW; rfl
  | .int i, v, h => by unfold ltW; rfl
  | .str x, v, h => by unfold ltW; rfl
  | .ty n, v, h => by unfold ltW; rfl
  | .cls c, v, h => by unfold ltW; rfl
  | .ref n, v, h => by
    unfold RW at h; unfold ltW
    obtain ⟨a, e, q⟩ := h
    exact decide_eq_true (List.getElem?_eq_some_iff.mp e).1
  | .tup ws, v, h => by
    unfold RW at h; unfold ltW
    obtain ⟨p, vs, e, n, q, r⟩ := h
    exact RWs.lt r
  | .tl ws, v, h => by
    unfold RW at h; unfold ltW
    obtain ⟨p, vs, e, n, q, r⟩ := h
    exact RWs.lt r
  | .td ks ws, v, h => by
    unfold RW at h; unfold ltW
    obtain ⟨p, vs, e, n, q, l, r⟩ := h
    exact RWs.lt r
  | .ti c fs ws, v, h => by
    unfold RW at h; unfold ltW
    obtain ⟨p, C, dx, vs, e, n, c, q, l, r⟩ := h
    exact RWs.lt r
  | .exc c fs ws, v, h => by
    unfold RW at h; unfold ltW
    obtain ⟨e, C, d, vs, q, n, c, x, l, m, r⟩ := h
    exact RWs.lt r
theorem RWs.lt : ∀ {ws : List W} {vs : List V}, RWs T φ H ws vs → ltWs φ.length ws = true
  | [], vs, h => by unfold ltWs; rfl
  | w :: ws, vs, h => by
    unfold RWs at h; unfold ltWs
    obtain ⟨v, r, e, a, b⟩ := h
    rw [RW.lt a, RWs.lt b]; rfl
end
mutual
theorem RW.narrow (pre : φ <+: φ') : ∀ {w : W} {v : V}, ltW φ.length w = true → RW T φ' H w v → RW T φ H w v
  | .non, v, l, h => by unfold RW at h ⊢; exact h
  | .bl b, v, l, h => by unfold RW at h ⊢; exact h
  | .int i, v, l, h => by unfold RW at h ⊢; exact h
  | .str x, v, l, h => by unfold RW at h ⊢; exact h
  | .ty n, v, l, h => by unfold RW at h ⊢; exact h
  | .cls c, v, l, h => by unfold RW at h ⊢; exact h
  | .ref n, v, l, h => by
    unfold RW at h ⊢; unfold ltW at l
    obtain ⟨a, e, q⟩ := h
    refine ⟨a, ?_, q⟩
    obtain ⟨t, rfl⟩ := pre
    rw [List.getElem?_append_left (of_decide_eq_true l)] at e
    exact e
  | .tup ws, v, l, h => by
    unfold RW at h ⊢; unfold ltW at l
    obtain ⟨p, vs, e, n, q, r⟩ := h
    exact ⟨p, vs, e, fun z => n (pre.subset z), q, RWs.narrow pre l r⟩
  | .tl ws, v, l, h => by
    unfold RW at h ⊢; unfold ltW at l
    obtain ⟨p, vs, e, n, q, r⟩ := h
    exact ⟨p, vs, e, fun z => n (pre.subset z), q, RWs.narrow pre l r⟩
  | .td ks ws, v, l, h => by
    unfold RW at h ⊢; unfold ltW at l
    obtain ⟨p, vs, e, n, q, g, r⟩ := h
    exact ⟨p, vs, e, fun z => n (pre.subset z), q, g, RWs.narrow pre l r⟩
  | .ti c fs ws, v, l, h => by
    unfold RW at h ⊢; unfold ltW at l
    obtain ⟨p, C, dx, vs, e, n, c, q, g, r⟩ := h
    exact ⟨p, C, dx, vs, e, fun z => n (pre.subset z), c, q, g, RWs.narrow pre l r⟩
  | .exc c fs ws, v, l, h => by
    unfold RW at h ⊢; unfold ltW at l
    obtain ⟨e, C, d, vs, q, n, c, x, g, m, r⟩ := h
    refine ⟨e, C, d, vs, q, fun z => n (pre.subset z), c, x, g, ?_, RWs.narrow pre l r⟩
    cases d with
    | none => exact m
    | some da => exact ⟨fun z => m.1 (pre.subset z), m.2⟩
theorem RWs.narrow (pre : φ <+: φ') : ∀ {ws : List W} {vs : List V}, ltWs φ.length ws = true → RWs T φ' H ws vs → RWs T φ H ws vs
  | [], vs, l, h => by unfold RWs at h ⊢; exact h
  | w :: ws, vs, l, h => by
    unfold RWs at h ⊢; unfold ltWs at l
    rw [Bool.and_eq_true] at l
    obtain ⟨v, r, e, a, b⟩ := h
    exact ⟨v, r, e, RW.narrow pre l.1 a, RWs.narrow pre l.2 b⟩
end
theorem rp_lt {κ : Type} {ps : List (κ × W)} {qs : List (κ × V)} (h : RP T φ H ps qs) : ltWs φ.length (ps.map (·.2)) = true := by
  induction h with
  | nil => unfold ltWs; rfl
  | cons a _ ih => rw [List.map_cons]; unfold ltWs; rw [RW.lt a.2, ih]; rfl
theorem rp_narrow {κ : Type} (pre : φ <+: φ') {ps : List (κ × W)} {qs : List (κ × V)} (l : ltWs φ.length (ps.map (·.2)) = true) (h : RP T φ' H ps qs) : RP T φ H ps qs := by
  induction h with
  | nil => exact .nil
  | cons a _ ih =>
    rw [List.map_cons] at l; unfold ltWs at l
    rw [Bool.and_eq_true] at l
    exact .cons ⟨a.1, RW.narrow pre l.1 a.2⟩ (ih l.2)
theorem RO.lt {o : O} {ho : HO} (h : RO T φ H o ho) : ltO φ.length o = true := by
  cases o with
  | lst ws => obtain ⟨vs, e, r⟩ := h; exact RWs.lt r
  | dic kvs => obtain ⟨kv, e, r⟩ := h; exact rp_lt r
  | ins c fs => obtain ⟨C, dx, fv, e, c, r⟩ := h; exact rp_lt r
theorem RO.narrow (pre : φ <+: φ') {o : O} {ho : HO} (l : ltO φ.length o = true) (h : RO T φ' H o ho) : RO T φ H o ho := by
  cases o with
  | lst ws => obtain ⟨vs, e, r⟩ := h; exact ⟨vs, e, RWs.narrow pre l r⟩
  | dic kvs => obtain ⟨kv, e, r⟩ := h; exact ⟨kv, e, rp_narrow pre l r⟩
  | ins c fs => obtain ⟨C, dx, fv, e, c, r⟩ := h; exact ⟨C, dx, fv, e, c, rp_narrow pre l r⟩
/-- all of the store is below its own length -/
def Wf (h : Mem) : Prop := ∀ o ∈ h, ltO h.length o = true
theorem RH.wf {h : Mem} (r : RH T φ h H) : Wf h := fun o m => by
  obtain ⟨n, hn, e⟩ := List.getElem_of_mem m
  obtain ⟨a, ho, _, _, x⟩ := r.at (n := n) (o := o) (by simp [hn, e])
  rw [← r.len]
  exact x.lt
theorem RH.drop {h g : Mem} (r : RH T φ' (h ++ g) H) (w : Wf h) : ∃ φ, φ <+: φ' ∧ φ.length = h.length ∧ RH T φ h H := by
  have hl := r.len
  rw [List.length_append] at hl
  have hk : (φ'.take h.length).length = h.length := by rw [List.length_take]; omega
  refine ⟨φ'.take h.length, List.take_prefix _ _, hk, hk, r.nd.sublist (List.take_sublist _ _), fun n o a e q => ?_⟩
  have hn : n < h.length := (List.getElem?_eq_some_iff.mp e).1
  rw [List.getElem?_take_of_lt hn] at q
  obtain ⟨ho, x, y⟩ := r.obj n o a (by rw [List.getElem?_append_left hn]; exact e) q
  refine ⟨ho, x, y.narrow (List.take_prefix _ _) ?_⟩
  rw [hk]
  exact w o (List.mem_of_getElem? e)
end
/-! blocks -/
def ρC (own : Nat) (ix : List Nat) (ρ : Sg) : Sg := List.replicate own none ++ ix.map fun j => (ρ[j]?).join
def xBlk (G : Tg) (c el : Ex) (ρ0 : Sg) (h : Mem) : List W → List W → Option (List W)
  | [], acc => some acc
  | w :: r, acc => match G w ρ0 with
    | none => none
    | some ρ => (match c ρ (h ++ [.lst acc]) with
      | .ok (.bl true) _ => (match el ρ (h ++ [.lst acc]) with
        | .ok x _ => if ltW h.length x = true then xBlk G c el ρ0 h r (acc ++ [x]) else none
        | _ => none)
      | .ok (.bl false) _ => xBlk G c el ρ0 h r acc
      | _ => none)
def xComp (fi : Ei) (own : Nat) (ix : List Nat) (G : Tg) (c el : Ex) : Ex := fun ρ h => match fi ρ h with
  | .ok _ ws h1 => if ws.length < sizeLine then (match xBlk G c el (ρC own ix ρ) h1 ws [] with
    | some out => .ok (.tl out) h1
    | none => .no) else .no
  | .ex w h1 => .ex w h1
  | .no => .no
/-- nothing of the store is changed -/
class Pu (f : Ex) : Prop where
  pu : ∀ ρ h w h', f ρ h = .ok w h' → h' = h
class PuS (f : Exs) : Prop where
  pu : ∀ ρ h w h', f ρ h = .ok w h' → h' = h
class PuI (f : Ei) : Prop where
  pu : ∀ ρ h s w h', f ρ h = .ok s w h' → h' = h
section
variable {X : Cx} {Z : Zc} {f g k : Ex} {fa : Exs} {fi : Ei} {osc : Scope} {N own fr : List Str} {ix : List Nat} {scope : Scope} {tg iter elt : Expr} {ifs : List Expr} {pos : Pos} {e c : Expr}
end
end M

set_option Elab.async false
set_option linter.all false
set_option maxRecDepth 100000
set_option maxHeartbeats 1000000
namespace M
open PySem PySem.Spec PyProof.Rows L2
/-! ## ME: defs and calls -/
/-- an exception: its class, its dict -/
def RX (T : CTb) (φ : List Addr) (H : Hp) (w : W) (cv : Value) (da : Option Addr) : Prop := match w with
  | .exc c fs ws => ∃ C vs, T.x c = some C ∧ cv = .ref C ∧ fs.length = ws.length ∧ RWs T φ H ws vs ∧ (match da with
    | some d => d ∉ φ ∧ H d = some (.xd (fs.zip vs))
    | none => fs = [])
  | _ => False
abbrev Fm := List W → Mem → Res
def spH (T : CTb) (F : Fm) : Sp := fun vs H Q E => ∃ φ h ws, RH T φ h H ∧ RWs T φ H ws vs ∧ (F ws h).post (Kv T φ H Q) (fun w h' => ∀ φ' H' cv da, Step φ H φ' H' → RH T φ' h' H' → RX T φ' H' w cv da → E cv da H')
def startW (n : Nat) (ws : List W) : Sg := ws.map some ++ List.replicate (n - ws.length) none
def Out.res : Out → Res
  | .rt w h => .ok w h
  | .nx _ h => .ok .non h
  | .ex w h => .ex w h
  | _ => .no
def runB (n : Nat) (B : Sm) (ws : List W) (h : Mem) : Res := (B (startW n ws) h).res
/-- the first is what is told of the second: what nobody reaches may be forgotten -/
def Fits (k : Nat) (r r' : Res) : Prop := match r, r' with
  | .ok w h, .ok w' h' => ∀ T φ' H' v, RH T φ' h' H' → RW T φ' H' w' v → ∃ φ1, φ1 <+: φ' ∧ k ≤ φ1.length ∧ RH T φ1 h H' ∧ RW T φ1 H' w v
  | .ex w h, .ex w' h' => ∀ T φ' H' cv da, RH T φ' h' H' → RX T φ' H' w' cv da → ∃ φ1, φ1 <+: φ' ∧ k ≤ φ1.length ∧ RH T φ1 h H' ∧ RX T φ1 H' w cv da
  | .no, _ => True
  | _, _ => False
theorem fits_ok {k : Nat} {w : W} {h : Mem} (hk : k ≤ h.length) : Fits k (.ok w h) (.ok w h) := fun T φ' H' v r x => ⟨φ', List.prefix_refl _, by rw [r.len]; exact hk, r, x⟩
theorem fits_ex {k : Nat} {w : W} {h : Mem} (hk : k ≤ h.length) : Fits k (.ex w h) (.ex w h) := fun T φ' H' cv da r x => ⟨φ', List.prefix_refl _, by rw [r.len]; exact hk, r, x⟩
theorem fits_drop {k : Nat} {w : W} {h g : Mem} (hk : k ≤ h.length) (wf : Wf h) (lt : ltW h.length w = true) : Fits k (.ok w h) (.ok w (h ++ g)) := fun T φ' H' v r x => by
  obtain ⟨φ1, p1, l1, r1⟩ := r.drop wf
  exact ⟨φ1, p1, by rw [l1]; exact hk, r1, x.narrow p1 (by rw [l1]; exact lt)⟩
def Zf (T : CTb) (φ : List Addr) (H : Hp) : Zc := ⟨T, φ, H, fun _ => True, fun _ _ => False⟩
theorem rs_start {T : CTb} {φ : List Addr} {H : Hp} {ws : List W} {vs : List V} {N : List Str} (r : RWs T φ H ws vs) : RS T φ H (startW N.length ws) (L2.start N vs) := by
  have hl := r.length
  refine ⟨by simp [startW, L2.start, hl], fun i w e => ?_⟩
  unfold startW at e
  unfold L2.start
  by_cases hi : i < ws.length
  · rw [List.getElem?_append_left (by simpa using hi), List.getElem?_map] at e
    cases q : ws[i]? with
    | none => rw [q] at e; cases e
    | some u =>
      rw [q] at e
      cases e
      obtain ⟨v, a, b⟩ := rws_get r q
      exact ⟨v, by rw [List.getElem?_append_left (by simpa [← hl] using hi), List.getElem?_map, a]; rfl, b⟩
  · rw [List.getElem?_append_right (by simpa using hi), List.getElem?_replicate] at e
    split at e <;> cases e
theorem step_fits {φ φ' φ1 : List Addr} {H H' : Hp} (s : Step φ H φ' H') (p : φ1 <+: φ') (l : φ.length ≤ φ1.length) : Step φ H φ1 H' :=
  ⟨List.prefix_of_prefix_length_le s.pre p l, s.keep, fun a m n => s.new a (p.subset m) n⟩
/-- a body's end, told as the def's -/
theorem body_ok {T : CTb} {φ : List Addr} {H : Hp} {h : Mem} {o : Out} {r : Res} {Q : VK} {E : W → Mem → Prop} (hl : φ.length = h.length) (ft : Fits h.length r o.res) (q : r.post (Kv T φ H Q) E) (hE : ∀ w m w' m', r = .ex w m → o = .ex w' m' → False) :
    o.post (Zf T φ H) φ H { nx := fun _ H' => Q .non H', rt := Q } := by
  cases r with
  | no => exact q.elim
  | ex w m =>
    cases o with
    | ex w' m' => exact (hE _ _ _ _ rfl rfl).elim
    | _ => exact ft.elim
  | ok w m =>
    cases o with
    | rt w' m' =>
      intro φ' H' v s r x
      obtain ⟨φ1, p1, l1, r1, x1⟩ := ft T φ' H' v r x
      exact q φ1 H' v (step_fits s p1 (by rw [hl]; exact l1)) r1 x1
    | nx ρ' m' =>
      intro φ' H' σ' s r rs _
      obtain ⟨φ1, p1, l1, r1, x1⟩ := ft T φ' H' .non r (by unfold RW; rfl)
      exact q φ1 H' .non (step_fits s p1 (by rw [hl]; exact l1)) r1 x1
    | _ => exact ft.elim
section
variable {P : Program} {w : World} {K : PySem.W.Frag} {mg : Str → Option Value} {base : Heap} {T : CTb}
/-- what a def's body must show -/
def Told (n m : Nat) (B : Sm) (F : Fm) : Prop := ∀ ws h, Wf h → ltWs h.length ws = true → F ws h = .no ∨ (ws.length = n ∧ Fits h.length (F ws h) (runB m B ws h))
theorem fun0 {x : Str} {st : Stmt} {N ps : List Str} {k : Nat} {F : Fm} {f : Addr} {fd : FuncData} {B : Sm} (R : Fun K x x st f fd) (S : FnScope N ps (defScope st))
    (hB : ∀ (cdv : Value) (A : Around) (outer : List Env) (s : Shared) (H : Hp) (E : XK) (φ0 : List Addr) (H0 : Hp), Room k (A.deeper (envOfC x (defScope st) s.heap.objs.size f cdv)) → PSs (cxOf CX0 P w K mg base N x (defScope st) f cdv A outer s H E).nox (defBody st) (tHS (Zf T φ0 H0) B))
    (hx : ∀ ws h w m, F ws h ≠ .ex w m) (hF : Told ps.length N.length B F) : FnOk P w K mg base CX0 (k + 1) f fd ps (spH T F) := by
  refine R.ok S (fun vs H Q E h => ?_) (fun cdv A outer s H vs Q E hr h => ?_)
  · obtain ⟨φ, h, ws, r, rv, q⟩ := h
    rcases hF ws h r.wf (by rw [← r.len]; exact rv.lt) with e | ⟨e, _⟩
    · rw [e] at q; exact q.elim
    · rw [← rv.length]; exact e
  · obtain ⟨φ, h, ws, r, rv, q⟩ := h
    refine ⟨_, hB cdv A outer s H E φ H hr, φ, h, startW N.length ws, ⟨trivial, Step.refl _ _, r, rs_start rv⟩, ?_⟩
    rcases hF ws h r.wf (by rw [← r.len]; exact rv.lt) with e | ⟨e, ft⟩
    · rw [e] at q; exact q.elim
    · exact body_ok r.len ft q fun _ _ _ _ e _ => hx _ _ _ _ e
theorem def0 {x : Str} {st : Stmt} {N ps : List Str} {k : Nat} {F : Fm} {B : Sm} (R : DefAt K mg x st) (S : FnScope N ps (defScope st)) (hb : BindsAll x x st ps)
    (hB : ∀ (f : Addr) (cdv : Value) (A : Around) (outer : List Env) (s : Shared) (H : Hp) (E : XK) (φ0 : List Addr) (H0 : Hp), Room k (A.deeper (envOfC x (defScope st) s.heap.objs.size f cdv)) → PSs (cxOf CX0 P w K mg base N x (defScope st) f cdv A outer s H E).nox (defBody st) (tHS (Zf T φ0 H0) B))
    (hx : ∀ ws h w m, F ws h ≠ .ex w m) (hF : Told ps.length N.length B F) : FnAt P w K mg base CX0 (k + 1) x (spH T F) := by
  obtain ⟨f, fd, R, hm⟩ := R
  exact ⟨f, fd, ps, fun0 R S (hB f) hx hF, hm, R.kp, R.binds hb⟩
end
def xCall0 (F : Fm) (f : Exs) : Ex := fun ρ h => match f ρ h with
  | .ok ws h1 => (match F ws h1 with
    | .ok w h2 => .ok w h2
    | _ => .no)
  | .ex w h1 => .ex w h1
  | .no => .no
section
variable {X : Cx} {Z : Zc} {fa : Exs} {k j : Nat} {F : Fm} {x : Str} {p pos : Pos} {e : Expr} {es : List Expr}
theorem call0_ok {E : XK} {σ : St} {H : Hp} {Q : VK} (q : tH Z (xCall0 F fa) σ H Q) : tCall (spH Z.T F) [] E (tHA Z fa) σ H Q := by
  obtain ⟨φ, h, ρ, x, q⟩ := q
  refine ⟨φ, h, ρ, x, ?_⟩
  unfold xCall0 at q
  cases e : fa ρ h with
  | no => rw [e] at q; exact q.elim
  | ex w h' => rw [e] at q; exact q
  | ok ws h1 =>
    rw [e] at q
    intro φ1 H1 vs s1 r1 rw1
    rw [List.append_nil]
    refine ⟨φ1, h1, ws, r1, rw1, ?_⟩
    simp only at q
    cases e2 : F ws h1 with
    | no => rw [e2] at q; exact q.elim
    | ex w h' => rw [e2] at q; exact q.elim
    | ok w h2 => rw [e2] at q; exact Kv.step q s1
theorem ph_fn0 (G : FnAt X.prog X.w X.K X.mg X.base CX0 k x (spH Z.T F)) (hr : Room j X.A) (hkj : k ≤ j) (hg : Gl X x) (ha : PA X (e :: es) (tHA Z fa)) (hdb : (x == ("__debug__" : Str)) = false := by decide)
    (he : starEach (e :: es) X.env = (false, eval e X.env) :: starEach es X.env := by rfl) (hpl : (backTo pos (starEach es X.env)).any (·.1) = false := by rfl) (hcl : X.calm = true := by rfl) : PE X (.Call (.Name x p) (e :: es) [] pos) (tH Z (xCall0 F fa)) :=
  (pe_fn G hr hkj hg (pass0 hcl) ha hdb he hpl).imp fun σ H Q q => call0_ok q
end
class PuF (F : Fm) : Prop where
  pu : ∀ ws h w h', F ws h = .ok w h' → h' = h
instance pu_var {i : Nat} : Pu (xVar i) := ⟨fun ρ h w h' e => by
  unfold xVar at e
  split at e
  · cases e; rfl
  · cases e⟩
instance pu_c {w : W} : Pu (xC w) := ⟨fun ρ h w h' e => by cases e; rfl⟩
theorem bind_ok {r : Res} {k : W → Mem → Res} {w : W} {h : Mem} (e : r.bind k = .ok w h) : ∃ a h1, r = .ok a h1 ∧ k a h1 = .ok w h := by
  cases r with
  | ok a h1 => exact ⟨a, h1, rfl, e⟩
  | ex _ _ => cases e
  | no => cases e
theorem of_ok {o : Option W} {h h' : Mem} {w : W} (e : Res.of o h = .ok w h') : o = some w ∧ h' = h := by
  cases o with
  | none => cases e
  | some x => cases e; exact ⟨rfl, rfl⟩
instance pu_bin {o : Mem → W → W → Option W} {f g : Ex} [hf : Pu f] [hg : Pu g] : Pu (xBin o f g) := ⟨fun ρ h w h' e => by
  obtain ⟨a, h1, e1, e⟩ := bind_ok e
  obtain ⟨b, h2, e2, e⟩ := bind_ok e
  rw [(of_ok e).2, hg.pu _ _ _ _ e2, hf.pu _ _ _ _ e1]⟩
instance pu_un {o : Mem → W → Option W} {f : Ex} [hf : Pu f] : Pu (xUn o f) := ⟨fun ρ h w h' e => by
  obtain ⟨a, h1, e1, e⟩ := bind_ok e
  rw [(of_ok e).2, hf.pu _ _ _ _ e1]⟩
instance pu_nil : PuS xNil := ⟨fun ρ h w h' e => by cases e; rfl⟩
instance pu_cons {f : Ex} {g : Exs} [hf : Pu f] [hg : PuS g] : PuS (xCons f g) := ⟨fun ρ h w h' e => by
  unfold xCons at e
  cases e1 : f ρ h with
  | no => rw [e1] at e; cases e
  | ex _ _ => rw [e1] at e; cases e
  | ok a h1 =>
    rw [e1] at e
    simp only at e
    cases e2 : g ρ h1 with
    | no => rw [e2] at e; cases e
    | ex _ _ => rw [e2] at e; cases e
    | ok b h2 =>
      rw [e2] at e
      cases e
      rw [hg.pu _ _ _ _ e2, hf.pu _ _ _ _ e1]⟩
instance pu_cb {o : Mem → List W → Option W} {f : Exs} [hf : PuS f] : Pu (xCb o f) := ⟨fun ρ h w h' e => by
  unfold xCb at e
  cases e1 : f ρ h with
  | no => rw [e1] at e; cases e
  | ex _ _ => rw [e1] at e; cases e
  | ok a h1 => rw [e1] at e; rw [(of_ok e).2, hf.pu _ _ _ _ e1]⟩
instance pu_bm {o : Mem → W → List W → Option W} {f : Ex} {g : Exs} [hf : Pu f] [hg : PuS g] : Pu (xBm o f g) := ⟨fun ρ h w h' e => by
  obtain ⟨a, h1, e1, e⟩ := bind_ok e
  cases e2 : g ρ h1 with
  | no => simp [e2] at e
  | ex _ _ => simp [e2] at e
  | ok b h2 => simp only [e2] at e; rw [(of_ok e).2, hg.pu _ _ _ _ e2, hf.pu _ _ _ _ e1]⟩
instance pu_and {f g : Ex} [hf : Pu f] [hg : Pu g] : Pu (xAnd f g) := ⟨fun ρ h w h' e => by
  obtain ⟨a, h1, e1, e⟩ := bind_ok e
  split at e
  · rw [hg.pu _ _ _ _ e, hf.pu _ _ _ _ e1]
  · cases e; exact hf.pu _ _ _ _ e1
  · cases e⟩
instance pu_or {f g : Ex} [hf : Pu f] [hg : Pu g] : Pu (xOr f g) := ⟨fun ρ h w h' e => by
  obtain ⟨a, h1, e1, e⟩ := bind_ok e
  split at e
  · cases e; exact hf.pu _ _ _ _ e1
  · rw [hg.pu _ _ _ _ e, hf.pu _ _ _ _ e1]
  · cases e⟩
instance pu_not {f : Ex} [hf : Pu f] : Pu (xNot f) := ⟨fun ρ h w h' e => by
  obtain ⟨a, h1, e1, e⟩ := bind_ok e
  split at e
  · cases e; exact hf.pu _ _ _ _ e1
  · cases e⟩
instance pu_if {c f g : Ex} [hc : Pu c] [hf : Pu f] [hg : Pu g] : Pu (xIf c f g) := ⟨fun ρ h w h' e => by
  obtain ⟨a, h1, e1, e⟩ := bind_ok e
  split at e
  · rw [hf.pu _ _ _ _ e, hc.pu _ _ _ _ e1]
  · rw [hg.pu _ _ _ _ e, hc.pu _ _ _ _ e1]
  · cases e⟩
instance pu_chain {o o' : Mem → W → W → Option W} {f g k : Ex} [hf : Pu f] [hg : Pu g] [hk : Pu k] : Pu (xChain o o' f g k) := ⟨fun ρ h w h' e => by
  obtain ⟨a, h1, e1, e⟩ := bind_ok e
  obtain ⟨b, h2, e2, e⟩ := bind_ok e
  split at e
  · obtain ⟨c, h3, e3, e⟩ := bind_ok e
    split at e
    · cases e; rw [hk.pu _ _ _ _ e3, hg.pu _ _ _ _ e2, hf.pu _ _ _ _ e1]
    · cases e
  · cases e; rw [hg.pu _ _ _ _ e2, hf.pu _ _ _ _ e1]
  · cases e⟩
instance pu_tup {f : Exs} [hf : PuS f] : Pu (xTup f) := ⟨fun ρ h w h' e => by
  unfold xTup at e
  cases e1 : f ρ h with
  | no => rw [e1] at e; cases e
  | ex _ _ => rw [e1] at e; cases e
  | ok a h1 =>
    rw [e1] at e
    simp only at e
    split at e
    · cases e; exact hf.pu _ _ _ _ e1
    · cases e⟩
instance pu_lst {f : Exs} [hf : PuS f] : Pu (xLst f) := ⟨fun ρ h w h' e => by
  unfold xLst at e
  cases e1 : f ρ h with
  | no => rw [e1] at e; cases e
  | ex _ _ => rw [e1] at e; cases e
  | ok a h1 =>
    rw [e1] at e
    simp only at e
    split at e
    · cases e; exact hf.pu _ _ _ _ e1
    · cases e⟩
instance pu_call0 {F : Fm} {f : Exs} [hF : PuF F] [hf : PuS f] : Pu (xCall0 F f) := ⟨fun ρ h w h' e => by
  unfold xCall0 at e
  cases e1 : f ρ h with
  | no => rw [e1] at e; cases e
  | ex _ _ => rw [e1] at e; cases e
  | ok a h1 =>
    rw [e1] at e
    simp only at e
    cases e2 : F a h1 with
    | no => rw [e2] at e; cases e
    | ex _ _ => rw [e2] at e; cases e
    | ok b h2 =>
      rw [e2] at e
      cases e
      rw [hF.pu _ _ _ _ e2, hf.pu _ _ _ _ e1]⟩
instance pu_il {f : Ex} [hf : Pu f] : PuI (xIl f) := ⟨fun ρ h s w h' e => by
  unfold xIl at e
  split at e
  · cases e; rename_i e1; exact hf.pu _ _ _ _ e1
  · rename_i e1
    split at e
    · cases e; exact hf.pu _ _ _ _ e1
    · cases e
  · cases e
  · cases e⟩
instance pu_ir1 {f : Ex} [hf : Pu f] : PuI (xIr1 f) := ⟨fun ρ h s w h' e => by
  unfold xIr1 at e
  split at e
  · rename_i j _ e1
    cases hj : (decide (-(2 ^ 62) ≤ j) && decide (j < 2 ^ 62)) with
    | true => rw [hj] at e; cases e; exact hf.pu _ _ _ _ e1
    | false => rw [hj] at e; cases e
  · cases e
  · cases e⟩
instance pu_it {f : Ex} [hf : Pu f] : PuI (xIt f) := ⟨fun ρ h s w h' e => by
  unfold xIt at e
  split at e
  · rename_i e1
    cases e; exact hf.pu _ _ _ _ e1
  · cases e
  · cases e⟩
instance pu_comp {fi : Ei} {own : Nat} {ix : List Nat} {G : Tg} {c el : Ex} [hf : PuI fi] : Pu (xComp fi own ix G c el) := ⟨fun ρ h w h' e => by
  unfold xComp at e
  cases e1 : fi ρ h with
  | no => rw [e1] at e; cases e
  | ex _ _ => rw [e1] at e; cases e
  | ok s ws h1 =>
    rw [e1] at e
    simp only at e
    split at e
    · split at e
      · cases e; exact hf.pu _ _ _ _ _ e1
      · cases e
    · cases e⟩
/-- no list stands in the written part -/
def noList (K : PySem.W.Frag) : Bool := K.all fun p => match p.2.cls with
  | .type n => n != "list"
  | _ => true
theorem lookup_mem {α β : Type} [BEq α] [LawfulBEq α] {a : α} {b : β} : ∀ {l : List (α × β)}, l.lookup a = some b → (a, b) ∈ l
  | [], h => by simp at h
  | (x, y) :: r, h => by
    rw [List.lookup_cons] at h
    cases e : a == x with
    | true =>
      rw [e] at h
      cases h
      rw [eq_of_beq e]
      exact List.mem_cons_self
    | false =>
      rw [e] at h
      exact List.mem_cons_of_mem _ (lookup_mem h)
theorem noList_of {K : PySem.W.Frag} (h : noList K = true) {a : Addr} {o : Obj} (e : K.lookup a = some o) : o.cls ≠ .type "list" := fun z => by
  have := List.all_eq_true.mp h (a, o) (lookup_mem e)
  simp [z] at this
theorem script_rw {K : PySem.W.Frag} (hK : noList K = true) {T : CTb} {H : Hp} {a : Addr} {ns : List Int} (hS : SqL K H a (ns.map V.int)) : RW T [] H (.tl (ns.map W.int)) (.ref a) := by
  unfold RW
  rcases hS with hS | ⟨o, its, n, e, c, _⟩
  · refine ⟨a, ns.map V.int, rfl, by simp, ?_, ?_⟩
    · rcases hS with q | ⟨o, q⟩
      · exact lstAt_of q
      · unfold lstAt; rw [q]
    · induction ns with
      | nil => unfold RWs; rfl
      | cons x r ih =>
        have : ∀ (l : List Int), RWs T [] H (l.map W.int) (l.map V.int) := by
          intro l
          induction l with
          | nil => unfold RWs; rfl
          | cons y s ih => rw [List.map_cons, List.map_cons]; unfold RWs; exact ⟨_, _, rfl, by unfold RW; rfl, ih⟩
        exact this _
  · exact absurd c (noList_of hK e)
theorem rh_nil {T : CTb} {H : Hp} : RH T [] [] H := ⟨rfl, List.nodup_nil, fun n o a e => by simp at e⟩
theorem law_sp {K : PySem.W.Frag} {T : CTb} {F : Fm} (hK : noList K = true) (hF : ∀ ns : List Int, ns.length ≤ 63 → ∃ h, F [.tl (ns.map W.int)] [] = .ok (.bl true) h) : ∀ vs H Q E, sp_law K vs H Q E → spH T F vs H Q E := by
  rintro vs H Q E ⟨a, ns, rfl, hS, hl, _, q⟩
  obtain ⟨h, e⟩ := hF ns hl
  refine ⟨[], [], [.tl (ns.map W.int)], rh_nil, ?_, ?_⟩
  · unfold RWs; exact ⟨_, [], rfl, script_rw hK hS, by unfold RWs; rfl⟩
  · rw [e]
    exact fun φ' H' v s r x => by rw [bl_rw x]; exact q H'
end M

set_option Elab.async false
set_option linter.all false
set_option maxRecDepth 100000
set_option maxHeartbeats 1000000
namespace M
open PySem PySem.Spec PyProof.Rows L2
/-! ## MF: operations -/
def items (h : Mem) : W → Option (List W)
  | .tl ws => some ws
  | .ref n => (match h[n]? with
    | some (.lst ws) => some ws
    | _ => none)
  | _ => none
/-- a list or a tuple -/
def seqs (h : Mem) : W → Option (List W)
  | .tup ws => some ws
  | w => items h w
section
variable {T : CTb} {φ : List Addr} {H : Hp} {h : Mem} {w : W} {v : V} {ws : List W}
theorem items_ok (r : RH T φ h H) (x : RW T φ H w v) (e : items h w = some ws) : ∃ p vs, v = .ref p ∧ lstAt H p = some vs ∧ RWs T φ H ws vs := by
  cases w with
  | tl us =>
    have e : some us = some ws := e
    cases e
    unfold RW at x
    obtain ⟨p, vs, a, b, c, d⟩ := x
    exact ⟨p, vs, a, c, d⟩
  | ref n =>
    unfold items at e
    unfold RW at x
    obtain ⟨p, a, rfl⟩ := x
    cases q : h[n]? with
    | none => simp [q] at e
    | some o =>
      cases o with
      | lst us =>
        simp [q] at e
        subst e
        obtain ⟨ho, y, vs, rfl, z⟩ := r.obj n _ p q a
        exact ⟨p, vs, rfl, lstAt_of y, z⟩
      | _ => simp [q] at e
  | _ => cases e
theorem seqs_ok (r : RH T φ h H) (x : RW T φ H w v) (e : seqs h w = some ws) : ∃ p vs, v = .ref p ∧ seqAt H p = some vs ∧ RWs T φ H ws vs := by
  cases w with
  | tup us =>
    have e : some us = some ws := e
    cases e
    unfold RW at x
    obtain ⟨p, vs, a, b, c, d⟩ := x
    exact ⟨p, vs, a, seqAt_tup c, d⟩
  | _ =>
    obtain ⟨p, vs, a, b, c⟩ := items_ok r x e
    refine ⟨p, vs, a, ?_, c⟩
    rcases lstAt_rd b with q | ⟨o, q⟩
    · exact seqAt_lst q
    · unfold seqAt; rw [q]
theorem rws_append : ∀ {ws us : List W} {vs xs : List V}, RWs T φ H ws vs → RWs T φ H us xs → RWs T φ H (ws ++ us) (vs ++ xs)
  | [], us, vs, xs, h, q => by unfold RWs at h; subst h; exact q
  | w :: ws, us, vs, xs, h, q => by
    unfold RWs at h
    obtain ⟨v, r, rfl, a, b⟩ := h
    rw [List.cons_append, List.cons_append]
    unfold RWs
    exact ⟨v, _, rfl, a, rws_append b q⟩
theorem rws_take : ∀ (n : Nat) {ws : List W} {vs : List V}, RWs T φ H ws vs → RWs T φ H (ws.take n) (vs.take n)
  | 0, ws, vs, h => by simp; unfold RWs; rfl
  | n + 1, [], vs, h => by unfold RWs at h; subst h; simp; unfold RWs; rfl
  | n + 1, w :: ws, vs, h => by
    unfold RWs at h
    obtain ⟨v, r, rfl, a, b⟩ := h
    rw [List.take_succ_cons, List.take_succ_cons]
    unfold RWs
    exact ⟨v, _, rfl, a, rws_take n b⟩
theorem rws_drop : ∀ (n : Nat) {ws : List W} {vs : List V}, RWs T φ H ws vs → RWs T φ H (ws.drop n) (vs.drop n)
  | 0, ws, vs, h => h
  | n + 1, [], vs, h => by unfold RWs at h; subst h; simp; unfold RWs; rfl
  | n + 1, w :: ws, vs, h => by
    unfold RWs at h
    obtain ⟨v, r, rfl, a, b⟩ := h
    rw [List.drop_succ_cons, List.drop_succ_cons]
    exact rws_drop n b
theorem new_tl {p : Addr} {vs : List V} {Q : VK} (r : RH T φ h H) (hp : H p = none) (x : RWs T φ H ws vs) (k : ∀ H' u, Step φ H φ H' → RH T φ h H' → RW T φ H' (.tl ws) u → Q u H') : Q (.ref p) (upd H p (.lst vs)) := by
  have s := step_tmp (φ := φ) (ho := .lst vs) hp
  refine k _ _ s (r.tmp hp) ?_
  unfold RW
  exact ⟨p, vs, rfl, r.fresh hp, lstAt_upd_l, x.step s⟩
theorem here_k {Q : VK} (r : RH T φ h H) (x : RW T φ H w v) (k : ∀ H' u, Step φ H φ H' → RH T φ h H' → RW T φ H' w u → Q u H') : Q v H := k H v (Step.refl _ _) r x
end
section
variable {X : Cx} {T : CTb}
/-! ints -/
def iop (g : Int → Int → W) (_ : Mem) : W → W → Option W
  | .int i, .int j => some (g i j)
  | _, _ => none
theorem iop_ok {g : Int → Int → W} {gv : Int → Int → V} (hg : ∀ φ H i j, RW T φ H (g i j) (gv i j)) : OpW T (iop g) (rI0 gv) := by
  intro φ h H a b u v w Q r ra rb e k
  unfold iop at e
  split at e
  · cases e
    exact ⟨_, _, int_rw ra, int_rw rb, here_k r (hg φ H _ _) k⟩
  · cases e
def iopC (C : Int → Int → Bool) (g : Int → Int → W) (_ : Mem) : W → W → Option W
  | .int i, .int j => cond (C i j) (some (g i j)) none
  | _, _ => none
theorem iopC_ok {C : Int → Int → Bool} {Cp : Int → Int → Prop} {g : Int → Int → W} {gv : Int → Int → V} (hC : ∀ i j, C i j = true → Cp i j) (hg : ∀ φ H i j, RW T φ H (g i j) (gv i j)) : OpW T (iopC C g) (rI Cp gv) := by
  intro φ h H a b u v w Q r ra rb e k
  unfold iopC at e
  split at e
  · rename_i i j
    cases hc : C i j with
    | true =>
      rw [hc] at e
      cases e
      exact ⟨_, _, int_rw ra, int_rw rb, hC _ _ hc, here_k r (hg φ H _ _) k⟩
    | false => rw [hc] at e; cases e
  · cases e
theorem rw_int {φ : List Addr} {H : Hp} {i : Int} : RW T φ H (.int i) (.int i) := by unfold RW; rfl
theorem rw_b {φ : List Addr} {H : Hp} {i : Bool} : RW T φ H (.bl i) (.bl i) := by unfold RW; rfl
theorem rw_s {φ : List Addr} {H : Hp} {i : Str} : RW T φ H (.str i) (.str i) := by unfold RW; rfl
def subM := iop fun i j => .int (i - j)
def divM := iopC (fun _ j => decide (0 < j) && decide (j < 1073741824)) fun i j => .int (i / j)
theorem divM_ok : OpW T divM (rI CDiv fun i j => .int (i / j)) := iopC_ok (fun i j h => by unfold CDiv; simp only [Bool.and_eq_true, decide_eq_true_eq] at h; exact h) fun _ _ _ _ => rw_int
def modM := iopC (fun _ j => decide (0 < j)) fun i j => .int (i % j)
theorem modM_ok : OpW T modM (rI (fun _ j => 0 < j) fun i j => .int (i % j)) := iopC_ok (fun i j h => of_decide_eq_true h) fun _ _ _ _ => rw_int
def mulM := iopC (fun i j => (decide (-(2 ^ 64) < i) && decide (i < 2 ^ 64)) || (decide (-(2 ^ 64) < j) && decide (j < 2 ^ 64))) fun i j => .int (i * j)
def powM := iopC (fun i j => decide (0 ≤ j) && (decide (j ≤ 1000000) && decide (i.natAbs < 2 ^ 64))) fun i j => .int (i ^ j.toNat)
def bandM := iop fun i j => .int (Builtin.bitAnd i j)
def borM := iop fun i j => .int (Builtin.bitOr i j)
theorem borM_ok : OpW T borM (rI0 fun i j => .int (Builtin.bitOr i j)) := iop_ok fun _ _ _ _ => rw_int
def ltM := iop fun i j => .bl (decide (i < j))
def gtM := iop fun i j => .bl (decide (j < i))
def geM := iop fun i j => .bl (decide (j ≤ i))
def strLe (i j : Str) : Bool := !decide (j.cps.toList < i.cps.toList)
def leM (_ : Mem) : W → W → Option W
  | .int i, .int j => some (.bl (decide (i ≤ j)))
  | .str i, .str j => some (.bl (strLe i j))
  | _, _ => none
def negM (_ : Mem) : W → Option W
  | .int i => some (.int (-i))
  | _ => none
def invM (_ : Mem) : W → Option W
  | .int i => some (.int (Builtin.bitNot i))
  | _ => none
/-! + -/
def addM (h : Mem) (a b : W) : Option W := match a, b with
  | .int i, .int j => some (.int (i + j))
  | .str x, .str y => if x.length + y.length ≤ sizeLine then some (.str (x ++ y)) else none
  | a, b => (match items h a, items h b with
    | some xs, some ys => if xs.length + ys.length ≤ sizeLine then some (.tl (xs ++ ys)) else none
    | _, _ => none)
theorem addM_ok : OpW T addM addV := by
  intro φ h H a b u v w Q r ra rb e k
  unfold addM at e
  split at e
  · cases e
    rw [int_rw ra, int_rw rb]
    exact here_k r rw_int k
  · split at e
    · rename_i hz
      cases e
      rw [str_rw ra, str_rw rb]
      exact ⟨hz, here_k r rw_s k⟩
    · cases e
  · split at e
    · rename_i xs ys e1 e2
      obtain ⟨p, vs, rfl, q1, q2⟩ := items_ok r ra e1
      obtain ⟨p', vs', rfl, q3, q4⟩ := items_ok r rb e2
      split at e
      · rename_i hz
        cases e
        show need (lstAt H p) _
        rw [q1]
        show need (lstAt H p') _
        rw [q3]
        exact ⟨by rw [← q2.length, ← q4.length]; exact hz, fun z hp => new_tl r hp (rws_append q2 q4) k⟩
      · cases e
    · cases e
/-! items -/
def ixM (h : Mem) (a b : W) : Option W := match b with
  | .int i => (match a with
    | .str z => if z.length ≤ sizeLine then (atI z.cps.toList i).map fun c => .str ⟨#[c]⟩ else none
    | a => (seqs h a).bind fun xs => atI xs i)
  | _ => none
theorem rws_atI {φ : List Addr} {H : Hp} {ws : List W} {vs : List V} {i : Int} {w : W} (r : RWs T φ H ws vs) (e : atI ws i = some w) : ∃ v, atI vs i = some v ∧ RW T φ H w v := by
  unfold atI at e ⊢
  rw [← r.length]
  cases q : ixN ws.length i with
  | none => rw [q] at e; cases e
  | some j =>
    rw [q] at e
    exact rws_get r e
theorem ixM_ok : OpW T ixM ixV := by
  intro φ h H a b u v w Q r ra rb e k
  unfold ixM at e
  split at e
  · rw [int_rw rb]
    split at e
    · split at e
      · rename_i hz
        rw [str_rw ra]
        cases q : atI _ _ with
        | none => rw [q] at e; cases e
        | some c =>
          rw [q] at e
          cases e
          refine ⟨hz, ?_⟩
          show need (atI _ _) _
          rw [q]
          exact here_k r rw_s k
      · cases e
    · cases q : seqs h a with
      | none => rw [q] at e; cases e
      | some xs =>
        rw [q] at e
        obtain ⟨p, vs, rfl, q1, q2⟩ := seqs_ok r ra q
        obtain ⟨x, q3, q4⟩ := rws_atI q2 e
        show need (seqAt H p) _
        rw [q1]
        show need (atI vs _) _
        rw [q3]
        exact here_k r q4 k
  · cases e
/-! == -/
def flatW : W → Bool
  | .non => true
  | .bl _ => true
  | .int _ => true
  | .str _ => true
  | _ => false
def eqFl : W → W → Bool
  | .non, .non => true
  | .bl a, .bl b => decide (a = b)
  | .bl a, .int b => decide ((if a then 1 else 0) = b)
  | .int a, .bl b => decide (a = (if b then 1 else 0))
  | .int a, .int b => decide (a = b)
  | .str a, .str b => decide (a = b)
  | _, _ => false
def allM (f : W → W → Option Bool) : List W → List W → Option Bool
  | x :: xs, y :: ys => match f x y, allM f xs ys with
    | some a, some b => some (a && b)
    | _, _ => none
  | _, _ => some true
/-- a list (true) or a tuple -/
def sq (h : Mem) : W → Option (Bool × List W)
  | .tup ws => some (false, ws)
  | w => (items h w).map fun ws => (true, ws)
def eqM (h : Mem) : Nat → W → W → Option Bool
  | 0, a, b => if (flatW a && flatW b) = true then some (eqFl a b) else none
  | n + 1, a, b => if (flatW a && flatW b) = true then some (eqFl a b) else match sq h a, sq h b with
    | some (true, xs), some (true, ys) => if xs.length = ys.length then allM (eqM h n) xs ys else some false
    | some (false, xs), some (false, ys) => (allM (eqM h n) xs ys).map (· && decide (xs.length = ys.length))
    | some (true, _), some (false, _) => some false
    | some (false, _), some (true, _) => some false
    | some _, none => if flatW b = true then some false else none
    | none, some _ => if flatW a = true then some false else none
    | none, none => none
theorem flat_ok {φ : List Addr} {H : Hp} {a : W} {u : V} (r : RW T φ H a u) (f : flatW a = true) : flatV u = true ∧ ∀ {b : W} {v : V}, RW T φ H b v → flatW b = true → eqV u v = eqFl a b := by
  cases a with
  | non =>
    unfold RW at r; subst r
    refine ⟨rfl, fun {b v} q f => ?_⟩
    cases b <;> first | (unfold RW at q; subst q; first | rfl | (simp [eqV, eqFl, Bool.beq_eq_decide_eq]; done)) | cases f
  | bl x =>
    unfold RW at r; subst r
    refine ⟨rfl, fun {b v} q f => ?_⟩
    cases b <;> first | (unfold RW at q; subst q; first | rfl | (simp [eqV, eqFl, Bool.beq_eq_decide_eq]; done)) | cases f
  | int x =>
    unfold RW at r; subst r
    refine ⟨rfl, fun {b v} q f => ?_⟩
    cases b <;> first | (unfold RW at q; subst q; first | rfl | (simp [eqV, eqFl, Bool.beq_eq_decide_eq]; done)) | cases f
  | str x =>
    unfold RW at r; subst r
    refine ⟨rfl, fun {b v} q f => ?_⟩
    cases b <;> first | (unfold RW at q; subst q; first | rfl | (simp [eqV, eqFl, Bool.beq_eq_decide_eq]; done)) | cases f
  | _ => cases f
theorem allM_ok {φ : List Addr} {H : Hp} {f : W → W → Option Bool} {g : V → V → Option Bool} (hf : ∀ a b u v c, f a b = some c → RW T φ H a u → RW T φ H b v → g u v = some c) :
    ∀ {ws us : List W} {vs xs : List V} {c : Bool}, allM f ws us = some c → RWs T φ H ws vs → RWs T φ H us xs → allF g vs xs = some c
  | [], us, vs, xs, c, e, r, q => by
    unfold RWs at r; subst r
    cases e; rfl
  | w :: ws, [], vs, xs, c, e, r, q => by
    unfold RWs at q; subst q
    cases e
    cases vs <;> rfl
  | w :: ws, u :: us, vs, xs, c, e, r, q => by
    unfold RWs at r q
    obtain ⟨v, vr, rfl, r1, r2⟩ := r
    obtain ⟨x, xr, rfl, q1, q2⟩ := q
    unfold allM at e
    cases e1 : f w u with
    | none => rw [e1] at e; cases e
    | some a =>
      cases e2 : allM f ws us with
      | none => rw [e1, e2] at e; cases e
      | some b =>
        rw [e1, e2] at e
        cases e
        unfold allF
        rw [hf _ _ _ _ _ e1 r1 q1, allM_ok hf e2 r2 q2]
theorem sq_ok {φ : List Addr} {H : Hp} {h : Mem} {a : W} {u : V} {b : Bool} {ws : List W} (r : RH T φ h H) (x : RW T φ H a u) (e : sq h a = some (b, ws)) : ∃ p vs, u = .ref p ∧ RWs T φ H ws vs ∧ (b = true → lstAt H p = some vs) ∧ (b = false → tupAt H p = some vs ∧ lstAt H p = none) := by
  cases a with
  | tup us =>
    have e : some (false, us) = some (b, ws) := e
    cases e
    unfold RW at x
    obtain ⟨p, vs, y, _, c, d⟩ := x
    exact ⟨p, vs, y, d, fun z => (by cases z), fun _ => ⟨tupAt_of c, by unfold lstAt; rw [c]⟩⟩
  | _ =>
    unfold sq at e
    simp only [Option.map_eq_some_iff] at e
    obtain ⟨us, e1, e2⟩ := e
    cases e2
    obtain ⟨p, vs, y, c, d⟩ := items_ok r x e1
    exact ⟨p, vs, y, d, fun _ => c, fun z => by cases z⟩
theorem eqM_ok {φ : List Addr} {H : Hp} {h : Mem} (r : RH T φ h H) : ∀ (n : Nat) (a b : W) (u v : V) (c : Bool), eqM h n a b = some c → RW T φ H a u → RW T φ H b v → eqF H n u v = some c
  | 0, a, b, u, v, c, e, ra, rb => by
    unfold eqM at e
    split at e
    · rename_i hf
      cases e
      rw [Bool.and_eq_true] at hf
      have f1 := flat_ok ra hf.1
      have f2 := flat_ok rb hf.2
      unfold eqF
      rw [f1.1, f2.1, f1.2 rb hf.2]; rfl
    · cases e
  | n + 1, a, b, u, v, c, e, ra, rb => by
    have ih := fun a b u v c => eqM_ok r n a b u v c
    unfold eqM at e
    split at e
    · rename_i hf
      cases e
      rw [Bool.and_eq_true] at hf
      have f1 := flat_ok ra hf.1
      have f2 := flat_ok rb hf.2
      rw [eqF_flat4 (by rw [f1.1, f2.1]; rfl), f1.2 rb hf.2]
    · split at e
      · rename_i xs ys e1 e2
        obtain ⟨p, vs, rfl, q1, q2, _⟩ := sq_ok r ra e1
        obtain ⟨p', vs', rfl, q3, q4, _⟩ := sq_ok r rb e2
        rw [eqF_lists (q2 rfl) (q4 rfl), ← q1.length, ← q3.length]
        split at e
        · rename_i hl
          rw [if_pos hl]
          exact allM_ok ih e q1 q3
        · rename_i hl
          rw [if_neg hl]; exact e
      · rename_i xs ys e1 e2
        obtain ⟨p, vs, rfl, q1, _, q2⟩ := sq_ok r ra e1
        obtain ⟨p', vs', rfl, q3, _, q4⟩ := sq_ok r rb e2
        rw [eqF_tuples (q2 rfl).1 (q4 rfl).1, ← q1.length, ← q3.length]
        cases e3 : allM (eqM h n) xs ys with
        | none => rw [e3] at e; cases e
        | some d =>
          rw [e3] at e
          rw [allM_ok ih e3 q1 q3]
          exact e
      · rename_i xs ys e1 e2
        cases e
        obtain ⟨p, vs, rfl, q1, q2, _⟩ := sq_ok r ra e1
        obtain ⟨p', vs', rfl, q3, _, q4⟩ := sq_ok r rb e2
        unfold eqF
        rw [if_neg (by simp [flatV])]
        simp [q2 rfl, (q4 rfl).1, (q4 rfl).2]
      · rename_i xs ys e1 e2
        cases e
        obtain ⟨p, vs, rfl, q1, _, q2⟩ := sq_ok r ra e1
        obtain ⟨p', vs', rfl, q3, q4, _⟩ := sq_ok r rb e2
        unfold eqF
        rw [if_neg (by simp [flatV])]
        simp [q4 rfl, (q2 rfl).1, (q2 rfl).2]
      · rename_i x e1 e2
        split at e
        · rename_i hf
          cases e
          obtain ⟨bb, xs⟩ := x
          obtain ⟨p, vs, rfl, q1, q2, q3⟩ := sq_ok r ra e1
          have f2 := (flat_ok rb hf).1
          have hs : (seqAt H p).isSome = true := by
            cases bb with
            | true =>
              rcases lstAt_rd (q2 rfl) with z | ⟨o, z⟩ <;> (unfold seqAt; rw [z]; rfl)
            | false => rw [seqAt_tup (tupAt_eq (q3 rfl).1)]; rfl
          unfold eqF
          rw [if_neg (by simp [flatV])]
          cases v <;> first | (simp [hs, f2]; done) | (simp [flatV] at f2)
        · cases e
      · rename_i x e1 e2
        split at e
        · rename_i hf
          cases e
          obtain ⟨bb, xs⟩ := x
          obtain ⟨p, vs, rfl, q1, q2, q3⟩ := sq_ok r rb e2
          have f2 := (flat_ok ra hf).1
          have hs : (seqAt H p).isSome = true := by
            cases bb with
            | true =>
              rcases lstAt_rd (q2 rfl) with z | ⟨o, z⟩ <;> (unfold seqAt; rw [z]; rfl)
            | false => rw [seqAt_tup (tupAt_eq (q3 rfl).1)]; rfl
          unfold eqF
          rw [if_neg (by simp [flatV])]
          cases u <;> first | (simp [hs, f2]; done) | (simp [flatV] at f2)
        · cases e
      · cases e
def eqO (h : Mem) (a b : W) : Option W := (eqM h 4 a b).map .bl
def neO (h : Mem) (a b : W) : Option W := (eqM h 4 a b).map fun c => .bl (!c)
theorem eqO_ok : OpW T eqO rEqF := by
  intro φ h H a b u v w Q r ra rb e k
  unfold eqO at e
  cases q : eqM h 4 a b with
  | none => rw [q] at e; cases e
  | some c =>
    rw [q] at e
    cases e
    unfold rEqF
    rw [eqM_ok r 4 a b u v c q ra rb]
    exact here_k r rw_b k
/-! isinstance -/
abbrev Ty := Sum String Str
def tyN (h : Mem) : W → Option Ty
  | .non => some (.inl "NoneType")
  | .bl _ => some (.inl "bool")
  | .int _ => some (.inl "int")
  | .str _ => some (.inl "str")
  | .tup _ => some (.inl "tuple")
  | .tl _ => some (.inl "list")
  | .td _ _ => some (.inl "dict")
  | .ti c _ _ => some (.inr c)
  | .ref n => (match h[n]? with
    | some (.lst _) => some (.inl "list")
    | some (.dic _) => some (.inl "dict")
    | some (.ins c _) => some (.inr c)
    | none => none)
  | _ => none
def TV (T : CTb) : Ty → Value → Prop
  | .inl n, v => v = .type n
  | .inr c, v => ∃ C, T.any c = some C ∧ v = .ref C
abbrev Kit := List ((Ty × Ty) × Bool)
def KitOk (K : PySem.W.Frag) (T : CTb) (kit : Kit) : Prop := ∀ e ∈ kit, ∃ tv cv, TV T e.1.1 tv ∧ TV T e.1.2 cv ∧ PySem.W.kitOne K tv cv = some e.2
structure InsTy (K : PySem.W.Frag) (C : Addr) : Prop where
  cl : Cls K C
  ha : PySem.W.findIn K (.ref C) "__class__" = some (some (.builtin "object.__class__"))
  hn : PySem.W.specialIn K (.builtin "object.__class__") "__get__" = some (some (.builtin "getset_descriptor.__get__"))
  htk : PySem.W.takesIn K (.builtin "object.__class__") = some true
  hm : PySem.W.mroIn K C (.type "object") = some true
def InsOk (K : PySem.W.Frag) (T : CTb) : Prop := ∀ c C, T c = some C → InsTy K C
def Kit.get (kit : Kit) (t c : Ty) : Option Bool := (kit.find? fun e => decide (e.1 = (t, c))).map (·.2)
theorem Kit.mem {kit : Kit} {t c : Ty} {b : Bool} (h : kit.get t c = some b) : ((t, c), b) ∈ kit := by
  unfold Kit.get at h
  rw [Option.map_eq_some_iff] at h
  obtain ⟨⟨e1, e2⟩, e, rfl⟩ := h
  have := List.find?_some e
  have q : e1 = (t, c) := of_decide_eq_true this
  subst q
  exact List.mem_of_find?_eq_some e
def isiM (kit : Kit) (h : Mem) : List W → Option W
  | [w, .ty n] => (tyN h w).bind fun t => (kit.get t (.inl n)).map .bl
  | [w, .cls c] => (tyN h w).bind fun t => (kit.get t (.inr c)).map .bl
  | _ => none
theorem tyN_ok {K : PySem.W.Frag} (hI : InsOk K T) {φ : List Addr} {H : Hp} {h : Mem} {w : W} {v : V} {t : Ty} {tv : Value} (r : RH T φ h H) (x : RW T φ H w v) (e : tyN h w = some t) (ht : TV T t tv) : TyOf K H v tv := by
  cases w with
  | non => cases e; cases ht; unfold RW at x; subst x; exact .non
  | bl b => cases e; cases ht; unfold RW at x; subst x; exact .bl b
  | int b => cases e; cases ht; unfold RW at x; subst x; exact .int b
  | str b => cases e; cases ht; unfold RW at x; subst x; exact .str b
  | tup b => cases e; cases ht; unfold RW at x; obtain ⟨p, vs, rfl, _, c, _⟩ := x; exact .tup c
  | tl b =>
    cases e; cases ht; unfold RW at x
    obtain ⟨p, vs, rfl, _, c, _⟩ := x
    rcases lstAt_rd c with q | ⟨o, q⟩
    · exact .lst q
    · exact .frz q
  | td k b => cases e; cases ht; unfold RW at x; obtain ⟨p, vs, rfl, _, c, _⟩ := x; exact .dK c
  | ti c f b =>
    cases e; unfold RW at x
    obtain ⟨p, C, dx, vs, rfl, _, c1, c2, _⟩ := x
    obtain ⟨C', c3, rfl⟩ := ht
    rw [CTb.any_t c1] at c3; cases c3
    have i := hI _ _ c1
    exact .ins c2 i.cl i.ha i.hn i.htk i.hm
  | ref n =>
    unfold tyN at e
    unfold RW at x
    obtain ⟨p, a, rfl⟩ := x
    cases q : h[n]? with
    | none => simp [q] at e
    | some o =>
      obtain ⟨ho, y, z⟩ := r.obj n o p q a
      cases o with
      | lst us => simp [q] at e; subst e; cases ht; obtain ⟨vs, rfl, _⟩ := z; exact .lst y
      | dic us => simp [q] at e; subst e; cases ht; obtain ⟨vs, rfl, _⟩ := z; exact .dK y
      | ins c fs =>
        simp [q] at e; subst e
        obtain ⟨C, dx, fv, rfl, c1, _⟩ := z
        obtain ⟨C', c3, rfl⟩ := ht
        rw [CTb.any_t c1] at c3; cases c3
        have i := hI _ _ c1
        exact .ins y i.cl i.ha i.hn i.htk i.hm
  | ty n => cases e
  | cls n => cases e
  | exc _ _ _ => cases e
def absM (_ : Mem) : List W → Option W
  | [.int i] => some (.int (if i < 0 then -i else i))
  | _ => none
end
/-! chains -/
section
variable {X : Cx} {Z : Zc} {f g k : Ex} {a b c : Expr} {pos : Pos} {op op' : CmpOp} {o o' : Mem → W → W → Option W} {r r' : R2}
end
section
variable {X : Cx} {Z : Zc} {f g : Ex} {x : Str} {p pos : Pos} {a : Expr} {st : Stmt}
theorem ph_gci {i : Int} (hg : Gl X x) (h : GC X.mg x (.int i)) (hd : (x == ("__debug__" : Str)) = false := by decide) : PE X (.Name x p) (tH Z (xC (.int i))) := ph_c (pe_gc hg h hd) fun _ _ => rw_int
theorem ph_ty (n : String) (hg : Gl X x) (hm : X.mg x = none) (hv : bootBuiltins x = some (.type n)) (hn : x ≠ "__name__" := by decide) (hd : (x == ("__debug__" : Str)) = false := by decide) : PE X (.Name x p) (tH Z (xC (.ty n))) := ph_c (pe_ty n hg hm hv hn hd) fun _ _ => by unfold RW; rfl
theorem ph_cls {C : Addr} (hg : Gl X x) (h : GC X.mg x (.ref C)) (hT : Z.T.any x = some C) (hd : (x == ("__debug__" : Str)) = false := by decide) : PE X (.Name x p) (tH Z (xC (.cls x))) := ph_c (pe_gc hg h hd) fun _ _ => by unfold RW; exact ⟨C, hT, rfl⟩
def xNo : Sm := fun _ _ => .no
/-- {} that is only read -/
theorem ph_dnil : PE X (.Dict [] [] pos) (tH Z (xC (.td [] []))) := (pe_dnewK (X := X)).imp fun σ H Q ⟨φ, m, ρ, x, q⟩ p hp => by
  refine q φ _ _ (step_tmp hp) (x.rh.tmp hp) ?_
  unfold RW
  exact ⟨p, [], rfl, x.rh.fresh hp, upd_same, rfl, by unfold RWs; rfl⟩
end
end M

set_option Elab.async false
set_option linter.all false
set_option maxRecDepth 100000
set_option maxHeartbeats 1000000
namespace M
open PySem PySem.Spec PyProof.Rows L2
/-! ## MG: slices, more built-ins -/
inductive RsO where
  | ok (o : Option Int) (h : Mem) | ex (w : W) (h : Mem) | no
abbrev Eo := Sg → Mem → RsO
def tHO (Z : Zc) (f : Eo) : TO := fun σ H Q => ∃ φ h ρ, Here Z σ H φ h ρ ∧ match f ρ h with
  | .ok o h' => ∀ φ' H', Step φ H φ' H' → RH Z.T φ' h' H' → Q o H'
  | .ex w h' => Z.xw w h'
  | .no => False
def xPn : Eo := fun _ h => .ok none h
def xPs (f : Ex) : Eo := fun ρ h => match f ρ h with
  | .ok (.int i) h' => .ok (some i) h'
  | .ex w h' => .ex w h'
  | _ => .no
def xSl (op : Mem → W → Option Int → Option Int → Option W) (f : Ex) (l u : Eo) : Ex := fun ρ h => (f ρ h).bind fun a h1 => match l ρ h1 with
  | .ok lo h2 => (match u ρ h2 with
    | .ok hi h3 => .of (op h3 a lo hi) h3
    | .ex w h3 => .ex w h3
    | .no => .no)
  | .ex w h2 => .ex w h2
  | .no => .no
def SlW (T : CTb) (op : Mem → W → Option Int → Option Int → Option W) (r : V → Option Int → Option Int → Hp → VK → Prop) : Prop :=
  ∀ φ h H a v lo hi w Q, RH T φ h H → RW T φ H a v → op h a lo hi = some w → (∀ H' x, Step φ H φ H' → RH T φ h H' → RW T φ H' w x → Q x H') → r v lo hi H Q
class PuO (f : Eo) : Prop where
  pu : ∀ ρ h w h', f ρ h = .ok w h' → h' = h
instance pu_pn : PuO xPn := ⟨fun ρ h w h' e => by cases e; rfl⟩
instance pu_ps {f : Ex} [hf : Pu f] : PuO (xPs f) := ⟨fun ρ h w h' e => by
  unfold xPs at e
  split at e
  · rename_i e1; cases e; exact hf.pu _ _ _ _ e1
  · cases e
  · cases e⟩
instance pu_sl {op : Mem → W → Option Int → Option Int → Option W} {f : Ex} {l u : Eo} [hf : Pu f] [hl : PuO l] [hu : PuO u] : Pu (xSl op f l u) := ⟨fun ρ h w h' e => by
  obtain ⟨a, h1, e1, e⟩ := bind_ok e
  split at e
  · rename_i e2
    split at e
    · rename_i e3
      rw [(of_ok e).2, hu.pu _ _ _ _ e3, hl.pu _ _ _ _ e2, hf.pu _ _ _ _ e1]
    · cases e
    · cases e
  · cases e
  · cases e⟩
section
variable {X : Cx} {Z : Zc} {f : Ex} {l u : Eo} {e : Expr} {lo hi : Option Expr} {pos p2 : Pos}
theorem poh_none : PO X none (tHO Z xPn) := fun pins s σ H Q I ⟨φ, h, ρ, x, q⟩ => po_none pins s σ H Q I (q φ H (Step.refl _ _) x.rh)
theorem poh_some (h : PE X e (tH Z f)) : PO X (some e) (tHO Z (xPs f)) := fun pins s σ H Q I ⟨φ, m, ρ, x, q⟩ => by
  refine po_some h pins s σ H Q I ⟨φ, m, ρ, x, ?_⟩
  unfold xPs at q
  cases e1 : f ρ m with
  | no => rw [e1] at q; exact q.elim
  | ex w h' => rw [e1] at q; exact q
  | ok w h' =>
    rw [e1] at q
    intro φ1 H1 v s1 r1 rw1
    cases w with
    | int i => exact ⟨i, int_rw rw1, q φ1 H1 s1 r1⟩
    | _ => exact q.elim
theorem ph_sl {op : Mem → W → Option Int → Option Int → Option W} {r : V → Option Int → Option Int → Hp → VK → Prop} (hr : SlR X r) (hw : SlW Z.T op r) (he : PE X e (tH Z f)) (hl : PO X lo (tHO Z l)) (hu : PO X hi (tHO Z u)) :
    PE X (.Subscript e (.Slice lo hi none p2) pos) (tH Z (xSl op f l u)) := (pe_slice hr he hl hu).imp fun σ H Q ⟨φ, m, ρ, x, q⟩ => ⟨φ, m, ρ, x, by
  unfold xSl at q
  rw [bindP] at q
  refine q.mono fun a h1 q1 => fun φ1 H1 v s1 r1 ra => ⟨φ1, h1, ρ, x.step s1 r1, ?_⟩
  cases e2 : l ρ h1 with
  | no => simp only [e2] at q1; exact q1.elim
  | ex w h' => simp only [e2] at q1; exact q1
  | ok lo h2 =>
    simp only [e2] at q1
    intro φ2 H2 s2 r2
    refine ⟨φ2, h2, ρ, (x.step s1 r1).step s2 r2, ?_⟩
    cases e3 : u ρ h2 with
    | no => simp only [e3] at q1; exact q1.elim
    | ex w h' => simp only [e3] at q1; exact q1
    | ok hi h3 =>
      simp only [e3] at q1
      intro φ3 H3 s3 r3
      obtain ⟨w, e4, k⟩ := ofP q1
      exact hw φ3 h3 H3 a v lo hi w Q r3 ((ra.step s2).step s3) e4 (k.step ((s1.trans s2).trans s3)).end⟩
end
def cutW (xs : List W) (lo hi : Option Int) : List W := (xs.drop (HT.sIx xs.length 0 lo)).take (HT.sIx xs.length xs.length hi - HT.sIx xs.length 0 lo)
theorem cut_rw {T : CTb} {φ : List Addr} {H : Hp} {ws : List W} {vs : List V} {lo hi : Option Int} (r : RWs T φ H ws vs) : RWs T φ H (cutW ws lo hi) (cutV vs lo hi) := by
  unfold cutW cutV
  rw [← r.length]
  exact rws_take _ (rws_drop _ r)
def slAny : V → Option Int → Option Int → Hp → VK → Prop := fun x lo hi H Q => slL x lo hi H Q ∨ slS x lo hi H Q
theorem sl_any {X : Cx} : SlR X slAny := SlR.or sl_lstV sl_str
def slM (h : Mem) (a : W) (lo hi : Option Int) : Option W := match a with
  | .str z => if z.length ≤ sizeLine then some (.str (Txt.slice z lo hi)) else none
  | a => (items h a).map fun ws => .tl (cutW ws lo hi)
theorem slM_ok {T : CTb} : SlW T slM slAny := by
  intro φ h H a v lo hi w Q r ra e k
  unfold slM at e
  split at e
  · split at e
    · rename_i hz
      cases e
      rw [str_rw ra]
      exact .inr ⟨hz, here_k r rw_s k⟩
    · cases e
  · rw [Option.map_eq_some_iff] at e
    obtain ⟨ws, e, rfl⟩ := e
    obtain ⟨p, vs, rfl, q1, q2⟩ := items_ok r ra e
    refine .inl ?_
    show need (lstAt H p) _
    rw [q1]
    exact fun z hp => new_tl r hp (cut_rw q2) k
section
variable {X : Cx} {T : CTb}
/-! one argument -/
theorem rws_one {φ : List Addr} {H : Hp} {w : W} {vs : List V} (x : RWs T φ H [w] vs) : ∃ v, vs = [v] ∧ RW T φ H w v := by
  unfold RWs at x
  obtain ⟨v1, r1, rfl, x1, x2⟩ := x
  unfold RWs at x2; subst x2
  exact ⟨v1, rfl, x1⟩
def lenM (h : Mem) : List W → Option W
  | [.str z] => if z.length ≤ sizeLine then some (.int z.length) else none
  | [.td ks _] => some (.int ks.length)
  | [.ref n] => (match h[n]? with
    | some (.dic kvs) => some (.int kvs.length)
    | some (.lst ws) => some (.int ws.length)
    | _ => none)
  | [w] => (seqs h w).map fun ws => .int ws.length
  | _ => none
theorem rp_length {κ : Type} {φ : List Addr} {H : Hp} {ps : List (κ × W)} {qs : List (κ × V)} (h : RP T φ H ps qs) : ps.length = qs.length := Paired.length h
theorem lenM_ok : CbW T lenM lenV := by
  intro φ h H ws vs w Q r x e k
  have seqc : ∀ (a : W) (u : V) (us : List W), RW T φ H a u → seqs h a = some us → (∀ p kvs, u = .ref p → H p ≠ some (.dK kvs)) → Q (.int us.length) H → lenV [u] H Q := by
    intro a u us ra e nd q
    obtain ⟨p, vs, rfl, q1, q2⟩ := seqs_ok r ra e
    show (match H p with | some (.dK kvs) => Q (.int kvs.length) H | _ => need (seqAt H p) fun ys => Q (.int ys.length) H)
    split
    · rename_i kvs ek
      exact absurd ek (nd p kvs rfl)
    · rw [q1]
      show Q (.int vs.length) H
      rw [← q2.length]; exact q
  unfold lenM at e
  split at e
  · obtain ⟨v, rfl, y0⟩ := rws_one x
    split at e
    · rename_i hz
      cases e
      rw [str_rw y0]
      exact ⟨hz, here_k r rw_int k⟩
    · cases e
  · obtain ⟨v, rfl, y0⟩ := rws_one x
    cases e
    unfold RW at y0
    obtain ⟨p, vs, rfl, _, c, l, rr⟩ := y0
    show (match H p with | some (.dK kvs) => Q (.int kvs.length) H | _ => need (seqAt H p) fun ys => Q (.int ys.length) H)
    rw [c]
    show Q (.int ((_ : List _).length : Nat)) H
    rw [List.length_zip, ← rr.length, ← l, Nat.min_self]
    exact here_k r rw_int k
  · obtain ⟨v, rfl, y0⟩ := rws_one x
    rename_i n
    have x0 := y0
    unfold RW at y0
    obtain ⟨p, a, rfl⟩ := y0
    split at e
    · rename_i kvs q
      cases e
      obtain ⟨ho, y, kv, rfl, z⟩ := r.obj n _ p q a
      show (match H p with | some (.dK kvs) => Q (.int kvs.length) H | _ => need (seqAt H p) fun ys => Q (.int ys.length) H)
      rw [y]
      show Q (.int kv.length) H
      rw [← rp_length z]
      exact here_k r rw_int k
    · rename_i us q
      cases e
      refine seqc (.ref n) (.ref p) us x0 (by show items h (.ref n) = _; simp [items, q]) (fun p' kvs e1 e2 => ?_) (here_k r rw_int k)
      cases e1
      obtain ⟨ho, y, kv, rfl, z⟩ := r.obj n _ p q a
      rw [y] at e2; cases e2
    · cases e
  · obtain ⟨v, rfl, y0⟩ := rws_one x
    rename_i _ w1 n1 n2 n3
    rw [Option.map_eq_some_iff] at e
    obtain ⟨us, e, rfl⟩ := e
    refine seqc w1 v us y0 e (fun p kvs e1 e2 => ?_) (here_k r rw_int k)
    subst e1
    cases w1 with
    | tup a => unfold RW at y0; obtain ⟨q, vs, e3, _, c, _⟩ := y0; cases e3; rw [e2] at c; cases c
    | tl a =>
      unfold RW at y0
      obtain ⟨q, vs, e3, _, c, _⟩ := y0
      cases e3
      rcases lstAt_rd c with z | ⟨o, z⟩ <;> (rw [e2] at z; cases z)
    | ref n => exact n3 n rfl
    | _ => cases e
  · cases e
/-! truth -/
def truM (h : Mem) : W → Option W
  | .non => some (.bl false)
  | .bl b => some (.bl b)
  | .int i => some (.bl (decide (i ≠ 0)))
  | .str y => if y.length ≤ sizeLine then some (.bl (decide (y.length ≠ 0))) else none
  | .tup ws => some (.bl (!ws.isEmpty))
  | .tl ws => some (.bl (!ws.isEmpty))
  | _ => none
end
section
variable {X : Cx} {Z : Zc} {f : Ex} {a : Expr}
end
section
variable {X : Cx} {T : CTb}
def intW : List W → Option (List Int)
  | [] => some []
  | .int i :: r => (intW r).map (i :: ·)
  | _ :: _ => none
theorem intW_map (ns : List Int) : intW (ns.map W.int) = some ns := by
  induction ns with
  | nil => rfl
  | cons x r ih => rw [List.map_cons]; unfold intW; rw [ih]; rfl
def sumM (h : Mem) : List W → Option W
  | [w] => ((items h w).bind intW).map fun ns => .int ns.sum
  | _ => none
def intM (_ : Mem) : List W → Option W
  | [.int i] => some (.int i)
  | [.bl b] => some (.int (if b then 1 else 0))
  | _ => none
def maxM (_ : Mem) : List W → Option W
  | [.int i, .int j] => some (.int (if j > i then j else i))
  | _ => none
def minM (_ : Mem) : List W → Option W
  | [.int i, .int j] => some (.int (if j < i then j else i))
  | _ => none
def ordM (_ : Mem) : List W → Option W
  | [.str x] => if x.length = 1 then some (.int (x.cps.getD 0 0 : Nat)) else none
  | _ => none
def listM (h : Mem) : List W → Option W
  | [w] => (seqs h w).map .tl
  | _ => none
/-! is -/
def isNonW : W → Bool
  | .non => true
  | _ => false
def isNM (_ : Mem) (a b : W) : Option W := match b with
  | .non => some (.bl (isNonW a))
  | _ => none
def notNM (_ : Mem) (a b : W) : Option W := match b with
  | .non => some (.bl (!isNonW a))
  | _ => none
theorem non_rw {φ : List Addr} {H : Hp} {v : V} (h : RW T φ H .non v) : v = .non := by unfold RW at h; exact h
theorem non_iff {φ : List Addr} {H : Hp} {a : W} {v : V} (h : RW T φ H a v) : decide (v = .non) = isNonW a := by
  cases a with
  | non => rw [non_rw h]; rfl
  | cls c => unfold RW at h; obtain ⟨_, _, rfl⟩ := h; rfl
  | ref c => unfold RW at h; obtain ⟨_, _, rfl⟩ := h; rfl
  | tup c => unfold RW at h; obtain ⟨_, _, rfl, _⟩ := h; rfl
  | tl c => unfold RW at h; obtain ⟨_, _, rfl, _⟩ := h; rfl
  | td c d => unfold RW at h; obtain ⟨_, _, rfl, _⟩ := h; rfl
  | ti c d f => unfold RW at h; obtain ⟨_, _, _, _, rfl, _⟩ := h; rfl
  | exc c d f => unfold RW at h; obtain ⟨_, _, _, _, rfl, _⟩ := h; rfl
  | _ => unfold RW at h; subst h; rfl
theorem isNM_ok : OpW T isNM (fun x y H Q => y = .non ∧ Q (.bl (decide (x = .non))) H) := by
  intro φ h H a b u v w Q r ra rb e k
  unfold isNM at e
  split at e
  · cases e
    exact ⟨non_rw rb, by rw [non_iff ra]; exact here_k r rw_b k⟩
  · cases e
def isBM (_ : Mem) (a b : W) : Option W := match a, b with
  | .bl x, .bl y => some (.bl (decide (x = y)))
  | _, _ => none
def isnotBM (_ : Mem) (a b : W) : Option W := match a, b with
  | .bl x, .bl y => some (.bl (!decide (x = y)))
  | _, _ => none
/-! texts -/
def strW : List W → Option (List Str)
  | [] => some []
  | .str i :: r => (strW r).map (i :: ·)
  | _ :: _ => none
theorem strW_ok {φ : List Addr} {H : Hp} : ∀ {ws : List W} {vs : List V} {ns : List Str}, RWs T φ H ws vs → strW ws = some ns → strsOf vs = some ns
  | [], vs, ns, r, e => by cases e; unfold RWs at r; subst r; rfl
  | w :: ws, vs, ns, r, e => by
    unfold RWs at r
    obtain ⟨v, s, rfl, a, b⟩ := r
    cases w with
    | str i =>
      unfold strW at e
      rw [Option.map_eq_some_iff] at e
      obtain ⟨ms, e, rfl⟩ := e
      rw [str_rw a]
      unfold strsOf
      rw [strW_ok b e]; rfl
    | _ => cases e
def joinM (h : Mem) (a : W) (ws : List W) : Option W := match a, ws with
  | .str sep, [w] => ((items h w).bind strW).bind fun ts => if JoinOk sep ts = true then some (.str (Txt.join sep ts)) else none
  | _, _ => none
end
section
variable {X : Cx} {Z : Zc} {f : Ex} {fa : Exs} {o e : Expr} {apos cpos : Pos}
def xBmS (op : Mem → W → List W → Option W) (f : Ex) (g : Exs) : Ex := fun ρ h => (f ρ h).bind fun a h1 => match a with
  | .str z => (match g ρ h1 with
    | .ok ws h2 => .of (op h2 (.str z) ws) h2
    | .ex w h2 => .ex w h2
    | .no => .no)
  | _ => .no
instance pu_bms {o : Mem → W → List W → Option W} {f : Ex} {g : Exs} [hf : Pu f] [hg : PuS g] : Pu (xBmS o f g) := ⟨fun ρ h w h' e => by
  obtain ⟨a, h1, e1, e⟩ := bind_ok e
  split at e
  · cases e2 : g ρ h1 with
    | no => simp [e2] at e
    | ex _ _ => simp [e2] at e
    | ok b h2 => simp only [e2] at e; rw [(of_ok e).2, hg.pu _ _ _ _ e2, hf.pu _ _ _ _ e1]
  · cases e⟩
end
end M

set_option Elab.async false
set_option linter.all false
set_option maxRecDepth 100000
set_option maxHeartbeats 1000000
namespace M
open PySem PySem.Spec PyProof.Rows L2
/-! ## MQ: the rules, closed (so that no look at a goal unfolds the program) -/
structure QE (X : Cx) (Z : Zc) (e : Expr) (f : Ex) : Prop where
  pe : PE X e (tH Z f)
structure QT (X : Cx) (Z : Zc) (e : Expr) (f : Ex) : Prop where
  pt : PT X e (tHT Z f)
structure QW (X : Cx) (Z : Zc) (e : Expr) (f : Ex) : Prop where
  pw : PW X e (tHT Z f)
structure QA (X : Cx) (Z : Zc) (es : List Expr) (f : Exs) : Prop where
  pa : PA X es (tHA Z f)
structure QO (X : Cx) (Z : Zc) (e : Option Expr) (f : Eo) : Prop where
  po : PO X e (tHO Z f)
structure QI (X : Cx) (Z : Zc) (tg iter : Expr) (f : Ei) : Prop where
  pi : PI X tg iter (tHI Z f)
structure QC (X : Cx) (Z : Zc) (ifs : List Expr) (f : Ex) : Prop where
  pc : PCs X ifs (tHT Z f)
structure QG (X : Cx) (tg : Expr) (g : TG) : Prop where
  pg : PG X tg g
structure QGs (X : Cx) (tgs : List Expr) (g : TGs) : Prop where
  pg : PGs X tgs g
structure QS (X : Cx) (Z : Zc) (st : Stmt) (F : Sm) : Prop where
  ps : PS X st (tHS Z F)
structure QB (X : Cx) (Z : Zc) (sts : List Stmt) (F : Sm) : Prop where
  ps : PSs X sts (tHS Z F)
section
variable {X : Cx} {Z : Zc} {f g k : Ex} {fa : Exs} {fi : Ei} {l u : Eo} {e a b c : Expr} {es rest : List Expr} {pos p p2 : Pos} {F G B : Sm} {st : Stmt} {sts more : List Stmt} {tg iter : Expr} {x : Str} {gg : TG} {Gt : Tg}
theorem q_var (i : Nat) {pos : Pos} (hN : X.N[i]? = some x := by rfl) (hv : Vis X.env.scope x := by first | exact Or.inl rfl | exact Or.inr (Or.inl rfl) | exact Or.inr (Or.inr rfl)) (hd : (x == ("__debug__" : Str)) = false := by decide)
    (hcd : (x == ("__classdict__" : Str)) = false := by decide) : QE X Z (.Name x pos) (xVar i) := ⟨ph_var i (pe_var hN hv hd hcd)⟩
theorem q_int {i j pos} : QE X Z (.Constant (.int i) j pos) (xC (.int i)) := ⟨ph_int⟩
theorem q_bl {b j pos} : QE X Z (.Constant (.bool b) j pos) (xC (.bl b)) := ⟨ph_bl⟩
theorem q_non {j pos} : QE X Z (.Constant .none j pos) (xC .non) := ⟨ph_non⟩
theorem q_str {x j pos} : QE X Z (.Constant (.str x) j pos) (xC (.str x)) := ⟨ph_str⟩
theorem q_gci {i : Int} (hg : Gl X x) (h : GC X.mg x (.int i)) (hd : (x == ("__debug__" : Str)) = false := by decide) : QE X Z (.Name x p) (xC (.int i)) := ⟨ph_gci hg h hd⟩
theorem q_ty (n : String) (hg : Gl X x) (hm : X.mg x = none) (hv : bootBuiltins x = some (.type n)) (hn : x ≠ "__name__" := by decide) (hd : (x == ("__debug__" : Str)) = false := by decide) : QE X Z (.Name x p) (xC (.ty n)) := ⟨ph_ty n hg hm hv hn hd⟩
theorem q_cls {C : Addr} (hg : Gl X x) (h : GC X.mg x (.ref C)) (hT : Z.T.any x = some C) (hd : (x == ("__debug__" : Str)) = false := by decide) : QE X Z (.Name x p) (xC (.cls x)) := ⟨ph_cls hg h hT hd⟩
theorem q_bin {op : Operator} {o : Mem → W → W → Option W} {r : R2} (ho : OpR X (binaryOp op) r) (hw : OpW Z.T o r) (ha : QE X Z a f) (hb : QE X Z b g) : QE X Z (.BinOp a op b pos) (xBin o f g) := ⟨ph_bin ho hw ha.pe hb.pe⟩
theorem q_cmp {op : CmpOp} {o : Mem → W → W → Option W} {r : R2} (ho : OpR X (compareOp op) r) (hw : OpW Z.T o r) (ha : QE X Z a f) (hb : QE X Z b g) (hm : behindInMarks op b = false) : QE X Z (.Compare a [op] [b] pos) (xBin o f g) := ⟨ph_cmp ho hw ha.pe hb.pe hm⟩
theorem qt_cmp {op : CmpOp} {o : Mem → W → W → Option W} {r : R2} (ho : OpR X (compareOp op) r) (hw : OpW Z.T o r) (ha : QE X Z a f) (hb : QE X Z b g) (hm : behindInMarks op b = false) : QT X Z (.Compare a [op] [b] pos) (xBin o f g) := ⟨pth_cmp ho hw ha.pe hb.pe hm⟩
theorem q_ix {o : Mem → W → W → Option W} {r : R2} (ho : IxR X r) (hw : OpW Z.T o r) (ha : QE X Z a f) (hb : QE X Z b g) (hs : PlainIx b) : QE X Z (.Subscript a b pos) (xBin o f g) := ⟨ph_ix ho hw ha.pe hb.pe hs⟩
theorem qt_val (h : QE X Z e f) (he : ∀ whole, isTrue e X.env whole = (do let v ← whole; standAt e.pos; holding [v] (truthy v)) := by intro _; rfl) : QT X Z e f := ⟨pth_val h.pe he⟩
theorem qt_not (h : QT X Z a f) : QT X Z (.UnaryOp .Not a pos) (xNot f) := ⟨pth_not h.pt⟩
theorem q_and (ha : QE X Z a f) (hb : QE X Z (.BoolOp .And (b :: rest) pos) g) : QE X Z (.BoolOp .And (a :: b :: rest) pos) (xAnd f g) := ⟨ph_and ha.pe hb.pe⟩
theorem q_one {op} (h : QE X Z a f) : QE X Z (.BoolOp op [a] pos) f := ⟨ph_one h.pe⟩
theorem q_not (h : QE X Z a f) : QE X Z (.UnaryOp .Not a pos) (xNot f) := ⟨ph_not h.pe⟩
theorem qa_nil : QA X Z [] xNil := ⟨pah_nil⟩
theorem qa_cons (ha : QE X Z e f) (hr : QA X Z es fa) (hs : starEach (e :: es) X.env = (false, eval e X.env) :: starEach es X.env := by rfl) : QA X Z (e :: es) (xCons f fa) := ⟨pah_cons ha.pe hr.pa hs⟩
theorem q_tup {x1} (h : QA X Z es fa) : QE X Z (.Tuple es x1 pos) (xTup fa) := ⟨ph_tup h.pa⟩
theorem q_lst (h : QA X Z es fa) : QE X Z (.List es pos) (xLst fa) := ⟨ph_lst h.pa⟩
theorem q_dnil : QE X Z (.Dict [] [] pos) (xC (.td [] [])) := ⟨ph_dnil⟩
theorem q_cb {r : List V → Hp → VK → Prop} {o : Mem → List W → Option W} {id : String} (hw : CbW Z.T o r) (hc : CallR X (.builtin id) r) (hg : Gl X x) (hm : X.mg x = none) (hv : bootBuiltins x = some (.builtin id)) (ha : QA X Z (e :: es) fa) (hn : x ≠ "__name__" := by decide) (hdb : (x == ("__debug__" : Str)) = false := by decide)
    (he : starEach (e :: es) X.env = (false, eval e X.env) :: starEach es X.env := by rfl) (hpl : (backTo pos (starEach es X.env)).any (·.1) = false := by rfl) : QE X Z (.Call (.Name x p) (e :: es) [] pos) (xCb o fa) :=
  ⟨ph_cb hw (fun h => pe_callB hc hg hm hv h hn hdb he hpl) ha.pa⟩
theorem q_fn0 {kk j : Nat} {Fm' : Fm} (Gf : FnAt X.prog X.w X.K X.mg X.base CX0 kk x (spH Z.T Fm')) (hr : Room j X.A) (hkj : kk ≤ j) (hg : Gl X x) (ha : QA X Z (e :: es) fa) (hdb : (x == ("__debug__" : Str)) = false := by decide)
    (he : starEach (e :: es) X.env = (false, eval e X.env) :: starEach es X.env := by rfl) (hpl : (backTo pos (starEach es X.env)).any (·.1) = false := by rfl) (hcl : X.calm = true := by rfl) : QE X Z (.Call (.Name x p) (e :: es) [] pos) (xCall0 Fm' fa) := ⟨ph_fn0 Gf hr hkj hg ha.pa hdb he hpl hcl⟩
theorem qo_none : QO X Z none xPn := ⟨poh_none⟩
theorem qo_some (h : QE X Z e f) : QO X Z (some e) (xPs f) := ⟨poh_some h.pe⟩
theorem q_sl {lo hi : Option Expr} {op : Mem → W → Option Int → Option Int → Option W} {r : V → Option Int → Option Int → Hp → VK → Prop} (hr : SlR X r) (hw : SlW Z.T op r) (he : QE X Z e f) (hl : QO X Z lo l) (hu : QO X Z hi u) : QE X Z (.Subscript e (.Slice lo hi none p2) pos) (xSl op f l u) := ⟨ph_sl hr hw he.pe hl.po hu.po⟩
/-! targets -/
theorem qg_name {i : Nat} (hN : X.N.Nodup) (hi : X.N[i]? = some x) (hx : Loc X.env.scope x) (hf : X.fn x = true ∨ X.env.scope.names.lookup x = some .local := by first | exact .inl rfl | exact .inr rfl | assumption) : QG X (.Name x pos) (gName i) := ⟨pg_name hN hi hx hf⟩
/-! what is walked -/
theorem qi_list (h : QE X Z iter f) : QI X Z tg iter (xIl f) := ⟨phi_list h.pe⟩
/-! statements -/
theorem qb_nil : QB X Z [] xNext := ⟨pssh_nil⟩
theorem qb_cons (h1 : QS X Z st F) (h2 : QB X Z sts G) : QB X Z (st :: sts) (xSeq F G) := ⟨pssh_cons h1.ps h2.ps⟩
theorem qb_one (h1 : QS X Z st F) : QB X Z [st] F := ⟨pssh_one h1.ps⟩
theorem qs_ret (he : QE X Z e f) : QS X Z (.Return (some e) pos) (xRet f) := ⟨psh_ret he.pe⟩
theorem qs_expr (he : QE X Z e f) (hs : swapsWith e none pos.line X.env = pure false := by rfl) : QS X Z (.Expr e pos) (xDrop f) := ⟨psh_expr he.pe hs⟩
theorem qs_if (hc : QT X Z c f) (ha : QB X Z sts F) (hb : QB X Z more G) : QS X Z (.If c sts more pos) (xIfS f F G) := ⟨psh_if hc.pt ha.ps hb.ps⟩
theorem qs_set {i : Nat} {pos' : Pos} (hN : X.N.Nodup) (hi : X.N[i]? = some x) (hx : Loc X.env.scope x) (hsg : ∀ σ v, Z.sg σ → Z.sg (σ.set i (some v))) (he : QE X Z e f) (hs : swapsWith e (some (.Name x pos')) pos.line X.env = pure false := by rfl)
    (hf : X.fn x = true ∨ X.env.scope.names.lookup x = some .local := by first | exact .inl rfl | exact .inr rfl | assumption) : QS X Z (.Assign [.Name x pos'] e pos) (xAsg (gN i) f) := ⟨psh_set hN hi hx hsg he.pe hs hf⟩
theorem qs_for (hw : TgW Z gg Gt) (hp : PassesOwn (model X.prog X.w) X.A X.env X.xe) (hc : X.calm = true) (hi : QI X Z tg iter fi) (hg : QG X tg gg) (hb : QB X Z sts B) (hs : ∀ x, foldedSetIterable iter X.env x = pure x := by intro _; rfl) :
    QS X Z (.For tg iter sts [] pos) (xFor fi Gt B) := ⟨psh_for hw hp hc hi.pi hg.pg hb.ps hs⟩
end
section
variable {P : Program} {w : World} {K : PySem.W.Frag} {mg : Str → Option Value} {base : Heap} {T : CTb}
theorem fun0q {x : Str} {st : Stmt} {N ps : List Str} {k : Nat} {F : Fm} {f : Addr} {fd : FuncData} {B : Sm} (R : Fun K x x st f fd) (S : FnScope N ps (defScope st))
    (hB : ∀ (cdv : Value) (A : Around) (outer : List Env) (s : Shared) (H : Hp) (E : XK) (φ0 : List Addr) (H0 : Hp), Room k (A.deeper (envOfC x (defScope st) s.heap.objs.size f cdv)) → QB (cxOf CX0 P w K mg base N x (defScope st) f cdv A outer s H E).nox (Zf T φ0 H0) (defBody st) B)
    (hx : ∀ ws h w m, F ws h ≠ .ex w m) (hF : Told ps.length N.length B F) : FnOk P w K mg base CX0 (k + 1) f fd ps (spH T F) := fun0 R S (fun a b c d e g h i j => (hB a b c d e g h i j).ps) hx hF
theorem def0q {x : Str} {st : Stmt} {N ps : List Str} {k : Nat} {F : Fm} {B : Sm} (R : DefAt K mg x st) (S : FnScope N ps (defScope st)) (hb : BindsAll x x st ps)
    (hB : ∀ (f : Addr) (cdv : Value) (A : Around) (outer : List Env) (s : Shared) (H : Hp) (E : XK) (φ0 : List Addr) (H0 : Hp), Room k (A.deeper (envOfC x (defScope st) s.heap.objs.size f cdv)) → QB (cxOf CX0 P w K mg base N x (defScope st) f cdv A outer s H E).nox (Zf T φ0 H0) (defBody st) B)
    (hx : ∀ ws h w m, F ws h ≠ .ex w m) (hF : Told ps.length N.length B F) : FnAt P w K mg base CX0 (k + 1) x (spH T F) := def0 R S hb (fun z a b c d e g h i j => (hB z a b c d e g h i j).ps) hx hF
end
end M
namespace M
open PySem PySem.Spec PyProof.Rows L2
/-! ## loops, told -/
theorem intW_eq : ∀ {ws : List W} {ns : List Int}, intW ws = some ns → ws = ns.map W.int
  | [], ns, e => by cases e; rfl
  | w :: ws, ns, e => by
    cases w with
    | int i =>
      unfold intW at e
      rw [Option.map_eq_some_iff] at e
      obtain ⟨ms, e, rfl⟩ := e
      rw [intW_eq e]; rfl
    | _ => cases e
/-- a loop in which no turn leaves -/
theorem xLoop_nx {G : Tg} {B : Sm} (I : Sg → Mem → Prop) : ∀ (ws : List W) (ρ : Sg) (h : Mem), I ρ h →
    (∀ w ∈ ws, ∀ ρ h, I ρ h → ∃ ρ1, G w ρ = some ρ1 ∧ ∃ ρ' h', (B ρ1 h = .nx ρ' h' ∨ B ρ1 h = .ct ρ' h') ∧ I ρ' h') → ∃ ρ' h', xLoop G B ws ρ h = .nx ρ' h' ∧ I ρ' h'
  | [], ρ, h, i, _ => ⟨ρ, h, rfl, i⟩
  | w :: r, ρ, h, i, hb => by
    obtain ⟨ρ1, e1, ρ', h', e2, i2⟩ := hb w List.mem_cons_self ρ h i
    obtain ⟨ρ2, h2, e3, i3⟩ := xLoop_nx I r ρ' h' i2 fun w m => hb w (List.mem_cons_of_mem _ m)
    refine ⟨ρ2, h2, ?_, i3⟩
    unfold xLoop
    rw [e1]
    rcases e2 with e2 | e2 <;> (simp only [e2]; exact e3)
/-- a law's promise: True of every script -/
def lawF : Fm := fun ws h => match ws with
  | [.tl l] => (match intW l with
    | some ns => if ns.length ≤ 63 ∧ h.isEmpty = true then .ok (.bl true) h else .no
    | none => .no)
  | _ => .no
theorem lawF_ex (ws : List W) (h : Mem) (w : W) (m : Mem) : lawF ws h ≠ .ex w m := by
  unfold lawF
  split
  · split
    · split <;> simp
    · simp
  · simp
theorem lawF_told {n : Nat} {B : Sm} (hB : ∀ ns : List Int, ns.length ≤ 63 → ∃ g, runB n B [.tl (ns.map W.int)] [] = .ok (.bl true) g) : Told 1 n B lawF := by
  intro ws h wf lt
  unfold lawF
  split
  · rename_i l
    cases e : intW l with
    | none => exact .inl rfl
    | some ns =>
      simp only
      split
      · rename_i hl
        have : h = [] := List.isEmpty_iff.mp hl.2
        subst this
        rw [intW_eq e]
        obtain ⟨g, q⟩ := hB ns hl.1
        refine .inr ⟨rfl, ?_⟩
        rw [q]
        exact fits_drop (h := []) (g := g) (Nat.le_refl _) (fun o m => by simp at m) rfl
      · exact .inl rfl
  · exact .inl rfl
theorem lawF_sp {K : PySem.W.Frag} {T : CTb} (hK : noList K = true) : ∀ vs H Q E, sp_law K vs H Q E → spH T lawF vs H Q E := law_sp hK fun ns hl => ⟨[], by simp [lawF, intW_map, hl]⟩
end M

set_option Elab.async false
set_option linter.all false
set_option maxRecDepth 100000
set_option maxHeartbeats 1000000
namespace L2
open PySem PySem.Spec PyProof.Rows
/-! ## MH: a text's signs, walked; all; in -/
section
variable {X : Cx} {tg : Expr}
/-- in: a list or a tuple of flat values, a text, a dict's keys -/
def inV2 (neg : Bool) : R2 := fun x y H Q => match y with
  | .str j => (match x with
    | .str i => Q (.bl (neg ^^ !(Builtin.Str.occurrences j i 0 j.length 1).isEmpty)) H
    | _ => False)
  | .ref p => (match H p with
    | some (.dK kvs) => ∃ k, x = kV k ∧ Q (.bl (neg ^^ (valV kvs k).isSome)) H
    | _ => need (seqAt H p) fun xs => flatV x = true ∧ xs.all flatV = true ∧ Q (.bl (neg ^^ inV x xs)) H)
  | _ => False
theorem seq_sq {K : PySem.W.Frag} {H : Hp} {p : Addr} {xs : List V} (h : seqAt H p = some xs) : SqL K H p xs ∨ SqT K H p xs := by
  rcases seqAt_or h with h | h
  · exact .inl (lstAt_sq h)
  · exact .inr (tupAt_sq h)
theorem op_inV {k : Nat} (hr : Room k X.A) : OpR X (compareOp .In) (inV2 false) := by
  intro pins s σ H x y v u Q I rx ry h
  unfold inV2 at h
  split at h
  · split at h
    · exact op_in_str pins s σ H _ _ v u Q I rx ry ⟨_, _, rfl, rfl, by simpa using h⟩
    · exact h.elim
  · split at h
    · rename_i p kvs e
      obtain ⟨k, rfl, q⟩ := h
      cases ry
      exact d_in (hu_of hr) I (.k e) rx fun s' I' => ⟨.bl _, H, I', rfl, by simpa using q⟩
    · obtain ⟨xs, e, h1, h2, q⟩ := need_ex h
      exact op_in_seq pins s σ H _ _ v u Q I rx ry ⟨_, xs, rfl, seq_sq e, h1, h2, by simpa using q⟩
  · exact h.elim
theorem op_notInV {k : Nat} (hr : Room k X.A) : OpR X (compareOp .NotIn) (inV2 true) := by
  intro pins s σ H x y v u Q I rx ry h
  unfold inV2 at h
  split at h
  · split at h
    · exact op_notIn_str pins s σ H _ _ v u Q I rx ry ⟨_, _, rfl, rfl, by simpa using h⟩
    · exact h.elim
  · split at h
    · rename_i p kvs e
      obtain ⟨k, rfl, q⟩ := h
      cases ry
      exact d_notIn (hu_of hr) I (.k e) rx fun s' I' => ⟨.bl _, H, I', rfl, by simpa using q⟩
    · obtain ⟨xs, e, h1, h2, q⟩ := need_ex h
      exact op_notIn_seq pins s σ H _ _ v u Q I rx ry ⟨_, xs, rfl, seq_sq e, h1, h2, by simpa using q⟩
  · exact h.elim
end
end L2
namespace M
open PySem PySem.Spec PyProof.Rows L2
section
variable {X : Cx} {Z : Zc} {f : Ex} {iter tg : Expr}
def signs (z : Str) : List W := z.cps.toList.map fun c => .str ⟨#[c]⟩
def xIs (f : Ex) : Ei := fun ρ h => match f ρ h with
  | .ok (.str z) h' => .ok none (signs z) h'
  | .ex w h' => .ex w h'
  | _ => .no
instance pu_is {f : Ex} [hf : Pu f] : PuI (xIs f) := ⟨fun ρ h s w h' e => by
  unfold xIs at e
  split at e
  · rename_i e1; cases e; exact hf.pu _ _ _ _ e1
  · cases e
  · cases e⟩
end
section
variable {T : CTb}
def bolW : List W → Option (List Bool)
  | [] => some []
  | .bl i :: r => (bolW r).map (i :: ·)
  | _ :: _ => none
theorem bolW_ok {φ : List Addr} {H : Hp} : ∀ {ws : List W} {vs : List V} {ns : List Bool}, RWs T φ H ws vs → bolW ws = some ns → bolsOf vs = some ns
  | [], vs, ns, r, e => by cases e; unfold RWs at r; subst r; rfl
  | w :: ws, vs, ns, r, e => by
    unfold RWs at r
    obtain ⟨v, s, rfl, a, b⟩ := r
    cases w with
    | bl i =>
      unfold bolW at e
      rw [Option.map_eq_some_iff] at e
      obtain ⟨ms, e, rfl⟩ := e
      rw [bl_rw a]
      unfold bolsOf
      rw [bolW_ok b e]; rfl
    | _ => cases e
def allBM (h : Mem) : List W → Option W
  | [w] => ((items h w).bind bolW).map fun bs => .bl (bs.all id)
  | _ => none
/-! in -/
def keyW : W → Option Key
  | .int i => some (.inl i)
  | .str x => some (.inr x)
  | _ => none
def getK {α : Type} (kvs : List (Key × α)) (k : Key) : Option α := (kvs.find? fun kv => decide (kv.1 = k)).map (·.2)
def dicts (h : Mem) : W → Option (List (Key × W))
  | .td ks ws => some (ks.zip ws)
  | .ref n => (match h[n]? with
    | some (.dic kvs) => some kvs
    | _ => none)
  | _ => none
def inM (neg : Bool) (h : Mem) (a b : W) : Option W := match b with
  | .str j => (match a with
    | .str i => some (.bl (neg ^^ !(Builtin.Str.occurrences j i 0 j.length 1).isEmpty))
    | _ => none)
  | b => (match dicts h b with
    | some kvs => (keyW a).map fun k => .bl (neg ^^ (getK kvs k).isSome)
    | none => (seqs h b).bind fun xs => if (flatW a && xs.all flatW) = true then some (.bl (neg ^^ xs.any fun y => eqFl y a)) else none)
theorem rp_getK {φ : List Addr} {H : Hp} {kvs : List (Key × W)} {kv : List (Key × V)} (r : RP T φ H kvs kv) (k : Key) : match getK kvs k, valV kv k with
    | some w, some v => RW T φ H w v
    | none, none => True
    | _, _ => False := by
  unfold getK valV
  induction r with
  | nil => trivial
  | @cons a b as bs h _ ih =>
    rw [List.find?_cons, List.find?_cons, h.1]
    by_cases e : b.1 = k
    · simp only [e, decide_true]
      exact h.2
    · simp only [e, decide_false]
      exact ih
theorem rp_zip {φ : List Addr} {H : Hp} {κ : Type} : ∀ {ks : List κ} {ws : List W} {vs : List V}, RWs T φ H ws vs → RP T φ H (ks.zip ws) (ks.zip vs)
  | [], ws, vs, r => by simp; exact .nil
  | k :: ks, [], vs, r => by unfold RWs at r; subst r; exact .nil
  | k :: ks, w :: ws, vs, r => by
    unfold RWs at r
    obtain ⟨v, s, rfl, a, b⟩ := r
    rw [List.zip_cons_cons, List.zip_cons_cons]
    exact .cons ⟨rfl, a⟩ (rp_zip b)
theorem dicts_ok {φ : List Addr} {H : Hp} {h : Mem} {w : W} {v : V} {kvs : List (Key × W)} (r : RH T φ h H) (x : RW T φ H w v) (e : dicts h w = some kvs) : ∃ p kv, v = .ref p ∧ H p = some (.dK kv) ∧ RP T φ H kvs kv := by
  cases w with
  | td ks ws =>
    cases e
    unfold RW at x
    obtain ⟨p, vs, rfl, _, c, l, rr⟩ := x
    exact ⟨p, _, rfl, c, rp_zip rr⟩
  | ref n =>
    unfold dicts at e
    unfold RW at x
    obtain ⟨p, a, rfl⟩ := x
    cases q : h[n]? with
    | none => simp [q] at e
    | some o =>
      cases o with
      | dic us =>
        simp [q] at e
        subst e
        obtain ⟨ho, y, kv, rfl, z⟩ := r.obj n _ p q a
        exact ⟨p, kv, rfl, y, z⟩
      | _ => simp [q] at e
  | _ => cases e
theorem keyW_ok {φ : List Addr} {H : Hp} {w : W} {v : V} {k : Key} (x : RW T φ H w v) (e : keyW w = some k) : v = kV k := by
  cases w with
  | int i => cases e; exact int_rw x
  | str i => cases e; exact str_rw x
  | _ => cases e
theorem any_flat {φ : List Addr} {H : Hp} {a : W} {u : V} (ra : RW T φ H a u) (fa : flatW a = true) : ∀ {ws : List W} {vs : List V}, RWs T φ H ws vs → ws.all flatW = true → vs.all flatV = true ∧ inV u vs = ws.any fun y => eqFl y a
  | [], vs, r, f => by unfold RWs at r; subst r; exact ⟨rfl, rfl⟩
  | w :: ws, vs, r, f => by
    unfold RWs at r
    obtain ⟨v, s, rfl, x, y⟩ := r
    rw [List.all_cons, Bool.and_eq_true] at f
    have ih := any_flat ra fa y f.2
    have f1 := flat_ok x f.1
    refine ⟨by rw [List.all_cons, f1.1, ih.1]; rfl, ?_⟩
    unfold inV at ih ⊢
    rw [List.any_cons, List.any_cons, ih.2, f1.2 ra fa]
theorem inM_ok {neg : Bool} : OpW T (inM neg) (inV2 neg) := by
  intro φ h H a b u v w Q r ra rb e k
  unfold inM at e
  split at e
  · rw [str_rw rb]
    split at e
    · cases e
      rw [str_rw ra]
      exact here_k r rw_b k
    · cases e
  · rename_i b' hb
    cases q : dicts h b with
    | some kvs =>
      rw [q] at e
      simp only [Option.map_eq_some_iff] at e
      obtain ⟨key, e1, rfl⟩ := e
      obtain ⟨p, kv, rfl, hp, rp⟩ := dicts_ok r rb q
      unfold inV2
      simp only [hp]
      refine ⟨key, keyW_ok ra e1, ?_⟩
      have := rp_getK rp key
      have e2 : (valV kv key).isSome = (getK kvs key).isSome := by
        cases z1 : getK kvs key <;> cases z2 : valV kv key <;> simp [z1, z2] at this ⊢
      rw [e2]
      exact here_k r rw_b k
    | none =>
      rw [q] at e
      simp only [Option.bind_eq_some_iff] at e
      obtain ⟨xs, e1, e2⟩ := e
      split at e2
      · rename_i hf
        cases e2
        rw [Bool.and_eq_true] at hf
        obtain ⟨p, vs, rfl, hp, rs⟩ := seqs_ok r rb e1
        have hd : ∀ kvs, H p ≠ some (.dK kvs) := fun kvs z => by
          unfold seqAt at hp; rw [z] at hp; cases hp
        have f := any_flat ra hf.1 rs hf.2
        have fin : need (seqAt H p) fun xs => flatV u = true ∧ xs.all flatV = true ∧ Q (.bl (neg ^^ inV u xs)) H := by
          rw [hp]
          exact ⟨(flat_ok ra hf.1).1, f.1, by rw [f.2]; exact here_k r rw_b k⟩
        show (match H p with
          | some (.dK kvs) => ∃ k, u = kV k ∧ Q (.bl (neg ^^ (valV kvs k).isSome)) H
          | _ => need (seqAt H p) fun xs => flatV u = true ∧ xs.all flatV = true ∧ Q (.bl (neg ^^ inV u xs)) H)
        cases z : H p with
        | none => exact fin
        | some o =>
          cases o with
          | dK kvs => exact absurd z (hd kvs)
          | _ => exact fin
      · cases e2
end
end M

set_option Elab.async false
set_option linter.all false
set_option maxRecDepth 100000
set_option maxHeartbeats 1000000
namespace M
open PySem PySem.Spec PyProof.Rows L2
/-! ## MI: reckoning with blocks and texts -/
/-- a def by its own body: what the machine makes of it -/
def selfF (n m : Nat) (B : Sm) : Fm := fun ws h => if ws.length = n then (match runB m B ws h with
  | .ok w h' => if h.length ≤ h'.length then .ok w h' else .no
  | _ => .no) else .no
theorem selfF_ok {n m : Nat} {B : Sm} {ws : List W} {h h' : Mem} {w : W} (hl : ws.length = n) (e : runB m B ws h = .ok w h') (hk : h.length ≤ h'.length) : selfF n m B ws h = .ok w h' := by
  unfold selfF
  rw [if_pos hl, e]
  simp [hk]
section
variable {P : Program} {w : World} {K : PySem.W.Frag} {mg : Str → Option Value} {base : Heap} {T : CTb}
theorem def0s {x : Str} {st : Stmt} {N ps : List Str} {k : Nat} {B : Sm} (R : DefAt K mg x st) (S : FnScope N ps (defScope st)) (hb : BindsAll x x st ps)
    (hB : ∀ (f : Addr) (cdv : Value) (A : Around) (outer : List Env) (s : Shared) (H : Hp) (E : XK) (φ0 : List Addr) (H0 : Hp), Room k (A.deeper (envOfC x (defScope st) s.heap.objs.size f cdv)) → QB (cxOf CX0 P w K mg base N x (defScope st) f cdv A outer s H E).nox (Zf T φ0 H0) (defBody st) B) :
    FnAt P w K mg base CX0 (k + 1) x (spH T (selfF ps.length N.length B)) := by
  refine def0q R S hb hB (fun ws h w m => ?_) fun ws h wf lt => ?_
  · unfold selfF
    split
    · split
      · split <;> simp
      · simp
    · simp
  · unfold selfF
    split
    · rename_i hl
      cases e : runB N.length B ws h with
      | ok w h' =>
        simp only
        split
        · rename_i hk
          exact .inr ⟨hl, fits_ok hk⟩
        · exact .inl rfl
      | ex w h' => exact .inl rfl
      | no => exact .inl rfl
    · exact .inl rfl
end
theorem atI_getD {α : Type} {l : List α} {i : Int} (d : α) (h0 : 0 ≤ i) (h1 : i < l.length) : atI l i = some (l.getD i.toNat d) := by
  rw [atI_get' h0]
  have : i.toNat < l.length := by omega
  simp [List.getD, this]
/-! texts by their codes -/
theorem codes_add (x y : Str) : (x ++ y).cps.toList = x.cps.toList ++ y.cps.toList := by rw [PySem.Str.cps_append, Array.toList_append]
theorem length_codes (x : Str) : x.length = x.cps.toList.length := by simp [Str.length]
end M

set_option Elab.async false
set_option linter.all false
set_option maxRecDepth 100000
set_option maxHeartbeats 1000000
namespace L2
open PySem PySem.Spec PyProof.Rows PySem.Builtin.Str
/-! ## MJ: split; targets of two; more -/
section
variable {X : Cx}
end
end L2

set_option Elab.async false
set_option linter.all false
set_option maxRecDepth 100000
set_option maxHeartbeats 1000000
namespace M
open PySem PySem.Spec PyProof.Rows L2 PySem.Builtin.Str
/-! ## MK: what split at one sign makes -/
end M

set_option Elab.async false
set_option linter.all false
set_option maxRecDepth 100000
set_option maxHeartbeats 1000000
namespace M
open PySem PySem.Spec PyProof.Rows L2
/-! ## ML: split; targets of several names -/
section
variable {T : CTb}
def splitM (_ : Mem) (a : W) (ws : List W) : Option W := match a, ws with
  | .str z, [.str y] => if (y.length == 0) = false ∧ z.length ≤ sizeLine ∧ (Builtin.Str.partsBetween z (Builtin.Str.occurrences z y 0 z.length (z.length + 1)) y.length).length ≤ sizeLine then some (.tl ((Txt.split z y).map W.str)) else none
  | _, _ => none
end
section
variable {X : Cx} {Z : Zc} {f : Ex} {fa : Exs} {o e : Expr} {es : List Expr} {apos cpos pos : Pos}
def gT2 (i j : Nat) : Tg := fun w ρ => match w with
  | .tup [a, b] => some ((ρ.set i (some a)).set j (some b))
  | _ => none
end
end M

set_option Elab.async false
set_option linter.all false
set_option maxRecDepth 100000
set_option maxHeartbeats 1000000
namespace M
open PySem PySem.Spec PyProof.Rows L2
/-! ## MN: instances: attributes, methods, making; lists that change -/
section
variable {T : CTb} {φ : List Addr} {H : Hp}
theorem rp_lookup {nm : Str} : ∀ {fs : List (Str × W)} {fv : List (Str × V)}, RP T φ H fs fv → (∀ w, fs.lookup nm = some w → ∃ v, fv.lookup nm = some v ∧ RW T φ H w v) ∧ (fs.lookup nm = none → fv.lookup nm = none)
  | [], fv, r => by
    cases r
    exact ⟨fun _ e => (by cases e), fun _ => rfl⟩
  | (a, x) :: fs, fv, r => by
    cases r with
    | cons p q =>
      rename_i b l
      obtain ⟨k, v⟩ := b
      obtain ⟨e, rx⟩ := p
      dsimp only at e rx
      subst e
      obtain ⟨i1, i2⟩ := rp_lookup (nm := nm) q
      rw [List.lookup_cons, List.lookup_cons]
      cases h : nm == a with
      | true => exact ⟨fun w e => by cases e; exact ⟨v, rfl, rx⟩, fun e => by cases e⟩
      | false => exact ⟨i1, i2⟩
def putW (f : Str) (w : W) : List (Str × W) → List (Str × W)
  | [] => [(f, w)]
  | (g, x) :: r => bif g == f then (g, w) :: r else (g, x) :: putW f w r
theorem rp_put {nm : Str} {w : W} {v : V} (x : RW T φ H w v) : ∀ {fs : List (Str × W)} {fv : List (Str × V)}, RP T φ H fs fv → RP T φ H (putW nm w fs) (putF nm v fv)
  | [], fv, r => by cases r; exact .cons ⟨rfl, x⟩ .nil
  | (a, y) :: fs, fv, r => by
    cases r with
    | cons p q =>
      rename_i b l
      obtain ⟨k, u⟩ := b
      obtain ⟨e, rx⟩ := p
      dsimp only at e rx
      subst e
      unfold putW putF
      by_cases h : a = nm
      · rw [if_pos h, beq_iff_eq.mpr h]
        exact .cons ⟨rfl, x⟩ q
      · rw [if_neg h, beq_eq_false_iff_ne.mpr h]
        exact .cons ⟨rfl, rx⟩ (rp_put x q)
/-- what a class must have for an attribute of its instances -/
def FldOk (K : PySem.W.Frag) (T : CTb) (nm : Str) : Prop := ∀ c C, T c = some C → Cls K C ∧ NoAttr K C nm
theorem ref_ins {h : Mem} {n : Nat} {c : Str} {fs : List (Str × W)} {v : V} (r : RH T φ h H) (x : RW T φ H (.ref n) v) (e : h[n]? = some (.ins c fs)) : ∃ a C dx fv, v = .ref a ∧ φ[n]? = some a ∧ H a = some (.ins C dx fv) ∧ T c = some C ∧ RP T φ H fs fv := by
  unfold RW at x
  obtain ⟨a, ea, rfl⟩ := x
  obtain ⟨ho, y, C, dx, fv, rfl, hc, rp⟩ := r.obj n _ a e ea
  exact ⟨a, C, dx, fv, rfl, ea, y, hc, rp⟩
end
def xSetF (nm : Str) (fo fv : Ex) : Sm := fun ρ h => match fv ρ h with
  | .ok y h1 => (match fo ρ h1 with
    | .ok (.ref n) h2 => (match h2[n]? with
      | some (.ins c fs) => bif decide (fs.length < 1000) then .nx ρ (h2.set n (.ins c (putW nm y fs))) else .no
      | _ => .no)
    | .ex w h2 => .ex w h2
    | _ => .no)
  | .ex w h1 => .ex w h1
  | .no => .no
/-- an operation of the list type that changes it: what comes, the list then -/
def xLm (op : List W → List W → Option (W × List W)) (f : Ex) (g : Exs) : Ex := fun ρ h => (f ρ h).bind fun a h1 => match a with
  | .ref n => (match h1[n]? with
    | some (.lst _) => (match g ρ h1 with
      | .ok ws h2 => (match h2[n]? with
        | some (.lst xs) => (match op xs ws with
          | some (w, ys) => .ok w (h2.set n (.lst ys))
          | none => .no)
        | _ => .no)
      | .ex w h2 => .ex w h2
      | .no => .no)
    | _ => .no)
  | _ => .no
def appM : List W → List W → Option (W × List W) := fun xs ws => match ws with
  | [w] => bif decide (xs.length < sizeLine) then some (.non, xs ++ [w]) else none
  | _ => none
section
variable {T : CTb}
end
section
variable {X : Cx} {Z : Zc} {f g k : Ex} {fa : Exs} {o e v : Expr} {es : List Expr} {apos cpos pos pos' : Pos} {nm : Str}
theorem qs_fld (ho : QE X Z o f) (hv : QE X Z v g) (hK : FldOk X.K Z.T nm) (hs : swapsWith v (some (.Attribute o nm pos')) pos.line X.env = pure false := by rfl) : QS X Z (.Assign [.Attribute o nm pos'] v pos) (xSetF nm f g) :=
  ⟨(ps_fld ho.pe hv.pe hs).imp fun D σ H ⟨φ, m, ρ, x, q⟩ => ⟨φ, m, ρ, x, by
    unfold xSetF at q
    cases e1 : g ρ m with
    | no => rw [e1] at q; exact q.elim
    | ex w h1 => rw [e1] at q; exact q
    | ok y h1 =>
      rw [e1] at q
      intro φ1 H1 vy s1 r1 ry
      refine ⟨φ1, h1, ρ, x.step s1 r1, ?_⟩
      dsimp only at q
      cases e2 : f ρ h1 with
      | no => rw [e2] at q; exact q.elim
      | ex w h2 => rw [e2] at q; exact q
      | ok a h2 =>
        rw [e2] at q
        intro φ2 H2 va s2 r2 ra
        cases a with
        | ref n =>
          dsimp only at q
          cases e3 : h2[n]? with
          | none => rw [e3] at q; exact q.elim
          | some ob =>
            rw [e3] at q
            cases ob with
            | ins c fs =>
              dsimp only at q
              cases hz : decide (fs.length < 1000) with
              | false => rw [hz] at q; exact q.elim
              | true =>
                rw [hz] at q
                obtain ⟨p, C, dx, fv, rfl, ep, yp, hc, rp⟩ := ref_ins r2 ra e3
                have ro : RO Z.T φ2 H2 (.ins c (putW nm y fs)) (.ins C dx (putF nm vy fv)) := ⟨C, dx, _, rfl, hc, rp_put (ry.step s2) rp⟩
                have s3 := step_set (H := H2) (ho := .ins C dx (putF nm vy fv)) (List.mem_of_getElem? ep)
                exact ⟨p, C, dx, fv, rfl, yp, (hK c C hc).1, (hK c C hc).2, by rw [← rp_length rp]; exact of_decide_eq_true hz,
                  q φ2 _ σ (s1.trans (s2.trans s3)) (r2.set ep ro) (x.rs.step (s1.trans (s2.trans s3))) x.sg⟩
            | _ => exact q.elim
        | _ => exact q.elim⟩⟩
end
end M

set_option Elab.async false
set_option linter.all false
set_option maxRecDepth 100000
set_option maxHeartbeats 1000000
namespace M
open PySem PySem.Spec PyProof.Rows L2
/-! ## MO: calls of methods, of classes -/
section
variable {X : Cx} {Z : Zc} {f g k : Ex} {fa : Exs} {o e v : Expr} {es : List Expr} {apos cpos pos pos' p : Pos} {nm : Str}
/-! methods -/
def tMethA (CX : CXT) (k : Nat) (X : Cx) (m : Str) (E : XK) (ta : TE) (t : TA) : TE := fun σ H Q => ta σ H fun x H1 => ∃ a C dx fs f fd ps sp, x = .ref a ∧ H1 a = some (.ins C dx fs) ∧ Cls X.K C ∧ Meth X.K C m f ∧
  FnOk X.prog X.w X.K X.mg X.base CX k f fd ps sp ∧ Binds X.K fd ps [] ∧ fs.lookup m = none ∧ t σ H1 fun vs H2 => sp (x :: vs) H2 Q E
theorem pe_methA0 {CX : CXT} {k : Nat} {m : Str} {E : XK} {ta : TE} {pl : Sem Bool} (he : PE X o ta) (hr : Room k X.A) (hx : Passes CX X E)
    (ht : eval (.Call (.Attribute o m apos) [] [] pos) X.env = (do
      let ov ← eval o X.env
      standAt apos.atName
      let (f, first) ← holding [ov] (getMethod ov m pl)
      callWith pos f first (backTo pos (starEach [] X.env)) (backToKw pos (keywordEach [] X.env))) := by rfl) :
    PE X (.Call (.Attribute o m apos) [] [] pos) (tMethA CX k X m E ta tNil) := by
  intro pins s σ H Q I h
  refine PySem.W.methodCall_KW (pl := pl) (thn (he pins s σ H _ I h) fun u s1 ⟨x, H1, I1, rx, a, C, dx, fs, f, fd, ps, sp, ex, ea, c, hm, F, hb, l, q⟩ => ?_) ht
  subst ex
  obtain rfl : u = Value.ref a := rx
  refine getmeth_ok I1 ea c hm l ?_
  exact PySem.W.callWith_K0 (first := [.ref a]) I1.kIn hm.kp (run_fn (us := [.ref a]) (vs := [.ref a]) F hr hb .nil hx I1 (.cons rfl .nil) q)
/-- a method of a class, with a promise -/
def MtAt (P : Program) (w : World) (K : PySem.W.Frag) (mg : Str → Option Value) (base : Heap) (T : CTb) (k : Nat) (c m : Str) (F : Fm) : Prop :=
  ∃ C f fd ps, T c = some C ∧ Meth K C m f ∧ FnOk P w K mg base CX0 k f fd ps (spH T F) ∧ Binds K fd ps []
abbrev Tab := Str → Option Fm
def TabAt (P : Program) (w : World) (K : PySem.W.Frag) (mg : Str → Option Value) (base : Heap) (T : CTb) (k : Nat) (m : Str) (tab : Tab) : Prop := ∀ c F, tab c = some F → MtAt P w K mg base T k c m F
def xMeth (m : Str) (tab : Tab) (f : Ex) (g : Exs) : Ex := fun ρ h => (f ρ h).bind fun a h1 => match a with
  | .ref n => (match h1[n]? with
    | some (.ins c fs) => (match tab c, fs.lookup m with
      | some F, none => (match g ρ h1 with
        | .ok ws h2 => (match F (.ref n :: ws) h2 with
          | .ok w h3 => .ok w h3
          | _ => .no)
        | .ex w h2 => .ex w h2
        | .no => .no)
      | _, _ => .no)
    | _ => .no)
  | _ => .no
theorem meth_ok {m : Str} {tab : Tab} {kk : Nat} {E : XK} (hI : InsOk X.K Z.T) (ht : TabAt X.prog X.w X.K X.mg X.base Z.T kk m tab) {σ : St} {H : Hp} {Q : VK} (q : tH Z (xMeth m tab f fa) σ H Q) : tMethA CX0 kk X m E (tH Z f) (tHA Z fa) σ H Q := by
  obtain ⟨φ, mm, ρ, x, q⟩ := q
  refine ⟨φ, mm, ρ, x, ?_⟩
  unfold xMeth at q
  rw [bindP] at q
  refine q.mono fun a h1 q1 => fun φ1 H1 u s1 r1 ra => ?_
  cases a with
  | ref n =>
    dsimp only at q1
    cases e1 : h1[n]? with
    | none => rw [e1] at q1; exact q1.elim
    | some ob =>
      rw [e1] at q1
      cases ob with
      | ins c fs =>
        dsimp only at q1
        obtain ⟨a, C, dx, fv, rfl, ea, y, hc, rp⟩ := ref_ins r1 ra e1
        cases et : tab c with
        | none => rw [et] at q1; exact q1.elim
        | some F =>
          cases el : fs.lookup m with
          | some w => rw [et, el] at q1; exact q1.elim
          | none =>
            rw [et, el] at q1
            obtain ⟨C', f', fd, ps, hc', hm, Fk, hb⟩ := ht c F et
            rw [hc] at hc'; cases hc'
            refine ⟨a, C, dx, fv, f', fd, ps, _, rfl, y, (hI c C hc).cl, hm, Fk, hb, (rp_lookup rp).2 el, φ1, h1, ρ, x.step s1 r1, ?_⟩
            dsimp only at q1
            cases e2 : fa ρ h1 with
            | no => rw [e2] at q1; exact q1.elim
            | ex w h2 => rw [e2] at q1; exact q1
            | ok ws h2 =>
              rw [e2] at q1
              intro φ2 H2 vs s2 r2 rv
              refine ⟨φ2, h2, .ref n :: ws, r2, by unfold RWs; exact ⟨_, _, rfl, ra.step s2, rv⟩, ?_⟩
              dsimp only at q1
              cases e3 : F (.ref n :: ws) h2 with
              | no => rw [e3] at q1; exact q1.elim
              | ex w h3 => rw [e3] at q1; exact q1.elim
              | ok w h3 => rw [e3] at q1; exact Kv.step q1 (s1.trans s2)
      | _ => exact q1.elim
  | _ => exact q1.elim
theorem q_meth0 {m : Str} {tab : Tab} {kk j : Nat} {pl : Sem Bool} (hI : InsOk X.K Z.T) (ht : TabAt X.prog X.w X.K X.mg X.base Z.T kk m tab) (hr : Room j X.A) (hkj : kk ≤ j) (ho : QE X Z o f)
    (hev : eval (.Call (.Attribute o m apos) [] [] pos) X.env = (do
      let ov ← eval o X.env
      standAt apos.atName
      let (f, first) ← holding [ov] (getMethod ov m pl)
      callWith pos f first (backTo pos (starEach [] X.env)) (backToKw pos (keywordEach [] X.env))) := by rfl) (hcl : X.calm = true := by rfl) : QE X Z (.Call (.Attribute o m apos) [] [] pos) (xMeth m tab f xNil) :=
  ⟨(pe_methA0 (pl := pl) ho.pe (hr.mono hkj) (pass0 hcl) hev).imp fun σ H Q q => by
    obtain ⟨φ, mm, ρ, x, q⟩ := meth_ok (E := E0) hI ht q
    refine ⟨φ, mm, ρ, x, q.mono fun a h1 q1 => fun φ1 H1 u s1 r1 ra => ?_⟩
    obtain ⟨a, C, dx, fs, f', fd, ps, sp, z1, z2, z3, z4, z5, z6, z7, φ2, m2, ρ2, x2, z8⟩ := q1 φ1 H1 u s1 r1 ra
    exact ⟨a, C, dx, fs, f', fd, ps, sp, z1, z2, z3, z4, z5, z6, z7, z8 φ2 H1 [] (Step.refl _ _) x2.rh (by unfold RWs; rfl)⟩⟩
/-! making -/
def MkAt (P : Program) (w : World) (K : PySem.W.Frag) (mg : Str → Option Value) (base : Heap) (T : CTb) (k : Nat) (c : Str) (F : Fm) : Prop :=
  ∃ C f fd ps, T c = some C ∧ mg c = some (.ref C) ∧ Mk K C f ∧ FnOk P w K mg base CX0 k f fd ps (spH T F) ∧ Binds K fd ps []
def xMake (c : Str) (F : Fm) (g : Exs) : Ex := fun ρ h => match g ρ h with
  | .ok ws h1 => (match F (.ref h1.length :: ws) (h1 ++ [.ins c []]) with
    | .ok .non h2 => .ok (.ref h1.length) h2
    | _ => .no)
  | .ex w h1 => .ex w h1
  | .no => .no
theorem make_ok {c : Str} {C : Addr} {F : Fm} {E : XK} (hc : Z.T c = some C) {σ : St} {H : Hp} {Q : VK} (q : tH Z (xMake c F fa) σ H Q) : tMake C (spH Z.T F) [] E (tHA Z fa) σ H Q := by
  obtain ⟨φ, mm, ρ, x, q⟩ := q
  refine ⟨φ, mm, ρ, x, ?_⟩
  unfold xMake at q
  cases e2 : fa ρ mm with
  | no => rw [e2] at q; exact q.elim
  | ex w h2 => rw [e2] at q; exact q
  | ok ws h1 =>
    rw [e2] at q
    intro φ1 H1 vs s1 r1 rv a dx ha hd hne
    rw [List.append_nil]
    have ha' : upd H1 dx (.own a) a = none := by rw [upd_ne (Ne.symm hne)]; exact ha
    have s2 := step_tmp (φ := φ1) (ho := .own a) hd
    have s3 := step_new (φ := φ1) (ho := .ins C dx []) ha'
    have r2 := r1.tmp (ho := .own a) hd
    have r3 := r2.new (o := .ins c []) (ho := .ins C dx []) ha' ⟨C, dx, [], rfl, hc, .nil⟩
    have g0 : (φ1 ++ [a])[h1.length]? = some a := by rw [← r1.len]; simp
    refine ⟨φ1 ++ [a], h1 ++ [.ins c []], .ref h1.length :: ws, r3, by unfold RWs; exact ⟨_, _, rfl, by unfold RW; exact ⟨a, g0, rfl⟩, rv.step (s2.trans s3)⟩, ?_⟩
    dsimp only at q
    cases e3 : F (.ref h1.length :: ws) (h1 ++ [.ins c []]) with
    | no => rw [e3] at q; exact q.elim
    | ex w h3 => rw [e3] at q; exact q.elim
    | ok w h3 =>
      rw [e3] at q
      cases w with
      | non =>
        intro φ4 H4 v s4 r4 rw4
        refine ⟨by unfold RW at rw4; exact rw4, q φ4 H4 (.ref a) (s1.trans (s2.trans (s3.trans s4))) r4 ?_⟩
        unfold RW
        exact ⟨a, s4.get g0, rfl⟩
      | _ => exact q.elim
theorem q_make {c : Str} {F : Fm} {kk j : Nat} (Mx : MkAt X.prog X.w X.K X.mg X.base Z.T kk c F) (hr : Room j X.A) (hkj : kk + 1 ≤ j) (hg : Gl X c) (ha : QA X Z (e :: es) fa) (hdb : (c == ("__debug__" : Str)) = false := by decide)
    (he : starEach (e :: es) X.env = (false, eval e X.env) :: starEach es X.env := by rfl) (hpl : (backTo pos (starEach es X.env)).any (·.1) = false := by rfl) (hcl : X.calm = true := by rfl) : QE X Z (.Call (.Name c p) (e :: es) [] pos) (xMake c F fa) := by
  obtain ⟨C, f, fd, ps, hc, hm, Mc, Fk, hb⟩ := Mx
  exact ⟨(pe_make Mc Fk (hr.mono hkj) hg hm hb .nil (pass0 hcl) ha.pa hdb he hpl).imp fun σ H Q q => make_ok hc q⟩
/-! a def of a class, by the class's name -/
structure ClsFn (K : PySem.W.Frag) (C : Addr) (m : Str) (f : Addr) : Prop where
  ex : ∃ mc, PySem.W.specialIn K (.ref C) "__getattribute__" = some (some (.builtin "type.__getattribute__")) ∧ PySem.W.readsIn K C mc = true ∧ PySem.W.findCls K (.ref C) mc m = some (.val (.ref f))
  kp : PySem.W.keepIn K (.ref f) = true
def ClAt (P : Program) (w : World) (K : PySem.W.Frag) (mg : Str → Option Value) (base : Heap) (T : CTb) (k : Nat) (c m : Str) (F : Fm) : Prop :=
  ∃ C f fd ps, mg c = some (.ref C) ∧ ClsFn K C m f ∧ FnOk P w K mg base CX0 k f fd ps (spH T F) ∧ Binds K fd ps []
theorem q_clcall {c m : Str} {F : Fm} {kk j : Nat} {pl : Sem Bool} (Mx : ClAt X.prog X.w X.K X.mg X.base Z.T kk c m F) (hr : Room j X.A) (hkj : kk ≤ j) (hg : Gl X c) (ha : QA X Z (e :: es) fa) (hdb : (c == ("__debug__" : Str)) = false := by decide)
    (hst : starEach (e :: es) X.env = (false, eval e X.env) :: starEach es X.env := by rfl) (hpl : (backTo pos (starEach es X.env)).any (·.1) = false := by rfl)
    (hev : eval (.Call (.Attribute (.Name c p) m apos) (e :: es) [] pos) X.env = (do
      let ov ← eval (.Name c p) X.env
      standAt apos.atName
      let (f, first) ← holding [ov] (getMethod ov m pl)
      callWith pos f first (backTo pos (starEach (e :: es) X.env)) (backToKw pos (keywordEach [] X.env))) := by rfl) (hcl : X.calm = true := by rfl) : QE X Z (.Call (.Attribute (.Name c p) m apos) (e :: es) [] pos) (xCall0 F fa) := by
  obtain ⟨C, f, fd, ps, hm, ⟨⟨mc, h1, h2, h3⟩, kp⟩, Fk, hb⟩ := Mx
  refine ⟨PE.imp (t := tCall (spH Z.T F) [] E0 (tHA Z fa)) ?_ fun σ H Q q => call0_ok q⟩
  intro pins s σ H Q I h
  refine PySem.W.methodCall_KW (pl := pl) (ld_glob I hg hm ?_ hdb) hev
  refine PySem.W.method_cls I.kIn h1 (PySem.W.cls_value I.kIn h2 h3 rfl ?_)
  have I1 := I.tok (s.toks + 1)
  refine PySem.W.callWith_K (first := []) (h₀ := X.base) I.ok.mod.kin kp (thn (ha.pa pos pins _ σ H _ I1 h) fun us s2 ⟨vs, H2, I2, r, q2⟩ => ⟨I2.kIn, ?_⟩) hst hpl
  exact run_fn Fk (hr.mono hkj) hb .nil (pass0 hcl) I2 r q2
end
section
variable {P : Program} {w : World} {K : PySem.W.Frag} {mg : Str → Option Value} {base : Heap} {T : CTb}
/-- a def of a class as the text has it -/
theorem funM {x qual : Str} {st : Stmt} {N ps : List Str} {k : Nat} {F : Fm} {f : Addr} {fd : FuncData} {B : Sm} (R : Fun K x qual st f fd) (S : FnScope N ps (defScope st))
    (hB : ∀ (cdv : Value) (A : Around) (outer : List Env) (s : Shared) (H : Hp) (E : XK) (φ0 : List Addr) (H0 : Hp), Room k (A.deeper (envOfC qual (defScope st) s.heap.objs.size f cdv)) → QB (cxOf CX0 P w K mg base N qual (defScope st) f cdv A outer s H E).nox (Zf T φ0 H0) (defBody st) B)
    (hx : ∀ ws h w m, F ws h ≠ .ex w m) (hF : Told ps.length N.length B F) : FnOk P w K mg base CX0 (k + 1) f fd ps (spH T F) := by
  refine R.ok S (fun vs H Q E h => ?_) (fun cdv A outer s H vs Q E hr h => ?_)
  · obtain ⟨φ, h, ws, r, rv, q⟩ := h
    rcases hF ws h r.wf (by rw [← r.len]; exact rv.lt) with e | ⟨e, _⟩
    · rw [e] at q; exact q.elim
    · rw [← rv.length]; exact e
  · obtain ⟨φ, h, ws, r, rv, q⟩ := h
    refine ⟨_, (hB cdv A outer s H E φ H hr).ps, φ, h, startW N.length ws, ⟨trivial, Step.refl _ _, r, rs_start rv⟩, ?_⟩
    rcases hF ws h r.wf (by rw [← r.len]; exact rv.lt) with e | ⟨e, ft⟩
    · rw [e] at q; exact q.elim
    · exact body_ok r.len ft q fun _ _ _ _ e _ => hx _ _ _ _ e
theorem selfF_ex {n m : Nat} {B : Sm} (ws : List W) (h : Mem) (w : W) (m' : Mem) : selfF n m B ws h ≠ .ex w m' := by
  unfold selfF
  split
  · split
    · split <;> simp
    · simp
  · simp
theorem selfF_told {n m : Nat} {B : Sm} : Told n m B (selfF n m B) := fun ws h wf lt => by
  unfold selfF
  split
  · rename_i hl
    cases e : runB m B ws h with
    | ok w h' =>
      dsimp only
      split
      · rename_i hk
        exact .inr ⟨hl, fits_ok hk⟩
      · exact .inl rfl
    | ex w h' => exact .inl rfl
    | no => exact .inl rfl
  · exact .inl rfl
end
end M

set_option Elab.async false
set_option linter.all false
set_option maxRecDepth 100000
set_option maxHeartbeats 1000000
namespace M
open PySem PySem.Spec PyProof.Rows L2
/-! ## MP: comprehensions that make things; items set; dicts shown and read -/
section
variable {X : Cx} {Z : Zc} {f g k : Ex} {fa : Exs} {fi : Ei} {osc : Scope} {N own fr : List Str} {ix : List Nat} {scope : Scope} {tg iter elt : Expr} {ifs : List Expr} {pos : Pos} {e c : Expr}
end
/-! items set -/
section
variable {X : Cx} {Z : Zc} {f g k : Ex} {o i v : Expr} {pos pos' : Pos}
end
/-! dicts shown -/
def xPairs : List (Ex × Ex) → Sg → Mem → Option (List (W × W) × Mem)
  | [], _, h => some ([], h)
  | (k, v) :: r, ρ, h => match k ρ h with
    | .ok a h1 => (match v ρ h1 with
      | .ok b h2 => (match xPairs r ρ h2 with
        | some (ps, h3) => some ((a, b) :: ps, h3)
        | none => none)
      | _ => none)
    | _ => none
def keysW : List (W × W) → Option (List (Key × W))
  | [] => some []
  | (k, w) :: r => match keyW k, keysW r with
    | some a, some l => some ((a, w) :: l)
    | _, _ => none
def ndK (l : List Key) : Bool := decide l.Nodup
def xDisp (gs : List (Ex × Ex)) : Ex := fun ρ h => match xPairs gs ρ (h ++ [.dic []]) with
  | some (ps, h2) => (match keysW ps, h2[h.length]? with
    | some kvs, some (.dic []) => bif (decide (kvs.length ≤ 15) && ndK (kvs.map (·.1))) then .ok (.ref h.length) (h2.set h.length (.dic kvs)) else .no
    | _, _ => .no)
  | none => .no
structure QP (X : Cx) (Z : Zc) (pos : Pos) (keys : List (Option Expr)) (values : List Expr) (gs : List (Ex × Ex)) : Prop where
  pp : PPs X pos keys values (gs.map fun p => (tH Z p.1, tH Z p.2))
abbrev R2W (T : CTb) (φ : List Addr) (H : Hp) : List (W × W) → List (V × V) → Prop := Paired fun p q => RW T φ H p.1 q.1 ∧ RW T φ H p.2 q.2
section
variable {X : Cx} {Z : Zc} {f g : Ex} {k v : Expr} {pos : Pos} {keys : List (Option Expr)} {values : List Expr} {gs : List (Ex × Ex)}
theorem qp_nil : QP X Z pos [] [] [] := ⟨pps_nil⟩
theorem qp_cons (hk : QE X Z k f) (hv : QE X Z v g) (hr : QP X Z pos keys values gs) : QP X Z pos (some k :: keys) (v :: values) ((f, g) :: gs) := ⟨pps_cons hk.pe hv.pe hr.pp⟩
theorem pairs_ok {σ : St} {ρ : Sg} : ∀ {gs : List (Ex × Ex)} {φ : List Addr} {H : Hp} {h h' : Mem} {ps : List (W × W)} {Q : List (V × V) → Hp → Prop}, Here Z σ H φ h ρ → xPairs gs ρ h = some (ps, h') →
    (∀ φ' H' vs, Step φ H φ' H' → RH Z.T φ' h' H' → R2W Z.T φ' H' ps vs → Q vs H') → tPairs (gs.map fun p => (tH Z p.1, tH Z p.2)) σ H Q
  | [], φ, H, h, h', ps, Q, x, e, k => by
    cases e
    exact k φ H [] (Step.refl _ _) x.rh .nil
  | (f, g) :: gs, φ, H, h, h', ps, Q, x, e, k => by
    unfold xPairs at e
    refine ⟨φ, h, ρ, x, ?_⟩
    show (f ρ h).post _ _
    cases e1 : f ρ h with
    | no => rw [e1] at e; cases e
    | ex w h1 => rw [e1] at e; cases e
    | ok a h1 =>
      rw [e1] at e
      dsimp only at e
      intro φ1 H1 va s1 r1 ra
      refine ⟨φ1, h1, ρ, x.step s1 r1, ?_⟩
      show (g ρ h1).post _ _
      cases e2 : g ρ h1 with
      | no => rw [e2] at e; cases e
      | ex w h2 => rw [e2] at e; cases e
      | ok b h2 =>
        rw [e2] at e
        dsimp only at e
        intro φ2 H2 vb s2 r2 rb
        cases e3 : xPairs gs ρ h2 with
        | none => rw [e3] at e; cases e
        | some pr =>
          obtain ⟨ps', h3⟩ := pr
          rw [e3] at e
          cases e
          exact pairs_ok ((x.step s1 r1).step s2 r2) e3 fun φ3 H3 vs s3 r3 rr => k φ3 H3 _ (s1.trans (s2.trans s3)) r3 (.cons ⟨ra.step (s2.trans s3), rb.step s3⟩ rr)
theorem keysW_ok {T : CTb} {φ : List Addr} {H : Hp} : ∀ {ps : List (W × W)} {kvs : List (Key × W)} {vs : List (V × V)}, keysW ps = some kvs → R2W T φ H ps vs → ∃ kv : List (Key × V), vs = kv.map (fun p => (kV p.1, p.2)) ∧ RP T φ H kvs kv
  | [], kvs, vs, e, r => by
    cases e
    cases r
    exact ⟨[], rfl, .nil⟩
  | (a, b) :: ps, kvs, vs, e, r => by
    cases r with
    | cons p q =>
      rename_i z l
      obtain ⟨u, w⟩ := z
      unfold keysW at e
      cases e1 : keyW a with
      | none => rw [e1] at e; cases e
      | some k =>
        cases e2 : keysW ps with
        | none => rw [e1, e2] at e; cases e
        | some l' =>
          rw [e1, e2] at e
          cases e
          obtain ⟨kv, rfl, rr⟩ := keysW_ok e2 q
          refine ⟨(k, w) :: kv, ?_, .cons ⟨rfl, p.2⟩ rr⟩
          rw [List.map_cons]
          have := keyW_ok p.1 e1
          dsimp only at this
          rw [this]
theorem mergeK_nd : ∀ (more kvs : List (Key × V)), ((kvs ++ more).map (·.1)).Nodup → mergeK kvs more = kvs ++ more
  | [], kvs, h => by simp [mergeK]
  | p :: r, kvs, h => by
    have e : putK kvs p.1 p.2 = kvs ++ [p] := by
      unfold putK
      rw [if_neg]
      intro z
      rw [List.any_eq_true] at z
      obtain ⟨q, m, z⟩ := z
      have z := of_decide_eq_true z
      rw [List.map_append, List.nodup_append] at h
      exact h.2.2 q.1 (List.mem_map.mpr ⟨q, m, rfl⟩) p.1 (by simp) z
    show mergeK (putK kvs p.1 p.2) r = _
    rw [e, mergeK_nd r (kvs ++ [p]) (by simpa using h)]
    simp
theorem rp_keys {T : CTb} {φ : List Addr} {H : Hp} {κ : Type} : ∀ {a : List (κ × W)} {b : List (κ × V)}, RP T φ H a b → a.map (·.1) = b.map (·.1)
  | [], b, r => by cases r; rfl
  | p :: a, b, r => by
    cases r with
    | cons h q => rw [List.map_cons, List.map_cons, h.1, rp_keys q]
theorem q_disp (h : QP X Z pos keys values gs) (hall : keys.all (·.isSome) = true := by rfl) (hl : keys.length = values.length := by rfl) (h0 : keys ≠ [] := by simp) (h15 : keys.length ≤ 15 := by decide) : QE X Z (.Dict keys values pos) (xDisp gs) :=
  ⟨(pe_disp h.pp hall hl h0 h15).imp fun σ H Q ⟨φ, m, ρ, x, q⟩ => by
    intro p hp
    unfold xDisp at q
    cases e1 : xPairs gs ρ (m ++ [.dic []]) with
    | none => rw [e1] at q; exact q.elim
    | some pr =>
      obtain ⟨ps, h2⟩ := pr
      rw [e1] at q
      dsimp only at q
      have s0 := step_new (φ := φ) (ho := .dK []) hp
      have r0 := x.rh.new (o := .dic []) (ho := .dK []) hp ⟨[], rfl, .nil⟩
      have hn0 : (φ ++ [p])[m.length]? = some p := by rw [← x.rh.len]; simp
      refine pairs_ok (x.step s0 r0) e1 fun φ1 H1 vs s1 r1 rr => ?_
      cases e2 : keysW ps with
      | none => rw [e2] at q; exact q.elim
      | some kvs =>
        cases e3 : h2[m.length]? with
        | none => rw [e2, e3] at q; exact q.elim
        | some ob =>
          rw [e2, e3] at q
          cases ob with
          | dic l =>
            cases l with
            | cons _ _ => exact q.elim
            | nil =>
              dsimp only at q
              cases hz : (decide (kvs.length ≤ 15) && ndK (kvs.map (·.1))) with
              | false => rw [hz] at q; exact q.elim
              | true =>
                rw [hz] at q
                rw [Bool.and_eq_true] at hz
                obtain ⟨kv, rfl, rk⟩ := keysW_ok e2 rr
                have hn1 := s1.get hn0
                obtain ⟨ho, y, kv0, rfl, z⟩ := r1.obj _ _ p e3 hn1
                cases z
                have nd : ((([] : List (Key × V)) ++ kv).map (·.1)).Nodup := by rw [List.nil_append, ← rp_keys rk]; exact of_decide_eq_true hz.2
                refine ⟨y, kv, rfl, by rw [← rp_length rk]; exact of_decide_eq_true hz.1, ?_⟩
                rw [mergeK_nd kv [] nd, List.nil_append]
                have s2 := step_set (H := H1) (ho := .dK kv) (List.mem_of_getElem? hn1)
                have r2 := r1.set (o := .dic kvs) (ho := .dK kv) hn1 ⟨kv, rfl, rk⟩
                exact q φ1 _ _ (s0.trans (s1.trans s2)) r2 (by unfold RW; exact ⟨p, hn1, rfl⟩)
          | _ => exact q.elim⟩
end
/-! dicts read -/
def dgetM (h : Mem) (a b : W) : Option W := match dicts h a, keyW b with
  | some kvs, some k => getK kvs k
  | _, _ => none
section
variable {X : Cx} {Z : Zc} {f g : Ex} {o i : Expr} {pos : Pos}
theorem q_dget {j : Nat} (hr : Room j X.A) (ho : QE X Z o f) (hi : QE X Z i g) (hs : NoSl i) : QE X Z (.Subscript o i pos) (xBin dgetM f g) :=
  ⟨(pe_dget (hu_of hr) ho.pe hi.pe hs).imp fun σ H Q ⟨φ, m, ρ, x, q⟩ => two x q fun φ2 H2 h2 u v a b s y ra rb q2 => by
    obtain ⟨w, e, k⟩ := ofP q2
    unfold dgetM at e
    cases e1 : dicts h2 a with
    | none => rw [e1] at e; cases e
    | some kvs =>
      cases e2 : keyW b with
      | none => rw [e1, e2] at e; cases e
      | some kk =>
        rw [e1, e2] at e
        dsimp only at e
        obtain ⟨p, kv, rfl, hp, rp⟩ := dicts_ok y.rh ra e1
        have hk := keyW_ok rb e2
        subst hk
        have g := rp_getK rp kk
        rw [e] at g
        cases ev : valV kv kk with
        | none => rw [ev] at g; exact g.elim
        | some z =>
          rw [ev] at g
          exact ⟨p, z, rfl, by rw [← ev]; exact DGet.k hp, k φ2 H2 z (Step.refl _ _) y.rh g⟩⟩
end
end M

set_option Elab.async false
set_option linter.all false
set_option maxRecDepth 100000
set_option maxHeartbeats 1000000
namespace M
open PySem PySem.Spec PyProof.Rows L2
/-! ## MR: what the top has written of classes -/
section
variable {K : PySem.W.Frag} {C : Addr}
theorem ins_mk (pg : PySem.W.plainGet K C Str.empty = true) (hd : PySem.W.hasDictIn K C = true) (po : PySem.W.plainOver K C = true) (sa : PySem.W.findIn K (.ref C) "__setattr__" = some (some (.builtin "object.__setattr__")))
    (ha : PySem.W.findIn K (.ref C) "__class__" = some (some (.builtin "object.__class__"))) (hn : PySem.W.specialIn K (.builtin "object.__class__") "__get__" = some (some (.builtin "getset_descriptor.__get__"))) (htk : PySem.W.takesIn K (.builtin "object.__class__") = some true) (hm : PySem.W.mroIn K C (.type "object") = some true) : InsTy K C := ⟨⟨pg, hd, po, sa⟩, ha, hn, htk, hm⟩
/-- a method of instances of a class, as the text has it -/
def MthX (K : PySem.W.Frag) (C : Addr) (m qual : Str) (st : Stmt) : Prop := ∃ f fd, Meth K C m f ∧ Fun K m qual st f fd
theorem mthx {m qual : Str} {st : Stmt} {f : Addr} {oc : Value} {od an : Option Addr} {osl : Array (Option Value)} {kV doc pm cdv ct : Value} (a : PySem.W.findIn K (.ref C) m = some (some (.ref f))) (i : PySem.W.isFn K (.ref f) = true)
    (l : K.lookup f = some ⟨oc, od, .func (PySem.W.fnOf m qual (defArgs st) (defBody st) (defScope st) .none kV doc pm an cdv ct), osl⟩) (c : PySem.W.codeIn K cdv qual = true) (k : PySem.W.keepIn K (.ref f) = true) : MthX K C m qual st := ⟨f, _, ⟨a, i, k⟩, fun_mk l c k⟩
def MkX (K : PySem.W.Frag) (C : Addr) (qual : Str) (st : Stmt) : Prop := ∃ f fd, Mk K C f ∧ Fun K "__init__" qual st f fd
theorem mkx {qual : Str} {st : Stmt} {f : Addr} {oc : Value} {od an : Option Addr} {osl : Array (Option Value)} {kV doc pm cdv ct : Value} (m : PySem.W.makesIn K C = true) (kc : PySem.W.keepIn K (.ref C) = true) (a : PySem.W.findIn K (.ref C) "__init__" = some (some (.ref f))) (i : PySem.W.isFn K (.ref f) = true)
    (l : K.lookup f = some ⟨oc, od, .func (PySem.W.fnOf "__init__" qual (defArgs st) (defBody st) (defScope st) .none kV doc pm an cdv ct), osl⟩) (c : PySem.W.codeIn K cdv qual = true) (k : PySem.W.keepIn K (.ref f) = true) : MkX K C qual st := ⟨f, _, ⟨m, a, i, kc⟩, fun_mk l c k⟩
def ClX (K : PySem.W.Frag) (C : Addr) (m qual : Str) (st : Stmt) : Prop := ∃ f fd, ClsFn K C m f ∧ Fun K m qual st f fd
theorem clx {m qual : Str} {st : Stmt} {f : Addr} {mc oc : Value} {od an : Option Addr} {osl : Array (Option Value)} {kV doc pm cdv ct : Value} (g1 : PySem.W.specialIn K (.ref C) "__getattribute__" = some (some (.builtin "type.__getattribute__"))) (g0 : PySem.W.typeIn K (.ref C) = some mc) (g2 : PySem.W.readsIn K C mc = true)
    (g3 : PySem.W.findCls K (.ref C) mc m = some (.val (.ref f))) (l : K.lookup f = some ⟨oc, od, .func (PySem.W.fnOf m qual (defArgs st) (defBody st) (defScope st) .none kV doc pm an cdv ct), osl⟩) (c : PySem.W.codeIn K cdv qual = true) (k : PySem.W.keepIn K (.ref f) = true) : ClX K C m qual st := ⟨f, _, ⟨⟨mc, g1, g2, g3⟩, k⟩, fun_mk l c k⟩
end
end M

set_option Elab.async false
set_option linter.all false
set_option maxRecDepth 100000
set_option maxHeartbeats 1000000
namespace M
open PySem PySem.Spec PyProof.Rows L2
/-! ## MS: tuples of lists, tuples joined -/
section
variable {T : CTb}
def tupleM (h : Mem) : List W → Option W
  | [.tup ws] => some (.tup ws)
  | [w] => (items h w).map .tup
  | _ => none
def catTM (_ : Mem) (a b : W) : Option W := match a, b with
  | .tup (x :: xs), .tup ys => bif decide (xs.length + 1 + ys.length ≤ sizeLine) then some (.tup (x :: xs ++ ys)) else none
  | _, _ => none
end
end M

set_option Elab.async false
set_option linter.all false
set_option maxRecDepth 100000
set_option maxHeartbeats 1000000
namespace M
open PySem PySem.Spec PyProof.Rows L2
/-! ## MT: exceptions: how one lies, how it passes -/
/-- an exception's record: its class, its dict, where the last frame that it passed is noted -/
def XRec (h : Heap) (e : Addr) (cv : Value) (da T : Option Addr) : Prop := ∃ oe vs, h.get? e = some oe ∧ oe.cls = cv ∧ oe.dict = da ∧ oe.data = .fields vs ∧ match T with
  | none => vs[1]? = some Value.none
  | some t => t ≠ e ∧ vs[1]? = some (.ref t) ∧ ∃ ot ts x, h.get? t = some ot ∧ ot.data = .fields ts ∧ ts[3]? = some x
/-- what changed: at ch anything, at S the slots -/
structure Ch (S ch : List Addr) (h h' : Heap) : Prop where
  keep : ∀ b o, b ∉ S → b ∉ ch → h.get? b = some o → h'.get? b = some o
  slot : ∀ b o, b ∉ ch → h.get? b = some o → ∃ sl, h'.get? b = some { o with slots := sl }
  old : ∀ b o, h.get? b = some o → ∃ o', h'.get? b = some o'
theorem Ch.refl (S ch : List Addr) (h : Heap) : Ch S ch h h := ⟨fun _ _ _ _ e => e, fun _ o _ e => ⟨o.slots, e⟩, fun _ o e => ⟨o, e⟩⟩
theorem Ch.mono {S S' ch ch' : List Addr} {h h' : Heap} (c : Ch S ch h h') (a : ∀ b ∈ S, b ∈ S') (d : ∀ b ∈ ch, b ∈ ch') : Ch S' ch' h h' :=
  ⟨fun b o h1 h2 e => c.keep b o (fun z => h1 (a b z)) (fun z => h2 (d b z)) e, fun b o h2 e => c.slot b o (fun z => h2 (d b z)) e, c.old⟩
theorem Ch.trans {S ch : List Addr} {h h1 h2 : Heap} (a : Ch S ch h h1) (b : Ch S ch h1 h2) : Ch S ch h h2 :=
  ⟨fun x o p q e => b.keep x o p q (a.keep x o p q e), fun x o q e => by
    obtain ⟨sl, e1⟩ := a.slot x o q e
    obtain ⟨sl2, e2⟩ := b.slot x _ q e1
    exact ⟨sl2, e2⟩, fun x o e => by
    obtain ⟨o1, e1⟩ := a.old x o e
    exact b.old x o1 e1⟩
theorem dict_map (o : Obj) (f : Array Value → Array Value) : (o.mapFields f).dict = o.dict := by
  obtain ⟨c, d, dt, sl⟩ := o
  cases dt <;> rfl
section
variable {Md : Model} {A : Around} {E : Value → Shared → Prop} {s : Shared} {base : Heap} {env : Env} {outer : List Env} {L e : Addr} {cv : Value} {da : Option Addr} {Q : Unit → Shared → Prop}
theorem upd_ch {h : Heap} {t : Addr} {ot : Obj} {ts : Array Value} (ht : h.get? t = some ot) (hd : ot.data = .fields ts) (f : Array Value → Array Value) : Ch [] [t] h (h.update t (Obj.mapFields f)) := by
  have self := Heap.get?_update_self (Obj.mapFields f) ht (Obj.isFreed_of_fields (Obj.data_mapFields hd _))
  have other : ∀ b, b ≠ t → (h.update t (Obj.mapFields f)).get? b = h.get? b := fun b n => Heap.get?_update_other _ _ (Ne.symm n)
  refine ⟨fun b o _ n e => ?_, fun b o n e => ⟨o.slots, ?_⟩, fun b o e => ?_⟩
  · rw [other b (by simpa using n)]; exact e
  · rw [other b (by simpa using n)]; exact e
  · by_cases z : b = t
    · subst z; exact ⟨_, self⟩
    · exact ⟨o, by rw [other b z]; exact e⟩
/-- a new note of a frame -/
theorem entry_ok {oe : Obj} {vs : Array Value} {head : Value} {hadNext : Bool} (hfr : A.frames = some (env :: outer)) (hl : s.heap.FunFrames base (env :: outer)) (hf : env.frame = some L) (he : s.heap.get? e = some oe) (hd : oe.data = .fields vs) (hsz : 1 < vs.size)
    (k : ∀ h' T', XRec h' e oe.cls oe.dict (some T') → Ch (frs (env :: outer)) [e] s.heap h' → s.heap.objs.size ≤ T' → Q () { s with heap := h' }) :
    wpAny Md A (do let a ← frameOf env; let pl ← entryPlaceOf L hadNext; let b ← EntryCells.newEntry head a .none (rawInt L) .none pl; setField (.ref e) 1 b) Q E s := by
  have nS : e ∉ frs (env :: outer) := fun m => by
    obtain ⟨_, o, ho, hnf⟩ := hl.mem m
    rw [he] at ho
    cases ho
    exact hnf vs hd
  refine wpAny_bind (wpAny_frameOf_fun hfr hl hf fun g hg => wpAny_bind (wpAny_entryPlaceOf fun pl hpl => ?_))
  unfold EntryCells.newEntry newFields
  have e1 : g.get? e = some oe := (hg.2.1 e nS).trans he
  refine wpAny_bind (wpAny_newObj_type (wpAny_setField (Heap.get?_push_of_some (h := g) _ e1) hd hsz ?_) (hpl.sizeOk5 _ _ _ _ _))
  have e2 := Heap.get?_push_of_some (h := g) { cls := .type "traceback", dict := none, data := .fields ([head, .ref L, .none, rawInt L, .none] ++ (if pl.isEmpty then List.replicate 6 Value.none else pl)).toArray } e1
  have d3 := Obj.data_mapFields hd fun u => u.setIfInBounds 1 (Value.ref g.objs.size)
  have e3 := Heap.get?_update_self (Obj.mapFields fun u => u.setIfInBounds 1 (Value.ref g.objs.size)) e2 (Obj.isFreed_of_fields d3)
  have hne : g.objs.size ≠ e := Nat.ne_of_gt (Heap.lt_size e1)
  have oth : ∀ b, b ≠ e → ∀ tb : Obj, ((g.push tb).update e (Obj.mapFields fun u => u.setIfInBounds 1 (Value.ref g.objs.size))).get? b = (g.push tb).get? b := fun b n tb => Heap.get?_update_other _ _ (Ne.symm n)
  refine k _ g.objs.size ⟨_, _, e3, Obj.cls_mapFields _ _, dict_map _ _, d3, hne, by simp [hsz], _, _, rawInt L, (oth _ hne _).trans (Heap.get?_push_size g rfl), rfl, ?_⟩ ⟨fun b o h1 h2 q => ?_, fun b o h2 q => ?_, fun b o q => ?_⟩ (Nat.le_of_eq hg.1.symm)
  · first | (simp; done) | (rcases hpl with rfl | ⟨_, _, _, _, _, _, _, rfl⟩ <;> simp)
  · rw [oth b (by simpa using h2)]
    exact Heap.get?_push_of_some _ ((hg.2.1 b h1).trans q)
  · obtain ⟨sl, q1⟩ := hg.2.2 b o q
    exact ⟨sl, (oth b (by simpa using h2) _).trans (Heap.get?_push_of_some _ q1)⟩
  · obtain ⟨sl, q1⟩ := hg.2.2 b o q
    by_cases z : b = e
    · subst z; exact ⟨_, e3⟩
    · exact ⟨_, (oth b z _).trans (Heap.get?_push_of_some _ q1)⟩
theorem note_ok {T : Option Addr} (hfr : A.frames = some (env :: outer)) (hl : s.heap.FunFrames base (env :: outer)) (hf : env.frame = some L) (R : XRec s.heap e cv da T)
    (k : ∀ h' T', XRec h' e cv da (some T') → Ch (frs (env :: outer)) (e :: T.toList) s.heap h' → (T = some T' ∨ s.heap.objs.size ≤ T') → Q () { s with heap := h' }) : wpAny Md A (noteFrame (.ref e) env) Q E s := by
  obtain ⟨oe, vs, he, rfl, rfl, hd, hT⟩ := R
  unfold noteFrame
  simp only [hf]
  cases T with
  | none =>
    refine wpAny_bind (wpAny_field he hd hT ?_)
    rw [if_neg (by decide)]
    exact entry_ok hfr hl hf he hd (Array.getElem?_eq_some_iff.mp hT).1 fun h' T' r c n => k h' T' r c (.inr n)
  | some t =>
    obtain ⟨hte, h1, ot, ts, x, ht, hdt, h3⟩ := hT
    refine wpAny_bind (wpAny_field he hd h1 ?_)
    rw [if_pos (by simp)]
    refine wpAny_bind (wpAny_field ht hdt h3 ?_)
    by_cases hx : (x == rawInt L) = true
    · rw [if_pos hx]
      obtain ⟨hh, gg, dd, tk, os⟩ := s
      exact wpAny_pure (k hh t ⟨oe, vs, he, rfl, rfl, hd, hte, h1, ot, ts, x, ht, hdt, h3⟩ (Ch.refl _ _ _) (.inl rfl))
    · rw [if_neg hx]
      refine wpAny_bind (wpAny_setField ht hdt (Array.getElem?_eq_some_iff.mp h3).1 ?_)
      have c1 := upd_ch ht hdt fun u => u.setIfInBounds 3 Value.none
      have oth : ∀ b, b ≠ t → (s.heap.update t (Obj.mapFields fun u => u.setIfInBounds 3 Value.none)).get? b = s.heap.get? b := fun b n => Heap.get?_update_other _ _ (Ne.symm n)
      have hl2 : (s.heap.update t (Obj.mapFields fun u => u.setIfInBounds 3 Value.none)).FunFrames base (env :: outer) := hl.of_keeps fun b o hb hnf => ⟨o, (oth b fun z => by subst z; rw [ht] at hb; cases hb; exact hnf ts hdt).trans hb, rfl⟩
      refine entry_ok (s := { s with heap := s.heap.update t (Obj.mapFields fun u => u.setIfInBounds 3 Value.none) }) hfr hl2 hf ((oth e (Ne.symm hte)).trans he) hd (Array.getElem?_eq_some_iff.mp h1).1 fun h' T' r c n => ?_
      refine k h' T' r ((c1.mono (fun b z => by cases z) fun b z => by simp at z; subst z; simp).trans (c.mono (fun b z => z) fun b z => by simp at z; subst z; simp)) (.inr ?_)
      rw [← Heap.size_after_update s.heap t (Obj.mapFields fun u => u.setIfInBounds 3 Value.none)]
      exact n
theorem flight_ok {T : Addr} (R : XRec s.heap e cv da (some T)) (k : ∀ h', XRec h' e cv da (some T) → Ch [] [T] s.heap h' → Q () { s with heap := h' }) : wpAny Md A (setFlight (.ref e) none) Q E s := by
  obtain ⟨oe, vs, he, rfl, rfl, hd, hte, h1, ot, ts, x, ht, hdt, h3⟩ := R
  have hsz := (Array.getElem?_eq_some_iff.mp h3).1
  have d2 := Obj.data_mapFields hdt fun u => u.setIfInBounds 3 Value.none
  refine wpAny_setFlight_none he hd h1 ht hdt hsz (k _ ⟨oe, vs, ?_, rfl, rfl, hd, hte, h1, _, _, Value.none, Heap.get?_update_self _ ht (Obj.isFreed_of_fields d2), d2, by simp [hsz]⟩ (upd_ch ht hdt _))
  exact (Heap.get?_update_other _ _ hte).trans he
end
end M

set_option Elab.async false
set_option linter.all false
set_option maxRecDepth 100000
set_option maxHeartbeats 1000000
namespace M
open PySem PySem.Spec PyProof.Rows L2
/-! ## MU: an exception leaves a def, reaches a caller -/
/-- a record of ours: nobody knew it at the entry -/
def Outs (X : Cx) (pins : List (Addr × Obj)) (b : Addr) : Prop := (X.s₀.heap.get? b = none ∨ b ∈ X.ex) ∧ b ≠ X.env.locals ∧ (∀ x c, X.env.cells.lookup x = some c → c ≠ b) ∧ ∀ p ∈ X.pn ++ pins, p.1 ≠ b
section
variable {X : Cx} {pins : List (Addr × Obj)} {σ : St} {H : Hp} {s : Shared} {h' : Heap} {ch : List Addr}
theorem hok_there {P : Program} {w : World} {hp : Heap} {a : Addr} {o : HO} (x : HOk P w H hp) (e : H a = some o) : ∃ ob, hp.get? a = some ob := by
  have go : ∀ (o : HO), ObjOk P w H hp a o → ∃ ob, hp.get? a = some ob := by
    intro o
    induction o with
    | lst xs => intro x; obtain ⟨_, _, _, _, q⟩ := x; exact ⟨_, q⟩
    | tup xs => intro x; obtain ⟨_, _, _, p⟩ := x; obtain ⟨o, q, _⟩ := p; exact ⟨_, q⟩
    | dK kvs => intro x; obtain ⟨_, _, _, _, p⟩ := x; obtain ⟨o, es, ep, q, _⟩ := p; exact ⟨_, q⟩
    | dT kvs => intro x; obtain ⟨_, _, _, _, o, _, _, q, _⟩ := x; exact ⟨_, q⟩
    | set S n => intro x; obtain ⟨o, _, _, _, q, _⟩ := x; exact ⟨_, q⟩
    | ins C dx fs => intro x; obtain ⟨_, _, _, q, _⟩ := x; exact ⟨_, q⟩
    | own y => intro x; exact x
    | xd fs => intro x; obtain ⟨_, ⟨_, _, _, q, _⟩, _⟩ := x; exact ⟨_, q⟩
    | rng lo hi => intro x; obtain ⟨_, _, _, q⟩ := x; exact ⟨_, q⟩
    | frz ob u _ => intro x; exact ⟨_, x.1⟩
    | tbl ps => intro x; exact ⟨_, x⟩
    | met f y => intro x; exact ⟨_, x⟩
    | ext φ => intro x; exact x.2.1
  exact go o (x a o e)
theorem untracked {P : Program} {w : World} {hp : Heap} {a : Addr} (x : HOk P w H hp) (n : hp.get? a = none) : H a = none := by
  cases q : H a with
  | none => rfl
  | some o => obtain ⟨ob, e⟩ := hok_there x q; rw [n] at e; cases e
theorem outs_new {b : Addr} (I : Inv X pins σ H s) (n : s.heap.get? b = none) : Outs X pins b := by
  refine ⟨?_, fun z => ?_, fun x c e z => ?_, fun p hp z => ?_⟩
  · by_cases hx : b ∈ X.ex
    · exact .inr hx
    · cases q : X.s₀.heap.get? b with
      | none => exact .inl rfl
      | some o => obtain ⟨o', e⟩ := I.base.there b o q hx; rw [n] at e; cases e
  · obtain ⟨m, ⟨o, _, _, ho, _⟩, _⟩ := I.loc
    subst z; rw [n] at ho; cases ho
  · obtain ⟨v, o, ho, _⟩ := I.cell x c e
    subst z; rw [n] at ho; cases ho
  · have := (I.pin p hp).1
    rw [z, n] at this; cases this
theorem chg (I : Inv X pins σ H s) (c : Ch (frs X.stack) ch s.heap h') (hc : ∀ b ∈ ch, H b = none ∧ Outs X pins b) : Inv X pins σ H { s with heap := h' } := by
  have nS : ∀ b, b ≠ X.env.locals → b ∉ X.fs → b ∉ frs X.stack := fun b h1 h2 z => (List.mem_cons.mp (I.stkSub b z)).elim h1 h2
  have n0 : ∀ b o, X.s₀.heap.get? b = some o → b ∉ X.ex → b ∉ ch := fun b o e hx z => by
    rcases (hc b z).2.1 with q | q
    · rw [e] at q; cases q
    · exact hx q
  have cellK : ∀ x c', X.env.cells.lookup x = some c' → ∀ v, s.heap.IsCell c' v → h'.IsCell c' v := fun x c' e v ⟨o, ho, hd⟩ => by
    obtain ⟨sl, q⟩ := c.slot c' o (fun z => (hc c' z).2.2.2.1 x c' e rfl) ho
    exact ⟨_, q, hd⟩
  refine ⟨I.ok, I.os, I.bare, ⟨fun b o e n hb hx => ?_, fun b o e n hb hx => ?_, I.base.free, fun b o e hx => ?_, I.base.tups, I.base.frzs, I.base.tbls⟩, ?_, fun x c' e => ?_, I.free, I.freeC, fun p hp => ?_, fun b u e => ?_, I.len⟩
  · exact c.keep b o (nS b (Nat.ne_of_lt (Nat.lt_of_lt_of_le (Heap.lt_size e) I.ok.above)) hb) (n0 b o e hx) (I.base.keep b o e n hb hx)
  · obtain ⟨sl, e1⟩ := I.base.slot b o e n hb hx
    obtain ⟨sl2, e2⟩ := c.slot b _ (n0 b o e hx) e1
    exact ⟨sl2, e2⟩
  · obtain ⟨o1, e1⟩ := I.base.there b o e hx
    exact c.old b o1 e1
  · obtain ⟨m, ⟨o, es, ep, ho, r⟩, hl⟩ := I.loc
    obtain ⟨sl, q⟩ := c.slot X.env.locals o (fun z => (hc _ z).2.2.1 rfl) ho
    refine ⟨m, ⟨_, es, ep, q, r⟩, fun i x v e1 e2 e3 => ?_⟩
    obtain ⟨u, rv, l⟩ := hl i x v e1 e2 e3
    refine ⟨u, rv, ?_⟩
    rcases l with l | ⟨k, c', e, z⟩
    · exact .inl l
    · exact .inr ⟨k, c', e, cellK x c' e _ z⟩
  · obtain ⟨v, z⟩ := I.cell x c' e
    exact ⟨v, cellK x c' e v z⟩
  · obtain ⟨e, n, ne, nf, d⟩ := I.pin p hp
    exact ⟨c.keep p.1 p.2 (nS _ ne nf) (fun z => (hc _ z).2.2.2.2 p hp rfl) e, n, ne, nf, d⟩
  · refine (I.hok b u e).stay (fun c' v hb q => ?_) (fun _ q => q) fun _ _ q => q
    have tr : H c' ≠ none := by
      rcases hb with rfl | hb
      · rw [e]; simp
      · rw [hb]; simp
    exact c.keep c' v (fun z => tr (I.stkFree c' z)) (fun z => tr (hc c' z).1) q
end
/-- an exception on its way through the frame of X -/
structure XIs (X : Cx) (pins : List (Addr × Obj)) (σ : St) (H : Hp) (s : Shared) (e : Addr) (cv : Value) (da T : Option Addr) : Prop where
  inv : Inv X pins σ H s
  rc : XRec s.heap e cv da T
  own : ∀ b ∈ e :: T.toList, H b = none ∧ Outs X pins b
def XLies (X : Cx) (Z : Zc) (v : Value) (s : Shared) : Prop := ∃ pins σ H e cv da T φ h w, v = .ref e ∧ XIs X pins σ H s e cv da T ∧ Z.sg σ ∧ Step Z.φ Z.H φ H ∧ RH Z.T φ h H ∧ RX Z.T φ H w cv da ∧ Z.xw w h
/-- what is wanted of an exception, in the machine's words, is what the body wants -/
def XOk (X : Cx) (Z : Zc) : Prop := ∀ v s, XLies X Z v s → X.xe v s
theorem xok_no {X : Cx} {Z : Zc} (h : ∀ w m, ¬ Z.xw w m) : XOk X Z := fun _ _ ⟨_, _, _, _, _, _, _, _, _, _, _, _, _, _, _, _, x⟩ => absurd x (h _ _)
/-- how an exception lies behind a call -/
def CXe (q : Bool) (P : Program) (w : World) : CXT := ⟨fun outer H s E v s' => ∃ e cv da T H', v = .ref e ∧ s'.os = s.os ∧ AllBare s'.gens ∧ Un (frs outer) [] H H' s.heap s'.heap ∧ HOk P w H' s'.heap ∧ XRec s'.heap e cv da (some T) ∧
  (H' e = none ∧ s.heap.get? e = none) ∧ (H' T = none ∧ s.heap.get? T = none) ∧ E cv da H', q⟩
/-- the machine's place in a def that may raise -/
def Zx (T : CTb) (φ : List Addr) (H : Hp) (E : XK) : Zc := ⟨T, φ, H, fun _ => True, fun w h' => ∀ φ' H' cv da, Step φ H φ' H' → RH T φ' h' H' → RX T φ' H' w cv da → E cv da H'⟩
section
variable {P : Program} {w : World} {K : PySem.W.Frag} {mg : Str → Option Value} {base : Heap} {T : CTb}
theorem xok_def {q : Bool} {N : List Str} {qual : Str} {scope : Scope} {f : Addr} {cd : Value} {A : Around} {outer : List Env} {s : Shared} {H : Hp} {E : XK} {φ : List Addr} :
    XOk (cxOf (CXe q P w) P w K mg base N qual scope f cd A outer s H E) (Zx T φ H E) := by
  rintro v s' ⟨pins, σ, H', e, cv, da, T1, φ', h', w', rfl, ⟨I, R, own⟩, _, st, rh, rx, xw⟩
  show wpAny _ _ (leaving (envOfC qual scope s.heap.objs.size f cd) (.ref e)) _ _ s'
  unfold leaving
  refine wpAny_bind (note_ok (base := base) I.ok.frames I.stack rfl R fun g T2 r c n => ?_)
  have I1 := chg I c own
  have own1 : ∀ b ∈ [e, T2], H' b = none ∧ Outs (cxOf (CXe q P w) P w K mg base N qual scope f cd A outer s H E) pins b := fun b hb => by
    rcases List.mem_cons.mp hb with rfl | hb
    · exact own b List.mem_cons_self
    · have hb : b = T2 := by simpa using hb
      subst hb
      rcases n with n | n
      · exact own b (by rw [n]; simp)
      · exact ⟨I.hok.fresh n, outs_new I (Heap.get?_none_of_le n)⟩
  refine flight_ok r fun g2 r2 c2 => ?_
  have I2 := chg I1 (c2.mono (fun b z => by cases z) fun b z => z) fun b hb => own1 b (List.mem_cons_of_mem _ hb)
  have new : ∀ b, Outs (cxOf (CXe q P w) P w K mg base N qual scope f cd A outer s H E) pins b → s.heap.get? b = none := fun b o => by
    rcases o.1 with z | z
    · exact z
    · cases z
  have o1 := own1 e (by simp)
  have o2 := own1 T2 (by simp)
  exact ⟨e, cv, da, T2, H', rfl, I2.os, I2.bare, I2.base, I2.hok, r2, ⟨o1.1, new _ o1.2⟩, ⟨o2.1, new _ o2.2⟩, xw φ' H' cv da st rh rx⟩
theorem body_okX {φ : List Addr} {H : Hp} {h : Mem} {o : Out} {r : Res} {Q : VK} {E : XK} (hl : φ.length = h.length) (ft : Fits h.length r o.res) (q : r.post (Kv T φ H Q) (fun w h' => ∀ φ' H' cv da, Step φ H φ' H' → RH T φ' h' H' → RX T φ' H' w cv da → E cv da H')) :
    o.post (Zx T φ H E) φ H { nx := fun _ H' => Q .non H', rt := Q } := by
  cases r with
  | no => exact q.elim
  | ex w m =>
    cases o with
    | ex w' m' =>
      intro φ' H' cv da s r x
      obtain ⟨φ1, p1, l1, r1, x1⟩ := ft T φ' H' cv da r x
      exact q φ1 H' cv da (step_fits s p1 (by rw [hl]; exact l1)) r1 x1
    | _ => exact ft.elim
  | ok w m =>
    cases o with
    | rt w' m' =>
      intro φ' H' v s r x
      obtain ⟨φ1, p1, l1, r1, x1⟩ := ft T φ' H' v r x
      exact q φ1 H' v (step_fits s p1 (by rw [hl]; exact l1)) r1 x1
    | nx ρ' m' =>
      intro φ' H' σ' s r rs _
      obtain ⟨φ1, p1, l1, r1, x1⟩ := ft T φ' H' .non r (by unfold RW; rfl)
      exact q φ1 H' .non (step_fits s p1 (by rw [hl]; exact l1)) r1 x1
    | _ => exact ft.elim
/-- a def (or a method) that may raise -/
theorem funX {qc : Bool} {x qual : Str} {st : Stmt} {N ps : List Str} {k : Nat} {F : Fm} {f : Addr} {fd : FuncData} {B : Sm} (R : Fun K x qual st f fd) (S : FnScope N ps (defScope st))
    (hB : ∀ (cdv : Value) (A : Around) (outer : List Env) (s : Shared) (H : Hp) (E : XK) (φ0 : List Addr), Room k (A.deeper (envOfC qual (defScope st) s.heap.objs.size f cdv)) →
      XOk (cxOf (CXe qc P w) P w K mg base N qual (defScope st) f cdv A outer s H E) (Zx T φ0 H E) → QB (cxOf (CXe qc P w) P w K mg base N qual (defScope st) f cdv A outer s H E) (Zx T φ0 H E) (defBody st) B)
    (hF : Told ps.length N.length B F) : FnOk P w K mg base (CXe qc P w) (k + 1) f fd ps (spH T F) := by
  obtain ⟨oc, od, kV, doc, pm, an, cdv, ct, osl, rfl, lk, hcd⟩ := R.ex
  refine fn_of lk hcd S (fun vs H Q E h => ?_) fun A outer s H vs Q E hr h => ?_
  · obtain ⟨φ, h, ws, r, rv, q⟩ := h
    rcases hF ws h r.wf (by rw [← r.len]; exact rv.lt) with e | ⟨e, _⟩
    · rw [e] at q; exact q.elim
    · rw [← rv.length]; exact e
  · obtain ⟨φ, h, ws, r, rv, q⟩ := h
    refine ⟨_, (hB cdv A outer s H E φ hr xok_def).ps, φ, h, startW N.length ws, ⟨trivial, Step.refl _ _, r, rs_start rv⟩, ?_⟩
    rcases hF ws h r.wf (by rw [← r.len]; exact rv.lt) with e | ⟨e, ft⟩
    · rw [e] at q; exact q.elim
    · exact body_okX r.len ft q
theorem defX {qc : Bool} {x : Str} {st : Stmt} {N ps : List Str} {k : Nat} {F : Fm} {B : Sm} (R : DefAt K mg x st) (S : FnScope N ps (defScope st)) (hb : BindsAll x x st ps)
    (hB : ∀ (f : Addr) (cdv : Value) (A : Around) (outer : List Env) (s : Shared) (H : Hp) (E : XK) (φ0 : List Addr), Room k (A.deeper (envOfC x (defScope st) s.heap.objs.size f cdv)) →
      XOk (cxOf (CXe qc P w) P w K mg base N x (defScope st) f cdv A outer s H E) (Zx T φ0 H E) → QB (cxOf (CXe qc P w) P w K mg base N x (defScope st) f cdv A outer s H E) (Zx T φ0 H E) (defBody st) B)
    (hF : Told ps.length N.length B F) : FnAt P w K mg base (CXe qc P w) (k + 1) x (spH T F) := by
  obtain ⟨f, fd, R, hm⟩ := R
  exact ⟨f, fd, ps, funX R S (hB f) hF, hm, R.kp, R.binds hb⟩
/-- where nothing is raised, a def is one without exceptions -/
theorem FnOk.calm {k : Nat} {f : Addr} {fd : FuncData} {ps : List Str} {F : Fm} {qc : Bool} (G : FnOk P w K mg base (CXe qc P w) k f fd ps (spH T F)) (hx : ∀ ws h w m, F ws h ≠ .ex w m) : FnOk P w K mg base CX0 k f fd ps (spH T F) := by
  have nx : ∀ vs H Q E, spH T F vs H Q E → spH T F vs H Q E0 := by
    rintro vs H Q E ⟨φ, h, ws, r, rv, q⟩
    refine ⟨φ, h, ws, r, rv, ?_⟩
    cases e : F ws h with
    | ok w m => rw [e] at q; exact q
    | ex w m => exact absurd e (hx _ _ _ _)
    | no => rw [e] at q; exact q
  refine ⟨G.len, fun A outer s H args us vs Q E hr hq he hb hv hs => ?_⟩
  refine codeAny_mono (G.run A outer s H args us vs Q E0 hr (fun _ => hq rfl) he hb hv (nx _ _ _ _ hs)) fun r s' z => ?_
  cases r with
  | ok fl =>
    cases fl with
    | ret u => exact z
    | next => exact z
    | brk => exact z
    | cont => exact z
  | error v => obtain ⟨_, _, _, _, _, _, _, _, _, _, _, _, _, z⟩ := z; exact z.elim
end
section
variable {X : Cx} {Z : Zc} {qc : Bool} {k j : Nat} {F : Fm} {fa : Exs} {fo : Ex} {x m : Str} {p pos apos : Pos} {e o : Expr} {es : List Expr}
theorem run_fnX {CX : CXT} {f : Addr} {fd : FuncData} {ps : List Str} {sp : Sp} {E : XK} {pins : List (Addr × Obj)} {σ : St} {H : Hp} {s : Shared} {Q : VK} {us : List Value} {vs : List V} (Fk : FnOk X.prog X.w X.K X.mg X.base CX k f fd ps sp) (hr : Room k X.A) (hq : CX.q = true → X.calm = true) (hb : Binds X.K fd ps [])
    (I : Inv X pins σ H s) (r : Vals vs us) (h : sp vs H Q E) (hx : ∀ v s', CX X.stack H s E v s' → X.xe v s') : wpAny (model X.prog X.w) X.A (call (.ref f) us) (EP X pins σ Q) X.xe s := by
  have hl : us.length = ps.length := by rw [← r.length]; exact Fk.len _ _ _ _ h
  have hb2 := hb s us I.kIn (by rw [List.append_nil]; exact hl)
  rw [List.append_nil] at hb2
  refine wpAny_call (codeAny_mono (Fk.run X.A X.stack s H ⟨us, []⟩ us vs Q E hr (fun z => I.ok.hd (hq z)) I.env0 hb2 r h) fun r s' q => ?_)
  cases r with
  | error v => exact hx v s' q
  | ok fl =>
    cases fl with
    | ret u => exact I.after q
    | next => exact False.elim q
    | brk => exact False.elim q
    | cont => exact False.elim q
/-- the callee's end, in the machine's words -/
theorem run_mX {f : Addr} {fd : FuncData} {ps : List Str} {pins : List (Addr × Obj)} {σ : St} {H : Hp} {s : Shared} {Q : VK} {us : List Value} {vs : List V} {φ : List Addr} {h : Mem} {ws : List W} (Fk : FnOk X.prog X.w X.K X.mg X.base (CXe qc X.prog X.w) k f fd ps (spH Z.T F)) (hx : XOk X Z) (hr : Room k X.A) (hq : qc = true → X.calm = true)
    (hb : Binds X.K fd ps []) (I : Inv X pins σ H s) (r : Vals vs us) (sg : Z.sg σ) (st : Step Z.φ Z.H φ H) (rh : RH Z.T φ h H) (rw : RWs Z.T φ H ws vs) (q : (F ws h).post (Kv Z.T φ H Q) Z.xw) : wpAny (model X.prog X.w) X.A (call (.ref f) us) (EP X pins σ Q) X.xe s := by
  refine run_fnX (E := fun cv da H' => ∃ φ' h' w, Step φ H φ' H' ∧ RH Z.T φ' h' H' ∧ RX Z.T φ' H' w cv da ∧ Z.xw w h') Fk hr hq hb I r ⟨φ, h, ws, rh, rw, ?_⟩ ?_
  · cases e : F ws h with
    | ok w m => rw [e] at q; exact q
    | no => rw [e] at q; exact q
    | ex w m => rw [e] at q; exact fun φ' H' cv da s r x => ⟨φ', m, w, s, r, x, q⟩
  · rintro v s' ⟨e, cv, da, T, H', rfl, os, bare, un, hok, R, ⟨h1, h2⟩, ⟨h3, h4⟩, φ', h', w, st', rh', rx, xw⟩
    refine hx _ _ ⟨pins, σ, H', e, cv, da, some T, φ', h', w, rfl, ⟨I.call' os un hok bare (fun b z => by cases z), R, fun b hb => ?_⟩, sg, st.trans st', rh', rx, xw⟩
    rcases List.mem_cons.mp hb with rfl | hb
    · exact ⟨h1, outs_new I h2⟩
    · have hb : b = T := by simpa using hb
      subst hb
      exact ⟨h3, outs_new I h4⟩
def xCallX (F : Fm) (f : Exs) : Ex := fun ρ h => match f ρ h with
  | .ok ws h1 => F ws h1
  | .ex w h1 => .ex w h1
  | .no => .no
theorem args_X {Q : VK} {pins : List (Addr × Obj)} {s : Shared} {σ : St} {H : Hp} (ha : QA X Z es fa) (I : Inv X pins σ H s) {φ : List Addr} {h : Mem} {ρ : Sg} (x : Here Z σ H φ h ρ) (q : (xCallX F fa ρ h).post (Kv Z.T φ H Q) Z.xw) :
    wpAny (model X.prog X.w) X.A (spliced (backTo pos (starEach es X.env))) (AP X pins σ fun vs H1 => ∃ φ1 h1 ws, Step φ H φ1 H1 ∧ Here Z σ H1 φ1 h1 ρ ∧ RWs Z.T φ1 H1 ws vs ∧ (F ws h1).post (Kv Z.T φ1 H1 Q) Z.xw) X.xe s := by
  refine ha.pa pos pins s σ H _ I ⟨φ, h, ρ, x, ?_⟩
  unfold xCallX at q
  cases e : fa ρ h with
  | no => rw [e] at q; exact q.elim
  | ex w h' => rw [e] at q; exact q
  | ok ws h1 =>
    rw [e] at q
    intro φ1 H1 vs s1 r1 rw1
    refine ⟨φ1, h1, ws, s1, x.step s1 r1, rw1, ?_⟩
    exact q.mono fun w m k => k.step s1
theorem q_fnX (G : FnAt X.prog X.w X.K X.mg X.base (CXe qc X.prog X.w) k x (spH Z.T F)) (hx : XOk X Z) (hr : Room j X.A) (hkj : k ≤ j) (hg : Gl X x) (ha : QA X Z (e :: es) fa) (hdb : (x == ("__debug__" : Str)) = false := by decide)
    (he : starEach (e :: es) X.env = (false, eval e X.env) :: starEach es X.env := by rfl) (hpl : (backTo pos (starEach es X.env)).any (·.1) = false := by rfl) (hq : qc = true → X.calm = true := by first | exact fun _ => rfl | (intro h; cases h)) : QE X Z (.Call (.Name x p) (e :: es) [] pos) (xCallX F fa) := by
  obtain ⟨f, fd, ps, Fk, hm, kp, hb⟩ := G
  refine ⟨fun pins s σ H Q I ⟨φ, h, ρ, x0, q⟩ => ?_⟩
  refine wpAny_Call_Name_kw (ld_glob I hg hm ?_ hdb)
  refine PySem.W.callWith_K (h₀ := X.base) I.ok.mod.kin kp (thn (args_X (F := F) ha I x0 q) fun us s1 ⟨vs, H1, I1, r, φ1, h1, ws, _, x1, rw1, q1⟩ => ⟨I1.kIn, ?_⟩) he hpl
  exact run_mX Fk hx (hr.mono hkj) hq hb I1 r x1.sg x1.st x1.rh rw1 q1
/-! methods -/
def MtX (P : Program) (w : World) (K : PySem.W.Frag) (mg : Str → Option Value) (base : Heap) (T : CTb) (qc : Bool) (k : Nat) (c m : Str) (F : Fm) : Prop :=
  ∃ C f fd ps, T c = some C ∧ Meth K C m f ∧ FnOk P w K mg base (CXe qc P w) k f fd ps (spH T F) ∧ Binds K fd ps []
def TabX (P : Program) (w : World) (K : PySem.W.Frag) (mg : Str → Option Value) (base : Heap) (T : CTb) (qc : Bool) (k : Nat) (m : Str) (tab : Tab) : Prop := ∀ c F, tab c = some F → MtX P w K mg base T qc k c m F
def xMethX (m : Str) (tab : Tab) (f : Ex) (g : Exs) : Ex := fun ρ h => (f ρ h).bind fun a h1 => match a with
  | .ref n => (match h1[n]? with
    | some (.ins c fs) => (match tab c, fs.lookup m with
      | some F, none => xCallX (fun ws => F (.ref n :: ws)) g ρ h1
      | _, _ => .no)
    | _ => .no)
  | _ => .no
theorem methX_ok {m : Str} {tab : Tab} (hI : InsOk X.K Z.T) (ht : TabX X.prog X.w X.K X.mg X.base Z.T qc k m tab) {pins : List (Addr × Obj)} {s : Shared} {σ : St} {H : Hp} {Q : VK} {φ : List Addr} {h : Mem} {ρ : Sg} (ho : QE X Z o fo) (I : Inv X pins σ H s) (x : Here Z σ H φ h ρ) (q : (xMethX m tab fo fa ρ h).post (Kv Z.T φ H Q) Z.xw) :
    wpAny (model X.prog X.w) X.A (eval o X.env) (EP X pins σ fun v H1 => ∃ a C dx fs f fd ps F φ1 h1 n, v = .ref a ∧ H1 a = some (.ins C dx fs) ∧ Cls X.K C ∧ Meth X.K C m f ∧ FnOk X.prog X.w X.K X.mg X.base (CXe qc X.prog X.w) k f fd ps (spH Z.T F) ∧ Binds X.K fd ps [] ∧ fs.lookup m = none ∧
      Here Z σ H1 φ1 h1 ρ ∧ RW Z.T φ1 H1 (.ref n) v ∧ (xCallX (fun ws => F (.ref n :: ws)) fa ρ h1).post (Kv Z.T φ1 H1 Q) Z.xw) X.xe s := by
  refine ho.pe pins s σ H _ I ⟨φ, h, ρ, x, ?_⟩
  unfold xMethX at q
  rw [bindP] at q
  refine q.mono fun a h1 q1 => fun φ1 H1 u s1 r1 ra => ?_
  cases a with
  | ref n =>
    dsimp only at q1
    cases e1 : h1[n]? with
    | none => rw [e1] at q1; exact q1.elim
    | some ob =>
      rw [e1] at q1
      cases ob with
      | ins c fs =>
        dsimp only at q1
        obtain ⟨a, C, dx, fv, rfl, ea, y, hc, rp⟩ := ref_ins r1 ra e1
        cases et : tab c with
        | none => rw [et] at q1; exact q1.elim
        | some F =>
          cases el : fs.lookup m with
          | some w => rw [et, el] at q1; exact q1.elim
          | none =>
            rw [et, el] at q1
            obtain ⟨C', f', fd, ps, hc', hm, Fk, hb⟩ := ht c F et
            rw [hc] at hc'; cases hc'
            exact ⟨a, C, dx, fv, f', fd, ps, F, φ1, h1, n, rfl, y, (hI c C hc).cl, hm, Fk, hb, (rp_lookup rp).2 el, x.step s1 r1, ra, q1.mono fun w m k => k.step s1⟩
      | _ => exact q1.elim
  | _ => exact q1.elim
theorem q_methX {m : Str} {tab : Tab} {pl : Sem Bool} (hI : InsOk X.K Z.T) (ht : TabX X.prog X.w X.K X.mg X.base Z.T qc k m tab) (hx : XOk X Z) (hr : Room j X.A) (hkj : k ≤ j) (ho : QE X Z o fo) (ha : QA X Z (e :: es) fa)
    (hst : starEach (e :: es) X.env = (false, eval e X.env) :: starEach es X.env := by rfl) (hpl : (backTo pos (starEach es X.env)).any (·.1) = false := by rfl)
    (hev : eval (.Call (.Attribute o m apos) (e :: es) [] pos) X.env = (do
      let ov ← eval o X.env
      standAt apos.atName
      let (f, first) ← holding [ov] (getMethod ov m pl)
      callWith pos f first (backTo pos (starEach (e :: es) X.env)) (backToKw pos (keywordEach [] X.env))) := by rfl)
    (hq : qc = true → X.calm = true := by first | exact fun _ => rfl | (intro h; cases h)) : QE X Z (.Call (.Attribute o m apos) (e :: es) [] pos) (xMethX m tab fo fa) := by
  refine ⟨fun pins s σ H Q I ⟨φ, h, ρ, x0, q⟩ => ?_⟩
  refine PySem.W.methodCall_KW (pl := pl) (thn (methX_ok hI ht ho I x0 q) fun u s1 ⟨v, H1, I1, rx, a, C, dx, fs, f, fd, ps, F, φ1, h1, n, ex, ea, c, hm, Fk, hb, l, x1, ra, q1⟩ => ?_) hev
  subst ex
  obtain rfl : u = Value.ref a := rx
  refine getmeth_ok I1 ea c hm l ?_
  refine PySem.W.callWith_K (first := [.ref a]) (h₀ := X.base) I.ok.mod.kin hm.kp (thn (args_X (F := fun ws => F (.ref n :: ws)) ha I1 x1 q1) fun us s2 ⟨vs, H2, I2, r, φ2, h2, ws, s2', x2, rw2, q2⟩ => ⟨I2.kIn, ?_⟩) hst hpl
  exact run_mX (us := .ref a :: us) (vs := .ref a :: vs) Fk hx (hr.mono hkj) hq hb I2 (.cons rfl r) x2.sg x2.st x2.rh (by unfold RWs; exact ⟨_, _, rfl, ra.step s2', rw2⟩) q2
end
end M

set_option Elab.async false
set_option linter.all false
set_option maxRecDepth 100000
set_option maxHeartbeats 1000000
namespace M
open PySem PySem.Spec PyProof.Rows L2
/-! ## MV: raise, try -/
def bmV : List Value := [.type "ValueError", .type "Exception", .type "BaseException", .type "object"]
/-- the class at C is an exception's, as the text has it -/
def excSh (K : PySem.W.Frag) (C : Addr) (newId : String) : Bool := match K.lookup C with
  | some ⟨.type "type", _, .cls cd, sl⟩ => (match cd.mro, sl.toList with
    | .ref C' :: _, [_, _, _, _, some (.builtin n), _] => C' == C && (n == newId && !cd.hasDel)
    | _, _ => false)
  | _ => false
theorem excSh_of {K : PySem.W.Frag} {C : Addr} {newId : String} (q : excSh K C newId = true) : ∃ nm qn N bs bm hd sn sub ab col dd k0 k1 k2 k3 k5, K.lookup C = some (excClassObj nm qn C N bs bm hd sn sub ab col dd k0 k1 k2 k3 k5 newId) := by
  unfold excSh at q
  split at q
  · rename_i dd cd sl ho
    split at q
    · rename_i C' bm k0 k1 k2 k3 n k5 hm hs
      simp only [Bool.and_eq_true, beq_iff_eq, Bool.not_eq_true'] at q
      obtain ⟨rfl, rfl, hdel⟩ := q
      obtain ⟨nm, bs, mro, ns, qn, hd, sn, sub, ab, col, del⟩ := cd
      dsimp only at hm hdel
      subst hm hdel
      obtain ⟨l⟩ := sl
      dsimp only at hs
      subst hs
      exact ⟨nm, qn, ns, bs, bm, hd, sn, sub, ab, col, dd, k0, k1, k2, k3, k5, ho⟩
    · cases q
  · cases q
theorem mro_of {K : PySem.W.Frag} {C : Addr} {nm qn : Str} {N : Addr} {bs bm : List Value} {hd : Bool} {sn : List Str} {sub : List Value} {ab : Bool} {col : Option Bool} {dd : Option Addr} {k0 k1 k2 k3 k5 : Option Value} {newId : String} {v : Value} {b : Bool}
    (ho : K.lookup C = some (excClassObj nm qn C N bs bm hd sn sub ab col dd k0 k1 k2 k3 k5 newId)) (q : PySem.W.mroIn K C v = some b) : (Value.ref C :: bm).contains v = b := by
  unfold PySem.W.mroIn PySem.W.clsIn at q
  rw [ho] at q
  exact Option.some.inj q
section
variable {K : PySem.W.Frag} {h : Heap} {C : Addr} {newId : String}
end
def xRaise (c : Str) (f : Exs) : Sm := fun ρ h => match f ρ h with
  | .ok ws h1 => bif decide (ws.length ≤ sizeLine) then .ex (.exc c [] []) h1 else .no
  | .ex w h1 => .ex w h1
  | .no => .no
section
variable {X : Cx} {Z : Zc} {fa : Exs} {c : Str} {np cpos pos : Pos} {e : Expr} {es : List Expr}
end
end M

set_option Elab.async false
set_option linter.all false
set_option maxRecDepth 100000
set_option maxHeartbeats 1000000
namespace M
open PySem PySem.Spec PyProof.Rows L2
/-! ## MW: try, except .. as -/
abbrev _root_.L2.Cx.tr (X : Cx) (E : Value → Shared → Prop) (pn : List (Addr × Obj)) : Cx := { X with xe := E, pn := pn }
abbrev _root_.L2.Cx.loud (X : Cx) (e : Addr) : Cx := { X with A := X.A.mark (some (.ref e)), calm := false, xe := fun _ _ => False }
theorem _root_.L2.Room.mark {k : Nat} {A : Around} (r : Room k A) (v : Option Value) : Room k (A.mark v) := ⟨r.dp, r.un⟩
section
variable {X : Cx} {pins : List (Addr × Obj)} {σ : St} {H : Hp} {s : Shared}
theorem inv_tr (I : Inv X pins σ H s) (E : Value → Shared → Prop) : Inv (X.tr E (X.pn ++ pins)) [] σ H s :=
  ⟨⟨I.ok.mod, I.ok.kind, I.ok.glob, I.ok.blt, I.ok.above, I.ok.inj, I.ok.has, I.ok.cab, I.ok.hd, I.ok.frames, I.ok.stk, I.ok.exf, I.ok.bs, I.ok.bsz, I.ok.noex, I.ok.exfs, I.ok.funs, I.ok.frf⟩, I.os, I.bare, I.base, I.loc, I.cell, I.free, I.freeC, fun p hp => I.pin p (by simpa using hp), I.hok, I.len⟩
theorem inv_untr {E : Value → Shared → Prop} {pins1 : List (Addr × Obj)} (ok : X.Ok) (I : Inv (X.tr E (X.pn ++ pins)) pins1 σ H s) : Inv X pins σ H s :=
  ⟨ok, I.os, I.bare, I.base, I.loc, I.cell, I.free, I.freeC, fun p hp => I.pin p (List.mem_append_left _ hp), I.hok, I.len⟩
theorem inv_loud (I : Inv X pins σ H s) (e : Addr) : Inv (X.loud e) pins σ H s :=
  ⟨⟨I.ok.mod, I.ok.kind, I.ok.glob, I.ok.blt, I.ok.above, I.ok.inj, I.ok.has, I.ok.cab, fun z => (by cases z), I.ok.frames, I.ok.stk, I.ok.exf, I.ok.bs, I.ok.bsz, I.ok.noex, I.ok.exfs, I.ok.funs, I.ok.frf⟩, I.os, I.bare, I.base, I.loc, I.cell, I.free, I.freeC, I.pin, I.hok, I.len⟩
theorem inv_unloud {e : Addr} (ok : X.Ok) (I : Inv (X.loud e) pins σ H s) : Inv X pins σ H s := ⟨ok, I.os, I.bare, I.base, I.loc, I.cell, I.free, I.freeC, I.pin, I.hok, I.len⟩
/-- an untracked record of ours is tracked from here on -/
theorem track {e : Addr} {ho : HO} (I : Inv X pins σ H s) (he : H e = none) (o : Outs X pins e) (new : ObjOk X.prog X.w (upd H e ho) s.heap e ho) : Inv X pins σ (upd H e ho) s := by
  have ne : ∀ b u, H b = some u → b ≠ e := fun b u q => ne_of_none q he
  refine ⟨I.ok, I.os, I.bare, ⟨I.base.keep, I.base.slot, fun b ob q n hx => ?_, I.base.there, fun b xs q => ?_, fun b ob xs q => ?_, fun b ps q => ?_⟩, I.loc, I.cell, ?_, fun x c q => ?_, fun p hp => ?_, fun b u q => ?_, I.len⟩
  · rw [upd_ne]
    · exact I.base.free b ob q n hx
    · rintro rfl
      rcases o.1 with z | z
      · rw [z] at q; cases q
      · exact hx z
  · have := I.base.tups b xs q
    rw [upd_ne (ne _ _ this)]; exact this
  · have := I.base.frzs b ob xs q
    rw [upd_ne (ne _ _ this)]; exact this
  · obtain ⟨more, this⟩ := I.base.tbls b ps q
    exact ⟨more, by rw [upd_ne (ne _ _ this)]; exact this⟩
  · rw [upd_ne (Ne.symm o.2.1)]; exact I.free
  · rw [upd_ne (o.2.2.1 x c q)]; exact I.freeC x c q
  · obtain ⟨e1, n, ne', nf, d⟩ := I.pin p hp
    exact ⟨e1, by rw [upd_ne (o.2.2.2 p hp)]; exact n, ne', nf, d⟩
  · by_cases z : b = e
    · subst z
      rw [upd_same] at q
      cases q
      exact new
    · rw [upd_ne z] at q
      exact (I.hok b u q).stay (fun c v _ r => r) (fun c r => by rw [upd_ne (ne _ _ r)]; exact r) fun c xs r => by rw [upd_ne (ne _ _ r)]; exact r
theorem drop_ok {Md : Model} {A : Around} {E : Value → Shared → Prop} {i : Nat} {n : Str} {pos : Pos} {Q : Unit → Shared → Prop} (I : Inv X pins σ H s) (hN : X.N.Nodup) (hi : X.N[i]? = some n) (hk : X.env.scope.names.lookup n = some .local) (k : ∀ s', Inv X pins (σ.set i none) H s' → Q () s') :
    wpAny Md A (do bindName X.env n .none; unbindBehindTheSuite X.env n pos) Q E s := by
  obtain ⟨m, hn, hl⟩ := id I.loc
  refine wpAny_nameGoes_keeps hk hn (by rw [I.ok.kind]; rfl) fun h' v hn' hs => k _ ?_
  have nL : ∀ b o, X.s₀.heap.get? b = some o → b ≠ X.env.locals := fun b o e => Nat.ne_of_lt (Nat.lt_of_lt_of_le (Heap.lt_size e) I.ok.above)
  refine ⟨I.ok, I.os, I.bare, ⟨fun b o e n' hb hx => (hs.2 b (nL b o e)).trans (I.base.keep b o e n' hb hx), fun b o e n' hb hx => ?_, I.base.free, fun b o e hx => ?_, I.base.tups, I.base.frzs, I.base.tbls⟩, ⟨_, hn', fun j y v' e1 e2 e3 => ?_⟩, fun y c e => ?_, I.free, I.freeC, fun p hp => ?_, fun b u e => ?_, by simpa using I.len⟩
  · obtain ⟨sl, e1⟩ := I.base.slot b o e n' hb hx
    exact ⟨sl, (hs.2 b (nL b o e)).trans e1⟩
  · obtain ⟨o', e1⟩ := I.base.there b o e hx
    exact ⟨o', (hs.2 b (nL b o e)).trans e1⟩
  · rw [List.getElem?_set] at e2
    split at e2
    · split at e2 <;> cases e2
    · rename_i hij
      obtain ⟨u', r', q⟩ := hl j y v' e1 e2 e3
      refine ⟨u', r', ?_⟩
      rcases q with ⟨kk, e⟩ | ⟨kk, c, e, z⟩
      · have ny : y ≠ n := fun e => hij (nodup_ix hN hi (e ▸ e1))
        exact .inl ⟨kk, by simp [ny, e]⟩
      · exact .inr ⟨kk, c, e, z.sameBut hs (I.cne y c e)⟩
  · obtain ⟨w', z⟩ := I.cell y c e
    exact ⟨w', z.sameBut hs (I.cne y c e)⟩
  · obtain ⟨e, n', ne, nf, d⟩ := I.pin p hp
    exact ⟨(hs.2 p.1 ne).trans e, n', ne, nf, d⟩
  · refine (I.hok b u e).stay (fun c v' hc q => (hs.2 c ?_).trans q) (fun _ q => q) fun _ _ q => q
    rintro rfl
    rcases hc with rfl | hc
    · rw [I.free] at e; cases e
    · rw [I.free] at hc; cases hc
end
theorem exm {Md : Model} {A : Around} {E : Value → Shared → Prop} {s : Shared} {e C D : Addr} {oe : Obj} {Q : Bool → Shared → Prop} {nm qn nm' qn' : Str} {N N' : Addr} {bs bm bs' bm' : List Value} {hd hd' : Bool} {sn sn' : List Str} {sub sub' : List Value} {ab ab' : Bool} {col col' : Option Bool} {dd dd' : Option Addr} {k0 k1 k2 k3 k5 k0' k1' k2' k3' k5' : Option Value} {nw nw' : String}
    (hC : s.heap.get? C = some (excClassObj nm qn C N bs bm hd sn sub ab col dd k0 k1 k2 k3 k5 nw)) (hD : s.heap.get? D = some (excClassObj nm' qn' D N' bs' bm' hd' sn' sub' ab' col' dd' k0' k1' k2' k3' k5' nw')) (he : s.heap.get? e = some oe) (hcls : oe.cls = .ref C)
    (hDB : (Value.ref D :: bm').contains (.type "BaseException") = true) (hCD : (Value.ref C :: bm).contains (.ref D) = true) (hq : Q true s) : wpAny Md A (excMatches (.ref e) (.ref D)) Q E s := by
  obtain ⟨hp, g, d, t, os⟩ := s
  have f := tc_notTuple
  unfold excMatches
  repeat (first | (with_reducible refine wpAny_loadPart_at he ?_; rw [hcls]) | with_reducible refine wpAny_loadPart_at hD ?_ | (with_reducible refine wpAny_isSubtype_exc hD ?_; rw [hDB]) | (with_reducible refine wpAny_isSubtype_exc hC ?_; rw [hCD]) | wp_step)
  exact hq
def fgt : List Nat → Sg → Sg
  | [], ρ => ρ
  | i :: r, ρ => fgt r (ρ.set i none)
theorem fgt_get {j : Nat} {w : W} : ∀ {asg : List Nat} {ρ : Sg}, (fgt asg ρ)[j]? = some (some w) → j ∉ asg ∧ ρ[j]? = some (some w)
  | [], ρ, e => ⟨by simp, e⟩
  | i :: r, ρ, e => by
    obtain ⟨n, q⟩ := fgt_get (asg := r) e
    rw [List.getElem?_set] at q
    split at q
    · split at q <;> cases q
    · rename_i hij
      exact ⟨by simp only [List.mem_cons, not_or]; exact ⟨fun z => hij z.symm, n⟩, q⟩
theorem fgt_len : ∀ {asg : List Nat} {ρ : Sg}, (fgt asg ρ).length = ρ.length
  | [], _ => rfl
  | i :: r, ρ => by unfold fgt; rw [fgt_len]; simp
theorem rs_unset {T : CTb} {φ : List Addr} {H : Hp} {ρ : Sg} {σ : St} {i : Nat} (r : RS T φ H ρ σ) : RS T φ H (ρ.set i none) (σ.set i none) := ⟨by simp [r.len], fun j w e => by
  rw [List.getElem?_set] at e
  split at e
  · split at e <;> cases e
  · rename_i hij
    obtain ⟨v, a, b⟩ := r.var j w e
    exact ⟨v, by rw [List.getElem?_set_ne hij]; exact a, b⟩⟩
/-- behind an except suite with a name: it is gone -/
def endX (i : Nat) : Out → Out
  | .nx ρ h => .nx (ρ.set i none) h
  | .bk ρ h => .bk (ρ.set i none) h
  | .ct ρ h => .ct (ρ.set i none) h
  | .rt w h => .rt w h
  | _ => .no
def xTry (sub : Str → Bool) (i : Nat) (asg : List Nat) (B Hn : Sm) : Sm := fun ρ h => match B ρ h with
  | .ex w h' => (match w with
    | .exc c fs ws => bif sub c then endX i (Hn ((fgt asg ρ).set i (some (.exc c fs ws))) h') else .no
    | _ => .no)
  | o => o
/-- what a class that is caught must have -/
structure CatAt (K : PySem.W.Frag) (mg : Str → Option Value) (T : CTb) (d : Str) (sub : Str → Bool) : Prop where
  ex : ∃ D, mg d = some (.ref D) ∧ excSh K D "ValueError.__new__" = true ∧ PySem.W.mroIn K D (.type "BaseException") = some true ∧ ∀ c C, sub c = true → T.x c = some C → excSh K C "ValueError.__new__" = true ∧ PySem.W.mroIn K C (.ref D) = some true
section
variable {X : Cx} {Z : Zc} {sub : Str → Bool} {i : Nat} {asg : List Nat} {B Hn : Sm} {n d : Str} {np hpos pos : Pos} {body suite : List Stmt} {b₀ : Stmt}
theorem qs_try (hK : CatAt X.K X.mg Z.T d sub) (hg : Gl X d) (hN : X.N.Nodup) (hi : X.N[i]? = some n) (hk : X.env.scope.names.lookup n = some .local) (hsg : ∀ σ, Z.sg σ) (hst : X.stack = X.env :: X.outer) (hfr : X.env.frame = some X.env.locals)
    (hB : ∀ E' pn φ' H' sg' xw', (∀ j ∈ asg, ∀ σ v, sg' σ → sg' (σ.set j (some v))) → XOk (X.tr E' pn) ⟨Z.T, φ', H', sg', xw'⟩ → QB (X.tr E' pn) ⟨Z.T, φ', H', sg', xw'⟩ body B)
    (hH : ∀ e φ' H', QB (X.loud e) (Zf Z.T φ' H') (b₀ :: suite) Hn) (hdb : (d == ("__debug__" : Str)) = false := by decide) :
    QS X Z (.Try body [.ExceptHandler (some (.Name d np)) (some n) (b₀ :: suite) hpos] [] [] pos) (xTry sub i asg B Hn) := by
  obtain ⟨D, hd, hD, hDB, hsub⟩ := hK.ex
  refine ⟨fun pins s σ H Dn I ⟨φ, h, ρ, x, q⟩ => wpAny_Try_except ?_⟩
  obtain ⟨nmD, qnD, ND, bsD, bmD, hdD, snD, subD, abD, colD, ddD, a0, a1, a2, a3, a5, lkD⟩ := excSh_of hD
  refine wpAny_mono ((hB (fun v s₁ => wpAny (model X.prog X.w) X.A (noteFrame v X.env) (fun _ s₂ => wpAny (model X.prog X.w) X.A (setFlight v none) (fun _ s₃ => wpAny (model X.prog X.w) X.A (handleBy v X.env [.ExceptHandler (some (.Name d np)) (some n) (b₀ :: suite) hpos]) (SP X pins Dn) X.xe s₃) X.xe s₂) X.xe s₁) (X.pn ++ pins) φ H
    (fun σ' => ∀ j, j ∉ asg → σ'[j]? = σ[j]?) (fun w h1 => ∃ c fs ws, w = .exc c fs ws ∧ sub c = true ∧ (endX i (Hn ((fgt asg ρ).set i (some w)) h1)).post Z φ H Dn) (fun j hj σ' v z j' hj' => ?_) ?_).ps [] s σ H Dn (inv_tr I _) ⟨φ, h, ρ, ⟨fun _ _ => rfl, Step.refl _ _, x.rh, x.rs⟩, ?_⟩) (fun f s1 sp => ?_) fun v s1 z => z
  · rw [List.getElem?_set_ne (fun z' => hj' (by rw [← z']; exact hj))]; exact z j' hj'
  · rintro v s1 ⟨pins1, σ1, H1, e, cv, da, T1, φ1, h1, w, rfl, ⟨I1, R, own⟩, sg1, st1, rh1, rx1, c, fs, ws, rfl, hs1, qp⟩
    replace I1 := inv_untr I.ok I1
    replace own : ∀ b ∈ e :: T1.toList, H1 b = none ∧ Outs X pins b := fun b hb => ⟨(own b hb).1, (own b hb).2.1, (own b hb).2.2.1, (own b hb).2.2.2.1, fun p hp => (own b hb).2.2.2.2 p (List.mem_append_left _ hp)⟩
    obtain ⟨C, vs, hTc, rfl, hfl, hrw, hda⟩ := rx1
    obtain ⟨hC, hCD⟩ := hsub c C hs1 hTc
    obtain ⟨nm, qn, N, bs, bm, hdc, sn, sb, ab, col, dd, k0, k1, k2, k3, k5, lkC⟩ := excSh_of hC
    show wpAny _ _ (noteFrame (.ref e) X.env) _ _ s1
    refine note_ok (base := X.base) (by rw [← hst]; exact I1.ok.frames) (by rw [← hst]; exact I1.stack) hfr R fun g T2 r c1 nw => ?_
    have I2 := chg I1 (by rw [hst]; exact c1) own
    have own2 : ∀ b ∈ [e, T2], H1 b = none ∧ Outs X pins b := fun b hb => by
      rcases List.mem_cons.mp hb with rfl | hb
      · exact own b List.mem_cons_self
      · have hb : b = T2 := by simpa using hb
        subst hb
        rcases nw with nw | nw
        · exact own b (by rw [nw]; simp)
        · exact ⟨I1.hok.fresh nw, outs_new I1 (Heap.get?_none_of_le nw)⟩
    have ownT : ∀ b ∈ [T2], H1 b = none ∧ Outs X pins b := fun b hb => own2 b (List.mem_cons_of_mem _ hb)
    refine flight_ok r fun g2 r2 c2 => ?_
    have I3 := chg I2 (c2.mono (fun b z => by cases z) fun b z => z) ownT
    obtain ⟨oe, vv, he, hcls, hdi, hfd, hT2⟩ := id r2
    refine wpAny_handleBy_cons (codeAny_handlers_test (ld_glob (X := X.loud e) (inv_loud I3 e) hg hd ?_ hdb)) (by intro z; cases z)
    refine exm (I3.kIn _ _ lkC) (I3.kIn _ _ lkD) he hcls (mro_of lkD hDB) (mro_of lkC hCD) ?_
    refine codeAny_handlers_suite_as (flight_ok r2 fun g3 r3 c3 => ?_)
    have I4 := chg I3 (c3.mono (fun b z => by cases z) fun b z => z) ownT
    obtain ⟨oe4, vv4, he4, hcls4, hdi4, hfd4, _⟩ := id r3
    have I5 := track (ho := .ext (XShape e C da)) I4 (own2 e (by simp)).1 (own2 e (by simp)).2 ⟨⟨oe4, vv4, he4, hcls4, hfd4, hdi4⟩, ⟨oe4, he4⟩, fun h1 h2 ⟨o, us, a, b⟩ k => ⟨o, us, k o a, b⟩⟩
    have st5 := step_tmp (φ := φ1) (H := H1) (ho := .ext (XShape e C da)) (own2 e (by simp)).1
    have rh5 := rh1.tmp (ho := .ext (XShape e C da)) (own2 e (by simp)).1
    have rwe : RW Z.T φ1 (upd H1 e (.ext (XShape e C da))) (.exc c fs ws) (.ref e) := by
      unfold RW
      refine ⟨e, C, da, vs, rfl, rh1.fresh (own2 e (by simp)).1, hTc, upd_same, hfl, ?_, hrw.step st5⟩
      cases da with
      | none => exact hda
      | some d1 => exact ⟨hda.1, by rw [upd_ne (ne_of_none hda.2 (own2 e (by simp)).1)]; exact hda.2⟩
    refine store_ok (X := X.loud e) (v := .ref e) (inv_loud I5 e) hN hi (.inl hk) rfl (fun s6 I6 => ?_) (.inr hk)
    have rs5 : RS Z.T φ1 (upd H1 e (.ext (XShape e C da))) ((fgt asg ρ).set i (some (.exc c fs ws))) (σ1.set i (some (.ref e))) := by
      refine RS.set ⟨?_, fun j w e1 => ?_⟩ rwe
      · rw [fgt_len, x.rs.len, I.len, I1.len]
      · obtain ⟨nj, e2⟩ := fgt_get e1
        obtain ⟨v, a, b⟩ := x.rs.var j w e2
        exact ⟨v, by rw [sg1 j nj]; exact a, b.step (st1.trans st5)⟩
    refine wpAny_mono ((hH e φ1 (upd H1 e (.ext (XShape e C da)))).ps pins s6 _ _ { nx := fun σ' H' => Dn.nx (σ'.set i none) H', rt := Dn.rt, bk := fun σ' H' => Dn.bk (σ'.set i none) H', ct := fun σ' H' => Dn.ct (σ'.set i none) H' } I6 ⟨φ1, h1, _, ⟨trivial, Step.refl _ _, rh5, rs5⟩, ?_⟩) (fun f s7 sp => ?_) fun _ _ z => z.elim
    · cases e6 : Hn ((fgt asg ρ).set i (some (.exc c fs ws))) h1 with
      | nx ρ' h2 => rw [e6] at qp; exact fun φ' H' σ' s r rs _ => qp φ' H' _ (st1.trans (st5.trans s)) r (rs_unset rs) (hsg _)
      | bk ρ' h2 => rw [e6] at qp; exact fun φ' H' σ' s r rs _ => qp φ' H' _ (st1.trans (st5.trans s)) r (rs_unset rs) (hsg _)
      | ct ρ' h2 => rw [e6] at qp; exact fun φ' H' σ' s r rs _ => qp φ' H' _ (st1.trans (st5.trans s)) r (rs_unset rs) (hsg _)
      | rt w h2 => rw [e6] at qp; exact Kv.step qp (st1.trans st5)
      | ex w h2 => rw [e6] at qp; exact qp.elim
      | no => rw [e6] at qp; exact qp.elim
    · show wpAny _ X.A (do bindName X.env n .none; unbindBehindTheSuite X.env n hpos) _ _ s7
      cases f with
      | next => obtain ⟨σ', H', J, z⟩ := sp; exact drop_ok (inv_unloud I.ok J) hN hi hk fun s8 J8 => ⟨_, H', J8, z⟩
      | brk => obtain ⟨σ', H', J, z⟩ := sp; exact drop_ok (inv_unloud I.ok J) hN hi hk fun s8 J8 => ⟨_, H', J8, z⟩
      | cont => obtain ⟨σ', H', J, z⟩ := sp; exact drop_ok (inv_unloud I.ok J) hN hi hk fun s8 J8 => ⟨_, H', J8, z⟩
      | ret u => obtain ⟨v, σ', H', J, rv, z⟩ := sp; exact drop_ok (inv_unloud I.ok J) hN hi hk fun s8 J8 => ⟨v, _, H', J8, rv, z⟩
  · unfold xTry at q
    cases e1 : B ρ h with
    | nx ρ' h' => rw [e1] at q; exact fun φ' H' σ' s r rs _ => q φ' H' σ' s r rs (hsg _)
    | bk ρ' h' => rw [e1] at q; exact fun φ' H' σ' s r rs _ => q φ' H' σ' s r rs (hsg _)
    | ct ρ' h' => rw [e1] at q; exact fun φ' H' σ' s r rs _ => q φ' H' σ' s r rs (hsg _)
    | rt w h' => rw [e1] at q; exact q
    | no => rw [e1] at q; exact q
    | ex w h' =>
      rw [e1] at q
      dsimp only at q
      cases w with
      | exc c fs ws =>
        dsimp only at q
        cases hs : sub c with
        | false => rw [hs] at q; exact q.elim
        | true => rw [hs] at q; exact ⟨c, fs, ws, rfl, hs, q⟩
      | _ => exact q.elim
  · cases f with
    | next => obtain ⟨σ', H', J, z⟩ := sp; exact wpAny_execs_nil ⟨σ', H', inv_untr I.ok J, z⟩
    | brk => obtain ⟨σ', H', J, z⟩ := sp; exact ⟨σ', H', inv_untr I.ok J, z⟩
    | cont => obtain ⟨σ', H', J, z⟩ := sp; exact ⟨σ', H', inv_untr I.ok J, z⟩
    | ret u => obtain ⟨v, σ', H', J, rv, z⟩ := sp; exact ⟨v, σ', H', inv_untr I.ok J, rv, z⟩
end
end M

set_option Elab.async false
set_option linter.all false
set_option maxRecDepth 100000
set_option maxHeartbeats 1000000
namespace M
open PySem PySem.Spec PyProof.Rows L2
/-! ## MX: what a caught exception tells: isinstance, attributes -/
/-- what the class of an exception must have for its attributes -/
structure ExcTy (K : PySem.W.Frag) (C : Addr) : Prop where
  ga : PySem.W.findIn K (.ref C) "__getattribute__" = some (some (.builtin "BaseException.__getattribute__"))
  gh : PySem.W.findIn K (.ref C) "__getattr__" = some none
  bx : PySem.W.mroIn K C (.type "BaseException") = some true
  ha : PySem.W.findIn K (.ref C) "__class__" = some (some (.builtin "object.__class__"))
  hn : PySem.W.specialIn K (.builtin "object.__class__") "__get__" = some (some (.builtin "getset_descriptor.__get__"))
  htk : PySem.W.takesIn K (.builtin "object.__class__") = some true
  hm : PySem.W.mroIn K C (.type "object") = some true
section
variable {prog : Program} {w : World} {A : Around} {E : Value → Shared → Prop} {s : Shared} {K : PySem.W.Frag} {x C : Addr} {ox : Obj} {odo : Option Obj} {name : Str}
/-- what is found: a value of its own dict, or something that binds -/
def FndQ (prog : Program) (w : World) (A : Around) (x C : Addr) (Q : Value → Shared → Prop) (s : Shared) : Builtin.ObjectAttr.Found → Prop
  | .value v => wpAny (model prog w) A (handedOut v) Q (fun _ _ => False) s
  | .bind g a => wpAny (model prog w) A.in1 (call g [a, .ref x, .ref C]) (fun v s' => wpAny (model prog w) A (handedOut v) Q (fun _ _ => False) s') (fun _ _ => False) s
  | .missing => False
theorem exc_by {fill expr : Bool} {tk : Tok} {Q : Value → Shared → Prop} {r : Builtin.ObjectAttr.Found} (X : K.In s.heap) (I : PySem.W.InstAt s.heap x ox C odo) (Z : ExcTy K C) (hf : PySem.W.findObj K C odo name = some r) (h : FndQ prog w A x C Q s r) :
    wpAny (model prog w) A (getAttrBy (.ref x) (.str name tk) fill expr) Q E s := by
  obtain ⟨hh, g, d, t, os⟩ := s
  have L0 := I.type (M := model prog w)
  have L1 := PySem.W.looks_findIn (M := model prog w) X Z.ga
  have L2 := PySem.W.looks_findIn (M := model prog w) X Z.gh
  have L3 := PySem.W.looks_mroIn (M := model prog w) X Z.bx
  unfold getAttrBy
  refine wpAny_holding (wpAny_bind (L0.at (wpAny_bind (L1.at ?_))))
  have hne : (Value.builtin "BaseException.__getattribute__" == Value.builtin "object.__getattribute__") = false := by decide +kernel
  simp only [hne, Bool.and_false, Bool.false_eq_true, if_false]
  unfold getAttrByItsOwn hookBefore
  have ht : onTheHeap (Value.ref C) = true := rfl
  simp only [ht, if_true]
  refine wpAny_bind (L2.at (wpAny_bind (wpAny_attempt (wpAny_holding ?_))))
  unfold callGetattribute
  have hfe : (expr && onTheHeap (Value.builtin "BaseException.__getattribute__")) = false := by cases expr <;> rfl
  simp only [hfe, Bool.false_eq_true, if_false]
  unfold boundAndCalled
  rw [PySem.F.attr_ValueError.ga.bind]
  refine wpAny_bind (wpAny_pure (wpAny_call (codeAny_call_builtin PySem.F.attr_ValueError.ga.plain PySem.F.entry_bexc_ga ?_)))
  have hk : builtinKind "BaseException.__getattribute__" = some .slot := by decide +kernel
  have hsplit : splitId "BaseException.__getattribute__" = some ("BaseException", "__getattribute__") := by decide +kernel
  have ha := PySem.F.args_bexc_ga (.ref x) (.str name tk)
  simp only [checkBuiltinCall, hk, hsplit]
  refine wpAny_bind ((L0.andThen L3).at ?_)
  have L4 := PySem.W.looks_find (M := model prog w) X I hf
  have e1 := I.at_
  have e2 := I.cls
  dsimp only at e1
  repeat (any_goals (first | assumption | (with_reducible refine wpAny_loadPart_at e1 ?_; rw [e2]; refine wpAny_pure ?_; refine wpAny_bind (L4.at ?_)) | wp_step))
  cases r with
  | value v => exact wpAny_pure (wpAny_mono h (fun _ _ z => z) fun _ _ z => z.elim)
  | missing => exact h.elim
  | bind g a =>
    show wpAny _ _ (holding [a] (call g [a, .ref x, .ref C]) >>= ret) _ _ _
    exact wpAny_bind (wpAny_holding (wpAny_mono h (fun v s' z => wpAny_pure (wpAny_mono z (fun _ _ q => q) fun _ _ q => q.elim)) fun _ _ z => z.elim))
theorem exc_class {Q : Option Value → Shared → Prop} (X : K.In s.heap) (I : PySem.W.InstAt s.heap x ox C odo) (Z : ExcTy K C) (h : Q (some (.ref C)) { s with toks := s.toks + 1 }) : wpAny (model prog w) A (getAttr? (.ref x) "__class__") Q E s := by
  obtain ⟨hh, g, d, t, os⟩ := s
  have hc : (PySem.W.clsIn K C).isSome = true := by
    cases q : PySem.W.clsIn K C with
    | some cd => rfl
    | none => have := Z.hm; unfold PySem.W.mroIn at this; rw [q] at this; cases this
  obtain ⟨cd, hc⟩ := Option.isSome_iff_exists.mp hc
  have hf : PySem.W.findObj K C odo "__class__" = some (.bind (.builtin "getset_descriptor.__get__") (.builtin "object.__class__")) := by
    unfold PySem.W.findObj
    rw [hc, Option.bind_some, Z.ha, Option.bind_some]
    simp [Z.hn, Z.htk]
  unfold getAttr? getAttrBy?
  refine wpAny_bind (wpAny_mkText (wpAny_bind (wpAny_attempt (exc_by (s := ⟨hh, g, d, t + 1, os⟩) X I Z hf (wpAny_call (PySem.W.class_get (s := ⟨hh, g, d, t + 1, os⟩) (od := odo) X I Z.hm ?_))))))
  exact PySem.W.handed_on rfl (wpAny_pure h)
def XAtI (e C : Addr) (odo : Option Obj) (h : Heap) : Prop := ∃ ox, PySem.W.InstAt h e ox C odo
theorem kitx_exc {odo : Option Obj} (Z : ExcTy K C) : PySem.W.KitX K (.ref x) (.ref C) (XAtI x C odo) where
  ty := fun _ _ _ ⟨_, I⟩ => I.type
  it := fun _ _ X _ => by
    cases q : K.lookup C with
    | none => have := Z.hm; unfold PySem.W.mroIn PySem.W.clsIn at this; rw [q] at this; cases this
    | some o =>
      obtain ⟨oc, od, dt, sl⟩ := o
      cases dt with
      | cls cd =>
        intro A' Q' E' s' k z
        unfold isType loadHead
        exact wpAny_bind (wpAny_loadPart (k _ _ (X _ _ q)) (wpAny_pure z))
      | _ => have := Z.hm; unfold PySem.W.mroIn PySem.W.clsIn at this; rw [q] at this; cases this
  ne := fun h tp dd its n sl X htp => by
    refine Bool.eq_false_iff.mpr fun z => ?_
    have e : C = tp := Value.ref.inj (beq_iff_eq.mp z)
    subst e
    cases q : K.lookup C with
    | none => have := Z.hm; unfold PySem.W.mroIn PySem.W.clsIn at this; rw [q] at this; cases this
    | some o =>
      have e2 := (X _ _ q).symm.trans htp
      cases e2
      have := Z.hm; unfold PySem.W.mroIn PySem.W.clsIn at this; rw [q] at this; cases this
  ca := fun X ⟨_, I⟩ k => exc_class X I Z k
end
end M

set_option Elab.async false
set_option linter.all false
set_option maxRecDepth 100000
set_option maxHeartbeats 1000000
namespace M
open PySem PySem.Spec PyProof.Rows L2
/-! ## MY: isinstance of anything, caught exceptions too, with a class or a tuple of classes -/
inductive TyX (K : PySem.W.Frag) (H : Hp) : V → Value → Prop where
  | of {v : V} {t : Value} (h : TyOf K H v t) : TyX K H v t
  | exc {e C : Addr} {d : Option Addr} (h : H e = some (.ext (XShape e C d))) (hd : ∀ da, d = some da → ∃ o, H da = some o) (Z : ExcTy K C) : TyX K H (.ref e) (.ref C)
/-- the second argument: a class, or a tuple of classes -/
def CAny (K : PySem.W.Frag) (H : Hp) (t : Value) (b : Bool) (c : V) : Prop := (∃ cv, clsV c cv ∧ PySem.W.kitOne K t cv = some b) ∨ ∃ p vs cvs, c = .ref p ∧ H p = some (.tup vs) ∧ Paired clsV vs cvs ∧ PySem.W.kitAny K t cvs = some b
def rIsiX (K : PySem.W.Frag) : List V → Hp → VK → Prop := fun xs H Q => ∃ y c t b, xs = [y, c] ∧ TyX K H y t ∧ CAny K H t b c ∧ Q (.bl b) H
section
variable {X : Cx}
theorem clsV_rel {c : V} {cv u : Value} (h : clsV c cv) (r : RelV c u) : u = cv := by
  cases c <;> simp only [clsV] at h <;> first | (subst h; exact r) | exact h.elim
theorem clsV_all : ∀ {vs : List V} {cvs us : List Value}, Paired clsV vs cvs → Vals vs us → us = cvs
  | _, _, _, .nil, .nil => rfl
  | _, _, _, .cons h t, .cons r q => by rw [clsV_rel h r, clsV_all t q]
theorem inst_of {pins : List (Addr × Obj)} {σ : St} {H : Hp} {s : Shared} (I : Inv X pins σ H s) {e C : Addr} {d : Option Addr} (h : H e = some (.ext (XShape e C d))) (hd : ∀ da, d = some da → ∃ o, H da = some o) : ∃ odo, XAtI e C odo s.heap := by
  obtain ⟨⟨o, vs, a, b, c, dd⟩, _⟩ := (show ObjOk X.prog X.w H s.heap e (.ext (XShape e C d)) from I.hok e _ h)
  have no : PySem.W.notCls o = true := by unfold PySem.W.notCls; rw [c]
  cases d with
  | none => exact ⟨none, o, a, b, no, by rw [dd]; trivial⟩
  | some da =>
    obtain ⟨ho, q⟩ := hd da rfl
    obtain ⟨ob, q2⟩ := hok_there I.hok q
    exact ⟨some ob, o, a, b, no, by rw [dd]; exact q2⟩
theorem call_isiX (K : PySem.W.Frag) (hK : X.K = K) : CallR X (.builtin "isinstance") (rIsiX K) := by
  subst hK
  intro pins s σ H xs us Q I r h
  obtain ⟨y, c, t, b, rfl, ty, ca, q⟩ := h
  cases r with
  | cons r1 r2 =>
    cases r2 with
    | cons r2 r3 =>
      cases r3
      rename_i u1 u2
      have fin : ∀ tk, EP X pins σ Q (.bool b) { s with toks := tk } := fun tk => ⟨.bl b, H, I.tok tk, rfl, q⟩
      have go : ∀ (T : Value) (Hx : Heap → Prop), PySem.W.KitX X.K u1 T Hx → Hx s.heap → T = t → u1 ≠ .builtin "__main__.__loader__#opaque" → wpAny (model X.prog X.w) X.A (call (.builtin "isinstance") [u1, u2]) (EP X pins σ Q) X.xe s := by
        intro T Hx kx hx et ne
        subst et
        rcases ca with ⟨cv, hc, hk⟩ | ⟨p, vs, cvs, rfl, hp, hv, hk⟩
        · rw [clsV_rel hc r2]
          exact PySem.W.kia_one kx I.kIn hx hk ne fin
        · obtain rfl : u2 = Value.ref p := r2
          obtain ⟨_, its, rv, ⟨o, h1, h2, n, h3⟩⟩ := (show ObjOk X.prog X.w H s.heap p (.tup vs) from I.hok p _ hp)
          obtain ⟨oc, od, dt, sl⟩ := o
          dsimp only at h2 h3
          subst h2 h3
          have := clsV_all hv rv
          subst this
          exact PySem.W.kia_tup kx I.kIn hx h1 hk ne fin
      cases ty with
      | exc h hd Z =>
        rename_i e C d
        obtain ⟨odo, hx⟩ := inst_of I h hd
        cases (show u1 = Value.ref e from r1)
        exact go _ _ (kitx_exc Z) hx rfl (fun z => nomatch z)
      | of h =>
        cases h with
        | non => cases (show u1 = Value.none from r1); exact go _ _ PySem.W.kitx_none True.intro rfl (fun z => nomatch z)
        | bl y => cases (show u1 = Value.bool y from r1); exact go _ _ PySem.W.kitx_bool True.intro rfl (fun z => nomatch z)
        | int i => obtain ⟨t, q⟩ := (show ∃ t, u1 = Value.int i t from r1); cases q; exact go _ _ PySem.W.kitx_int True.intro rfl (fun z => nomatch z)
        | str y => obtain ⟨t, q⟩ := (show ∃ t, u1 = Value.str y t from r1); cases q; exact go _ _ PySem.W.kitx_str True.intro rfl (fun z => nomatch z)
        | flt y => obtain ⟨t, q⟩ := (show ∃ t, u1 = Value.float y t from r1); cases q; exact go _ _ PySem.W.kitx_float True.intro rfl (fun z => nomatch z)
        | @lst a xs ea =>
          cases (show u1 = Value.ref a from r1)
          obtain ⟨_, _, n, _, h1⟩ := (show ObjOk X.prog X.w H s.heap a (.lst xs) from I.hok a _ ea)
          exact go _ _ PySem.W.kitx_list ⟨_, h1, rfl⟩ rfl (fun z => nomatch z)
        | @frz a ob xs ea =>
          cases (show u1 = Value.ref a from r1)
          obtain ⟨_, _, _, n, _, h1⟩ := (show ObjOk X.prog X.w H s.heap a (.frz ob (.lst xs)) from I.hok a _ ea)
          exact go _ _ PySem.W.kitx_list ⟨_, h1, rfl⟩ rfl (fun z => nomatch z)
        | @tup a xs ea =>
          cases (show u1 = Value.ref a from r1)
          obtain ⟨_, _, _, p⟩ := (show ObjOk X.prog X.w H s.heap a (.tup xs) from I.hok a _ ea)
          obtain ⟨o, h1, h2, _⟩ := p
          exact go _ _ PySem.W.kitx_tuple ⟨o, h1, h2⟩ rfl (fun z => nomatch z)
        | @dK a kvs ea =>
          cases (show u1 = Value.ref a from r1)
          obtain ⟨_, _, vs, _, p⟩ := (show ObjOk X.prog X.w H s.heap a (.dK kvs) from I.hok a _ ea)
          obtain ⟨o, es, ep, h1, h2, _⟩ := p
          exact go _ _ PySem.W.kitx_dict ⟨o, h1, h2.1⟩ rfl (fun z => nomatch z)
        | @dT a kvs ea =>
          cases (show u1 = Value.ref a from r1)
          obtain ⟨_, _, xs, _, o, es, ep, h1, h2, _⟩ := (show ObjOk X.prog X.w H s.heap a (.dT kvs) from I.hok a _ ea)
          exact go _ _ PySem.W.kitx_dict ⟨o, h1, h2.1⟩ rfl (fun z => nomatch z)
        | @ins a C dx fs ea cl ha hn htk hm =>
          cases (show u1 = Value.ref a from r1)
          obtain ⟨mA, O, _⟩ := ins_get I.hok ea
          obtain ⟨od, J, _⟩ := O.look
          exact go _ _ (PySem.W.kitx_own (cl.get _) cl.hd ha hn htk hm) J rfl (fun z => nomatch z)
end
/-! the machine's isinstance -/
def tyX (h : Mem) : W → Option Ty
  | .exc c _ _ => some (.inr c)
  | w => tyN h w
def clTy : W → Option Ty
  | .cls c => some (.inr c)
  | .ty n => some (.inl n)
  | _ => none
def kitA (kit : Kit) (t : Ty) : List W → Option Bool
  | [] => some false
  | w :: r => (clTy w).bind fun cn => (kit.get t cn).bind fun b => (kitA kit t r).bind fun b2 => some (b || b2)
def isiX (kit : Kit) (h : Mem) : List W → Option W
  | [w, .ty n] => (tyX h w).bind fun t => (kit.get t (.inl n)).map .bl
  | [w, .cls c] => (tyX h w).bind fun t => (kit.get t (.inr c)).map .bl
  | [w, .tup (c :: cs)] => (tyX h w).bind fun t => (kitA kit t (c :: cs)).map .bl
  | _ => none
def ExcOk (K : PySem.W.Frag) (T : CTb) : Prop := ∀ c C, T.x c = some C → T c = none ∧ ExcTy K C
theorem cls_rw {T : CTb} {φ : List Addr} {H : Hp} {w : W} {v : V} {cn : Ty} (e : clTy w = some cn) (r : RW T φ H w v) {cv : Value} (h : TV T cn cv) : clsV v cv := by
  cases w with
  | cls c =>
    cases e
    unfold RW at r
    obtain ⟨C, a, rfl⟩ := r
    obtain ⟨C', b, rfl⟩ := h
    rw [a] at b; cases b; rfl
  | ty n =>
    cases e
    unfold RW at r
    subst r
    exact h
  | _ => cases e
theorem kitA_ok {K : PySem.W.Frag} {T : CTb} {kit : Kit} (hk : KitOk K T kit) {t : Ty} {tv : Value} (ht : ∀ tv', TV T t tv' → tv' = tv) {φ : List Addr} {H : Hp} : ∀ {ws : List W} {vs : List V} {b : Bool}, kitA kit t ws = some b → RWs T φ H ws vs → ∃ cvs, Paired clsV vs cvs ∧ PySem.W.kitAny K tv cvs = some b
  | [], vs, b, e, r => by
    unfold RWs at r
    subst r
    cases e
    exact ⟨[], .nil, rfl⟩
  | w :: ws, vs, b, e, r => by
    unfold RWs at r
    obtain ⟨v, vr, rfl, r1, r2⟩ := r
    unfold kitA at e
    rw [Option.bind_eq_some_iff] at e
    obtain ⟨cn, hw, e⟩ := e
    rw [Option.bind_eq_some_iff] at e
    obtain ⟨b0, g, e⟩ := e
    rw [Option.bind_eq_some_iff] at e
    obtain ⟨b2, g2, e⟩ := e
    cases e
    obtain ⟨tv', cv, h1, h2, h3⟩ := hk _ (Kit.mem g)
    rw [ht tv' h1] at h3
    obtain ⟨cvs, p, q⟩ := kitA_ok hk ht (ws := ws) g2 r2
    refine ⟨cv :: cvs, .cons (cls_rw hw r1 h2) p, ?_⟩
    unfold PySem.W.kitAny
    rw [h3]
    cases b0 with
    | true => rfl
    | false => simpa using q
theorem tyX_ok {K : PySem.W.Frag} {T : CTb} (hI : InsOk K T) (hE : ExcOk K T) {φ : List Addr} {H : Hp} {h : Mem} {w : W} {v : V} {t : Ty} (r : RH T φ h H) (x : RW T φ H w v) (e : tyX h w = some t) {tv : Value} (ht : TV T t tv) : TyX K H v tv := by
  cases w with
  | exc c fs ws =>
    cases e
    unfold RW at x
    obtain ⟨p, C, d, vs, rfl, _, c1, c2, _, c3, _⟩ := x
    obtain ⟨C', c4, rfl⟩ := ht
    obtain ⟨n1, Z⟩ := hE c C c1
    have : T.any c = some C := by unfold CTb.any; rw [show T.t c = none from n1]; dsimp only; rw [c1]
    rw [this] at c4; cases c4
    refine .exc c2 (fun da z => ?_) Z
    subst z
    exact ⟨_, c3.2⟩
  | _ => exact .of (tyN_ok hI r x e ht)
theorem tv_inj {T : CTb} {t : Ty} {a b : Value} (h : TV T t a) (k : TV T t b) : b = a := by
  cases t with
  | inl n => rw [show a = .type n from h, show b = .type n from k]
  | inr c =>
    obtain ⟨C, x, rfl⟩ := h
    obtain ⟨C', y, rfl⟩ := k
    rw [x] at y; cases y; rfl
theorem isiX_ok {K : PySem.W.Frag} {T : CTb} {kit : Kit} (hI : InsOk K T) (hE : ExcOk K T) (hk : KitOk K T kit) : CbW T (isiX kit) (rIsiX K) := by
  intro φ h H ws vs w Q r x e k
  have one : ∀ (a : W) (u cv0 : V) (cn : Ty), (tyX h a).bind (fun t => (kit.get t cn).map W.bl) = some w → RW T φ H a u → (∀ cv, TV T cn cv → clsV cv0 cv) → rIsiX K [u, cv0] H Q := by
    intro a u cv0 cn e ra hc
    rw [Option.bind_eq_some_iff] at e
    obtain ⟨t, q, e⟩ := e
    rw [Option.map_eq_some_iff] at e
    obtain ⟨b, e1, rfl⟩ := e
    obtain ⟨tv, cv, h1, h2, h3⟩ := hk _ (Kit.mem e1)
    exact ⟨u, cv0, tv, b, rfl, tyX_ok hI hE r ra q h1, .inl ⟨cv, hc cv h2, h3⟩, here_k r rw_b k⟩
  unfold isiX at e
  split at e
  · rename_i w1 n
    unfold RWs at x
    obtain ⟨v1, r1, rfl, x1, x2⟩ := x
    unfold RWs at x2
    obtain ⟨v2, r2, rfl, x3, x4⟩ := x2
    unfold RWs at x4; subst x4
    exact one _ _ _ (.inl n) e x1 fun cv h => cls_rw rfl x3 h
  · rename_i w1 n
    unfold RWs at x
    obtain ⟨v1, r1, rfl, x1, x2⟩ := x
    unfold RWs at x2
    obtain ⟨v2, r2, rfl, x3, x4⟩ := x2
    unfold RWs at x4; subst x4
    exact one _ _ _ (.inr n) e x1 fun cv h => cls_rw rfl x3 h
  · rename_i w1 c0 cs
    unfold RWs at x
    obtain ⟨v1, r1, rfl, x1, x2⟩ := x
    unfold RWs at x2
    obtain ⟨v2, r2, rfl, x3, x4⟩ := x2
    unfold RWs at x4; subst x4
    rw [Option.bind_eq_some_iff] at e
    obtain ⟨t, q, e⟩ := e
    rw [Option.map_eq_some_iff] at e
    obtain ⟨b, e1, rfl⟩ := e
    have e1' := e1
    unfold kitA at e1
    rw [Option.bind_eq_some_iff] at e1
    obtain ⟨cn, hw, e1⟩ := e1
    rw [Option.bind_eq_some_iff] at e1
    obtain ⟨b0, g, _⟩ := e1
    obtain ⟨tv, cv, h1, _, _⟩ := hk _ (Kit.mem g)
    unfold RW at x3
    obtain ⟨p, us, rfl, _, hp, hrw⟩ := x3
    obtain ⟨cvs, pr, ka⟩ := kitA_ok hk (fun tv' z => tv_inj h1 z) e1' hrw
    exact ⟨v1, _, tv, b, rfl, tyX_ok hI hE r x1 q h1, .inr ⟨p, us, cvs, rfl, hp, pr, ka⟩, here_k r rw_b k⟩
  · cases e
end M

set_option Elab.async false
set_option linter.all false
set_option maxRecDepth 100000
set_option maxHeartbeats 1000000
namespace M
open PySem PySem.Spec PyProof.Rows L2
/-! ## MZ: count of a list of truths; slices of tuples -/
def rCountB : V → List V → Hp → VK → Prop := fun x vs H Q => match x, vs with
  | .ref p, [.bl k] => need (lstAt H p) fun xs => need (bolsOf xs) fun bs => Q (.int (bs.count k : Nat)) H
  | _, _ => False
theorem vals_bols : ∀ {bs : List Bool} {us : List Value}, Vals (bs.map V.bl) us → us = bs.map Value.bool
  | [], us, h => by cases h; rfl
  | b :: bs, us, h => by
    cases h with
    | cons r h => rw [show _ = Value.bool b from r, vals_bols h]; rfl
theorem reads_bols (h : Heap) : ∀ bs : List Bool, ∃ as, ReadsAll h (bs.map Value.bool) (bs.map PyData.bool) as
  | [] => ⟨_, .nil⟩
  | b :: bs => by
    obtain ⟨as, r⟩ := reads_bols h bs
    exact ⟨_, .cons (.bool b) r⟩
theorem count_bols (k : Bool) : ∀ bs : List Bool, PySem.Spec.countIn (.bool k) (bs.map PyData.bool) = (bs.count k : Nat)
  | [] => rfl
  | b :: bs => by
    show (if PySem.Spec.same (.bool b) (.bool k) then (1 : Int) else 0) + PySem.Spec.countIn (.bool k) (bs.map PyData.bool) = _
    rw [count_bols k bs, List.count_cons]
    cases b <;> cases k <;> simp [PySem.Spec.same] <;> omega
section
variable {X : Cx}
theorem mt_countB : MtM X "list.count" rCountB := by
  intro pins s σ H x vs v us Q I rx rv h
  unfold rCountB at h
  split at h
  · rename_i p k
    obtain ⟨xs, e1, h⟩ := need_ex h
    obtain ⟨bs, e2, q⟩ := need_ex h
    cases rx
    obtain ⟨u, rfl, ru⟩ := rv.one
    cases ru
    obtain ⟨its, r, pl, z⟩ := I.list (lstAt_sq (K := X.K) e1)
    rw [bolsOf_eq e2] at r
    have := vals_bols r
    subst this
    obtain ⟨as, ra⟩ := reads_bols s.heap bs
    refine count_list_bools pl.isList ra (by simp [Shape.has]) ?_
    rw [count_bols]
    exact ⟨.int _, H, I.tok _, ⟨_, rfl⟩, q⟩
  · exact h.elim
end
def xBmL (op : Mem → W → List W → Option W) (f : Ex) (g : Exs) : Ex := fun ρ h => (f ρ h).bind fun a h1 => match items h1 a with
  | some _ => (match g ρ h1 with
    | .ok ws h2 => .of (op h2 a ws) h2
    | .ex w h2 => .ex w h2
    | .no => .no)
  | none => .no
def countM (h : Mem) (a : W) (ws : List W) : Option W := match ws with
  | [.bl k] => ((items h a).bind bolW).map fun bs => .int (bs.count k : Nat)
  | _ => none
section
variable {X : Cx} {Z : Zc} {f : Ex} {fa : Exs} {o e : Expr} {apos cpos : Pos} {T : CTb}
theorem bmL_ok {op : Mem → W → List W → Option W} {r : V → List V → Hp → VK → Prop} (hw : BmW Z.T op r) {K : PySem.W.Frag} {σ : St} {H : Hp} {Q : VK} (q : tH Z (xBmL op f fa) σ H Q) : tBM K "list" r (tH Z f) (tHA Z fa) σ H Q := by
  obtain ⟨φ, m, ρ, x, q⟩ := q
  refine ⟨φ, m, ρ, x, ?_⟩
  unfold xBmL at q
  rw [bindP] at q
  refine q.mono fun a h1 q1 => fun φ1 H1 u s1 r1 ra => ?_
  cases ei : items h1 a with
  | none => rw [ei] at q1; exact q1.elim
  | some us =>
    rw [ei] at q1
    obtain ⟨p, vs, rfl, q2, q3⟩ := items_ok r1 ra ei
    refine ⟨.inl ⟨rfl, vs, lstAt_sq q2⟩, φ1, h1, ρ, x.step s1 r1, ?_⟩
    dsimp only at q1
    cases e2 : fa ρ h1 with
    | no => rw [e2] at q1; exact q1.elim
    | ex w h2 => rw [e2] at q1; exact q1
    | ok ws h2 =>
      rw [e2] at q1
      intro φ2 H2 vs s2 r2 rw2
      obtain ⟨w, e, k⟩ := ofP q1
      exact hw φ2 h2 H2 a _ ws vs w Q r2 (ra.step s2) rw2 e (k.step (s1.trans s2)).end
theorem countM_ok : BmW T countM rCountB := by
  intro φ h H a u ws vs w Q r ra x e k
  unfold countM at e
  split at e
  · rename_i b
    rw [Option.map_eq_some_iff] at e
    obtain ⟨bs, e, rfl⟩ := e
    rw [Option.bind_eq_some_iff] at e
    obtain ⟨us, e1, e2⟩ := e
    obtain ⟨v, rfl, y0⟩ := rws_one x
    rw [bl_rw y0]
    obtain ⟨p, vs, rfl, q1, q2⟩ := items_ok r ra e1
    show need (lstAt H p) _
    rw [q1]
    show need (bolsOf vs) _
    rw [bolW_ok q2 e2]
    exact here_k r rw_int k
  · cases e
theorem q_count (ho : QE X Z o f) (ha : QA X Z [e] fa) (hbase : attributeBase o "count" X.env (eval o X.env) = eval o X.env := by rfl)
    (hfew : ((backTo cpos (starEach [e] X.env)).all (fun x => !x.1) && (backToKw cpos (keywordEach [] X.env)).all (fun x => x.1.isSome)
      && decide (([e] : List Expr).length + ([] : List Keyword).length + (if ([] : List Keyword).isEmpty then 0 else 1) < 30)) = true := by rfl)
    (hline : (apos.endLine == cpos.line) = true := by rfl) (hs : starEach [e] X.env = (false, eval e X.env) :: starEach [] X.env := by rfl) (hplain : (backTo cpos (starEach [] X.env)).any (·.1) = false := by rfl) :
    QE X Z (.Call (.Attribute o "count" apos) [e] [] cpos) (xBmL countM f fa) :=
  ⟨(pe_bm PySem.F.plainAttrs_list PySem.F.slot_list_count PySem.F.type_list_count mt_countB ho.pe ha.pa hbase hfew hline hs hplain).imp fun σ H Q q => bmL_ok countM_ok q⟩
/-! slices of tuples -/
def slTM (_ : Mem) (a : W) (lo hi : Option Int) : Option W := match a with
  | .tup ws => bif (decide (HT.sIx ws.length 0 lo = 0) && decide (HT.sIx ws.length ws.length hi = ws.length)) then none else some (.tup (cutW ws lo hi))
  | _ => none
end
/-- the body's own run, exceptions too -/
def selfX (n m : Nat) (B : Sm) : Fm := fun ws h => bif decide (ws.length = n) then (match runB m B ws h with
  | .ok w h' => bif decide (h.length ≤ h'.length) then .ok w h' else .no
  | .ex w h' => bif decide (h.length ≤ h'.length) then .ex w h' else .no
  | .no => .no) else .no
theorem selfX_told {n m : Nat} {B : Sm} : Told n m B (selfX n m B) := fun ws h wf lt => by
  unfold selfX
  cases hz : decide (ws.length = n) with
  | false => exact .inl rfl
  | true =>
    dsimp only [cond_true]
    cases e : runB m B ws h with
    | no => exact .inl rfl
    | ok w h' =>
      dsimp only
      cases hl : decide (h.length ≤ h'.length) with
      | false => exact .inl rfl
      | true => exact .inr ⟨of_decide_eq_true hz, fits_ok (of_decide_eq_true hl)⟩
    | ex w h' =>
      dsimp only
      cases hl : decide (h.length ≤ h'.length) with
      | false => exact .inl rfl
      | true => exact .inr ⟨of_decide_eq_true hz, fits_ex (of_decide_eq_true hl)⟩
theorem selfX_ok {n m : Nat} {B : Sm} {ws : List W} {h h' : Mem} {w : W} (hl : ws.length = n) (e : runB m B ws h = .ok w h') (hk : h.length ≤ h'.length) : selfX n m B ws h = .ok w h' := by
  unfold selfX
  rw [decide_eq_true hl, e]
  simp [hk]
theorem selfX_exc {n m : Nat} {B : Sm} {ws : List W} {h h' : Mem} {w : W} (hl : ws.length = n) (e : runB m B ws h = .ex w h') (hk : h.length ≤ h'.length) : selfX n m B ws h = .ex w h' := by
  unfold selfX
  rw [decide_eq_true hl, e]
  simp [hk]
end M

set_option Elab.async false
set_option linter.all false
set_option maxRecDepth 100000
set_option maxHeartbeats 1000000
namespace M
open PySem PySem.Spec PyProof.Rows L2
/-! ## NA: pop(0), a list times a number, equal sequences -/
section
variable {T : CTb}
end
section
variable {X : Cx} {Z : Zc} {f g : Ex} {fa : Exs} {o e a b : Expr} {apos cpos pos : Pos}
end
section
variable {X : Cx} {Z : Zc} {g : Ex} {fa : Exs} {es : List Expr} {b : Expr} {pos pos' : Pos}
end
theorem eqM_flat {h : Mem} {n : Nat} {w : W} (f : flatW w = true) (e : eqFl w w = true) : eqM h n w w = some true := by
  cases n <;> simp [eqM, f, e]
theorem allM_self {f : W → W → Option Bool} : ∀ {ws : List W}, (∀ w ∈ ws, f w w = some true) → allM f ws ws = some true
  | [], _ => rfl
  | w :: r, h => by
    unfold allM
    rw [h w List.mem_cons_self, allM_self fun u m => h u (List.mem_cons_of_mem _ m)]
    rfl
theorem eqFl_self : ∀ {w : W}, flatW w = true → eqFl w w = true := by
  intro w h
  cases w <;> simp_all [flatW, eqFl]
/-- two equal tuples (lists) of flat things -/
theorem eqM_tup {h : Mem} {n : Nat} {ws : List W} (hf : ∀ w ∈ ws, flatW w = true) : eqM h (n + 1) (.tup ws) (.tup ws) = some true := by
  have : allM (eqM h n) ws ws = some true := allM_self fun w m => eqM_flat (hf w m) (eqFl_self (hf w m))
  simp [eqM, flatW, sq, this]
theorem eqM_tl {h : Mem} {n : Nat} {ws : List W} (hf : ∀ w ∈ ws, flatW w = true) : eqM h (n + 1) (.tl ws) (.tl ws) = some true := by
  have : allM (eqM h n) ws ws = some true := allM_self fun w m => eqM_flat (hf w m) (eqFl_self (hf w m))
  simp [eqM, flatW, sq, items, this]
end M

set_option Elab.async false
set_option linter.all false
set_option maxRecDepth 100000
set_option maxHeartbeats 1000000
namespace M
open PySem PySem.Spec PyProof.Rows L2
/-! ## NB: list(..) that is written to later; a def without changes -/
section
variable {X : Cx} {Z : Zc} {fa : Exs} {x : Str} {e : Expr} {es : List Expr} {p pos : Pos}
end
instance puf_self {n m : Nat} {f : Ex} [hf : Pu f] : PuF (selfF n m (xRet f)) := ⟨fun ws h w h' e => by
  unfold selfF runB xRet at e
  by_cases hl : ws.length = n
  · rw [if_pos hl] at e
    cases e2 : f (startW m ws) h with
    | no => rw [e2] at e; simp [Out.res] at e
    | ex w1 h1 => rw [e2] at e; simp [Out.res] at e
    | ok w1 h1 =>
      have := hf.pu _ _ _ _ e2
      subst this
      rw [e2] at e
      simp [Out.res] at e
      exact e.2.symm
  · rw [if_neg hl] at e; cases e⟩
end M

set_option Elab.async false
set_option linter.all false
set_option maxRecDepth 100000
set_option maxHeartbeats 1000000
namespace M
open PySem PySem.Spec PyProof.Rows L2
/-! ## NC: count and index of a list of texts -/
theorem strsAre_of : ∀ {ts : List Str} {us : List Value}, Vals (ts.map V.str) us → StrsAre us ts
  | [], us, h => by cases h; exact .nil
  | t :: ts, us, h => by
    cases h with
    | cons r h =>
      obtain ⟨tk, rfl⟩ := r
      exact .cons _ _ (strsAre_of h)
theorem isStr_at (k : Str) : ∀ {vs : List Value} {ns : List Str}, StrsAre vs ns → ∀ (j : Nat) (h1 : j < vs.length) (h2 : j < ns.length), isStrOf k vs[j] = (ns[j] == k)
  | _, _, .cons n t _, 0, _, _ => rfl
  | _, _, .cons n t r, j + 1, h1, h2 => isStr_at k r j (Nat.lt_of_succ_lt_succ h1) (Nat.lt_of_succ_lt_succ h2)
theorem strs_length : ∀ {vs : List Value} {ns : List Str}, StrsAre vs ns → vs.length = ns.length
  | _, _, .nil => rfl
  | _, _, .cons n t r => by simp [strs_length r]
theorem ne_of_lt_idx {k : Str} : ∀ {ns : List Str} {j : Nat}, j < ns.idxOf k → ∀ (h2 : j < ns.length), (ns[j] == k) = false
  | n :: r, 0, h, _ => by
    by_cases e : n = k
    · subst e; simp at h
    · simpa using e
  | n :: r, j + 1, h, h2 => by
    by_cases e : n = k
    · subst e; simp at h
    · have hb : (n == k) = false := by simpa using e
      have h' : j < r.idxOf k := by
        rw [List.idxOf_cons, hb] at h
        exact Nat.lt_of_succ_lt_succ h
      exact ne_of_lt_idx h' (Nat.lt_of_succ_lt_succ h2)
def rIndexS : V → List V → Hp → VK → Prop := fun x vs H Q => match x, vs with
  | .ref p, [.str k] => need (lstAt H p) fun xs => need (strsOf xs) fun bs => k ∈ bs ∧ bs.length ≤ sizeLine ∧ Q (.int (bs.idxOf k : Nat)) H
  | _, _ => False
section
variable {X : Cx}
theorem mt_indexS : MtM X "list.index" rIndexS := by
  intro pins s σ H x vs v us Q I rx rv h
  unfold rIndexS at h
  split at h
  · rename_i p k
    obtain ⟨xs, e1, h⟩ := need_ex h
    obtain ⟨bs, e2, hk, hz, q⟩ := need_ex h
    cases rx
    obtain ⟨u, rfl, ru⟩ := rv.one
    obtain ⟨tk, rfl⟩ := ru
    obtain ⟨its, r, pl, z⟩ := I.list (lstAt_sq (K := X.K) e1)
    rw [strsOf_eq e2] at r
    have hi := strsAre_of r
    obtain ⟨⟨cls, dd, data, sl⟩, ho, hc, n, hd⟩ := pl.isList
    simp only at hc hd
    subst hc hd
    have hlen := strs_length hi
    have hj : bs.idxOf k < bs.length := List.idxOf_lt_length_iff.mpr hk
    rw [sizeLine_eq] at hz
    refine call_meets PySem.F.slot_list_index ⟨_, ho, rfl⟩ PySem.F.entry_list_index (PySem.F.args_list_index_2 _ _)
      (PySem.SeqAt.list_indexAt p its.toArray n dd sl (.str k tk) (isStrOf k) (bs.idxOf k) (by simpa [hlen] using hj) (by omega) ?_ ?_) ⟨ho, fun y hy => (eq_isStrOf k tk hi y (by simpa using hy)).at _ _, ⟨.int _, H, I.tok _, ⟨_, rfl⟩, q⟩⟩
    · show isStrOf k its[bs.idxOf k] = true
      rw [isStr_at k hi _ (by omega) hj]
      simpa using List.getElem_idxOf hj
    · intro j hjs hlt
      show isStrOf k its[j] = false
      rw [isStr_at k hi j (by simpa using hjs) (by omega)]
      exact ne_of_lt_idx hlt _
  · exact h.elim
end
def countSM (h : Mem) (a : W) (ws : List W) : Option W := match ws with
  | [.str k] => ((items h a).bind strW).map fun bs => .int (bs.count k : Nat)
  | _ => none
def indexSM (h : Mem) (a : W) (ws : List W) : Option W := match ws with
  | [.str k] => ((items h a).bind strW).bind fun bs => if k ∈ bs ∧ bs.length ≤ sizeLine then some (.int (bs.idxOf k : Nat)) else none
  | _ => none
section
variable {X : Cx} {Z : Zc} {f : Ex} {fa : Exs} {o e : Expr} {apos cpos : Pos} {T : CTb}
theorem indexSM_ok : BmW T indexSM rIndexS := by
  intro φ h H a u ws vs w Q r ra x e k
  unfold indexSM at e
  split at e
  · rename_i b
    rw [Option.bind_eq_some_iff] at e
    obtain ⟨bs, e, e3⟩ := e
    rw [Option.bind_eq_some_iff] at e
    obtain ⟨us, e1, e2⟩ := e
    split at e3
    · rename_i hh
      cases e3
      obtain ⟨v, rfl, y0⟩ := rws_one x
      rw [str_rw y0]
      obtain ⟨p, vs, rfl, q1, q2⟩ := items_ok r ra e1
      show need (lstAt H p) _
      rw [q1]
      show need (strsOf vs) _
      rw [strW_ok q2 e2]
      exact ⟨hh.1, hh.2, here_k r rw_int k⟩
    · cases e3
  · cases e
theorem q_indexS (ho : QE X Z o f) (ha : QA X Z [e] fa) (hbase : attributeBase o "index" X.env (eval o X.env) = eval o X.env := by rfl)
    (hfew : ((backTo cpos (starEach [e] X.env)).all (fun x => !x.1) && (backToKw cpos (keywordEach [] X.env)).all (fun x => x.1.isSome)
      && decide (([e] : List Expr).length + ([] : List Keyword).length + (if ([] : List Keyword).isEmpty then 0 else 1) < 30)) = true := by rfl)
    (hline : (apos.endLine == cpos.line) = true := by rfl) (hs : starEach [e] X.env = (false, eval e X.env) :: starEach [] X.env := by rfl) (hplain : (backTo cpos (starEach [] X.env)).any (·.1) = false := by rfl) :
    QE X Z (.Call (.Attribute o "index" apos) [e] [] cpos) (xBmL indexSM f fa) :=
  ⟨(pe_bm PySem.F.plainAttrs_list PySem.F.slot_list_index PySem.F.type_list_index mt_indexS ho.pe ha.pa hbase hfew hline hs hplain).imp fun σ H Q q => bmL_ok indexSM_ok q⟩
instance pu_bml {o' : Mem → W → List W → Option W} {f : Ex} {g : Exs} [hf : Pu f] [hg : PuS g] : Pu (xBmL o' f g) := ⟨fun ρ h w h' e => by
  unfold xBmL at e
  cases e1 : f ρ h with
  | ok a h1 =>
    have := hf.pu _ _ _ _ e1; subst this
    rw [e1] at e
    dsimp only [Res.bind] at e
    cases e2 : items h1 a with
    | none => rw [e2] at e; cases e
    | some us =>
      rw [e2] at e
      dsimp only at e
      cases e3 : g ρ h1 with
      | ok ws h2 =>
        have := hg.pu _ _ _ _ e3; subst this
        rw [e3] at e
        dsimp only at e
        unfold Res.of at e
        split at e
        · cases e; rfl
        · cases e
      | ex w h2 => rw [e3] at e; cases e
      | no => rw [e3] at e; cases e
  | ex w h2 => rw [e1] at e; cases e
  | no => rw [e1] at e; cases e⟩
end
end M

set_option Elab.async false
set_option linter.all false
set_option maxRecDepth 100000
set_option maxHeartbeats 1000000
namespace M
open PySem PySem.Spec PyProof.Rows L2
/-! ## ND: exceptions whose class has an __init__ of its own -/
/-- the class at C is an exception's, below ValueError, as the text has it -/
def excI (K : PySem.W.Frag) (C : Addr) : Bool := match K.lookup C with
  | some ⟨.type "type", _, .cls cd, sl⟩ => (match cd.mro, sl.toList with
    | .ref C' :: bm, [_, _, _, _, some (.builtin n), _] => C' == C && (n == "ValueError.__new__" && (!cd.hasDel && PySem.W.tailIn K bmV bm))
    | _, _ => false)
  | _ => false
theorem excI_of {K : PySem.W.Frag} {h : Heap} {C : Addr} (X : K.In h) (q : excI K C = true) : ∃ bm N nm qn bs hd sn sub ab col dd k0 k1 k2 k3 k5, h.get? C = some (excClassObj nm qn C N bs bm hd sn sub ab col dd k0 k1 k2 k3 k5 "ValueError.__new__") ∧ OwnTail h bmV bm := by
  unfold excI at q
  split at q
  · rename_i dd cd sl ho
    split at q
    · rename_i C' bm k0 k1 k2 k3 n k5 hm hs
      simp only [Bool.and_eq_true, beq_iff_eq, Bool.not_eq_true'] at q
      obtain ⟨rfl, rfl, hdel, ht⟩ := q
      obtain ⟨nm, bs, mro, ns, qn, hd, sn, sub, ab, col, del⟩ := cd
      dsimp only at hm hdel
      subst hm hdel
      obtain ⟨l⟩ := sl
      dsimp only at hs
      subst hs
      exact ⟨bm, ns, nm, qn, bs, hd, sn, sub, ab, col, dd, k0, k1, k2, k3, k5, X _ _ ho, PySem.W.tail_of_in X ht⟩
    · cases q
  · cases q
abbrev newTup (us : List Value) : Obj := { cls := .type "tuple", data := .seq us.toArray }
abbrev newExc (C t : Addr) (d : Option Addr) : Obj := { cls := .ref C, dict := d, data := .fields #[.ref t, .none, .none, .none, .bool false, .none] }
section
variable {prog : Program} {w : World} {A : Around} {K : PySem.W.Frag} {C f : Addr} {R : Result → Shared → Prop} {h : Heap} {g : Array GenState} {d : Drawn} {t : Nat} {os : OsState}
theorem call_excI {rest : List Value} (X : K.In h) (q : excI K C = true) (hi : PySem.W.findIn K (.ref C) "__init__" = some (some (.ref f))) (hf : PySem.W.typeIn K (.ref f) = some (.type "function")) (hrest : rest.length ≤ sizeLine)
    (hq : codeAny (model prog w) (A.under (.builtin "type.__call__" ⟨.ref C :: rest, []⟩)) (.call (.ref f) ⟨.ref (h.objs.size + 1) :: rest, []⟩) (PySem.W.InitBack (h.objs.size + 1) R) ⟨(h.push (newTup rest)).push (newExc C h.objs.size none), g, d, t, os⟩) :
    codeAny (model prog w) A (.call (.ref C) ⟨rest, []⟩) R ⟨h, g, d, t, os⟩ := by
  obtain ⟨bm, N, nm, qn, bs, hd, sn, sub, ab, col, dd, k0, k1, k2, k3, k5, hC, T⟩ := excI_of X q
  have F := PySem.F.excBase_ValueError
  have f1 := tc_lookup
  have f2 := tc_bind (.ref C)
  have hT : (⟨h, g, d, t, os⟩ : Shared).TypeIs (.ref C) "type" := ⟨_, hC, rfl⟩
  refine codeAny_of_tree ?_
  show wpAny _ _ (callAny (.ref C) _) _ _ _
  repeat (any_goals (first | assumption | with_reducible refine wpAny_loadPart_at hC ?_ | wp_step))
  refine ⟨rfl, ?_⟩
  refine codeAny_call_builtin_at (Code.quiet_builtin _ (by decide +kernel)) entry_typeCall (wpAny_check_type_call_sub hC ?_)
  repeat (first | with_reducible refine wpAny_loadPart_at hC ?_ | with_reducible refine wpAny_madeBy_exc hC ?_ | wp_step)
  refine codeAny_call_builtin_code (Code.quiet_builtin _ F.quiet) (wpAny_check_new_subT F T hC ?_)
  refine codeAny_exc_new_subT F T hC ?_ hrest
  show wpAny _ _ _ _ _ ⟨(h.push (newTup rest)).push (newExc C h.objs.size none), g, d, t, os⟩
  have k : ∀ b o, h.get? b = some o → ((h.push (newTup rest)).push (newExc C h.objs.size none)).get? b = some o := fun b o e => Heap.get?_push_of_some _ (Heap.get?_push_of_some _ e)
  have hC₁ := k _ _ hC
  have hget : ((h.push (newTup rest)).push (newExc C h.objs.size none)).get? (h.objs.size + 1) = some { cls := .ref C, dict := none, data := .fields #[.ref h.objs.size, .none, .none, .none, .bool false, .none] } := by heap_get
  have hcC : (Value.ref C :: bm).contains (.ref C) = true := by simp
  unfold isInstance
  repeat (first | with_reducible refine wpAny_loadPart_at hget ?_ | (refine wpAny_isSubtype_exc hC₁ ?_; rw [hcC]) | wp_step)
  show wpAny _ _ (typeLookup (.ref C) _) _ _ _
  refine ((PySem.W.looks_findIn X hi).keeps k).at ?_
  refine wpAny_holding (wpAny_bind (((PySem.W.bind_fn X _ hf).keeps k).at ?_))
  refine wpAny_bind (wpAny_call (codeAny_mono hq fun r s' z => ?_))
  rcases r with e | (v | _ | _ | _) <;> first | exact z | exact z.elim | skip
  obtain ⟨rfl, z⟩ := z
  exact wpAny_pure (wpAny_pure z)
end
section
variable {M : Model} {A : Around} {E : Value → Shared → Prop} {C : Addr} {env : Env} {nm q : Str} {N : Addr} {bs bm : List Value} {hdct : Bool} {sn : List Str} {sub : List Value} {ab : Bool} {col : Option Bool} {dd : Option Addr} {k0 k1 k2 k3 k5 : Option Value} {newId : String}
theorem raise_made {s : Shared} {x : Sem Value} {Q : Flow → Shared → Prop} (hbase : bm.contains (.type "BaseException") = true) (hh : A.handled = none)
    (h : wpAny M A x (fun v s₁ => ∃ e t d, v = .ref e ∧ s₁.heap.get? C = some (excClassObj nm q C N bs bm hdct sn sub ab col dd k0 k1 k2 k3 k5 newId) ∧
      s₁.heap.get? e = some { cls := .ref C, dict := d, data := .fields #[.ref t, .none, .none, .none, .bool false, .none] } ∧ E (.ref e) s₁) E s) :
    wpAny M A (raiseStmt env (some x) none) Q E s := by
  have hcB : (Value.ref C :: bm).contains (.type "BaseException") = true := by rw [List.contains_cons, hbase, Bool.or_true]
  unfold raiseStmt
  refine wpAny_bind (wpAny_mono h (fun v s₁ h₁ => ?_) fun _ _ x => x)
  obtain ⟨e, t, d, rfl, hC, he, hE⟩ := h₁
  obtain ⟨hp, g, dr, tk, os⟩ := s₁
  repeat (first | with_reducible refine wpAny_loadPart_at he ?_ | with_reducible refine wpAny_loadPart_at hC ?_ | (with_reducible refine wpAny_isSubtype_exc hC ?_; rw [hcB]) | wp_step)
  exact wpAny_raiseNew_none hh hE
end
section
variable {prog : Program} {w : World} {A : Around} {E : Value → Shared → Prop} {K : PySem.W.Frag} {C e t0 : Addr} {h : Heap} {g : Array GenState} {d : Drawn} {t : Nat} {os : OsState}
/-- ValueError.__init__ of a new one: what was handed in is laid anew -/
theorem init_base {us : List Value} {Q : Value → Shared → Prop} (X : K.In h) (q : excI K C = true) (he : h.get? e = some (newExc C t0 none)) (hus : us.length ≤ sizeLine)
    (hq : ∀ h' t', h'.get? e = some (newExc C t' none) → (∀ b o, b ≠ e → h.get? b = some o → h'.get? b = some o) → Q .none ⟨h', g, d, t, os⟩) :
    wpAny (model prog w) A (call (.builtin "ValueError.__init__") (.ref e :: us)) Q E ⟨h, g, d, t, os⟩ := by
  obtain ⟨bm, N, nm, qn, bs, hd, sn, sub, ab, col, dd, k0, k1, k2, k3, k5, hC, T⟩ := excI_of X q
  have F := PySem.F.excBase_ValueError
  have he : h.get? e = some { cls := .ref C, dict := none, data := .fields #[.ref t0, .none, .none, .none, .bool false, .none] } := he
  have lt : e < h.objs.size := Heap.lt_size he
  refine wpAny_call (codeAny_call_builtin F.init.plain F.initEntry (wpAny_check_init_subT F T hC he rfl ?_))
  wp_walk
  refine hq _ h.objs.size ?_ fun b o nb hb => ?_
  · rw [Heap.get?_update_self _ (Heap.get?_push_of_some _ he) rfl]
    rfl
  · rw [Heap.get?_update_other _ _ (Ne.symm nb)]
    exact Heap.get?_push_of_some _ hb
end
end M

set_option Elab.async false
set_option linter.all false
set_option maxRecDepth 100000
set_option maxHeartbeats 1000000
namespace M
open PySem PySem.Spec PyProof.Rows L2 PySem.Builtin.ObjectAttr
/-! ## NE: a field of an exception -/
def exOnly : List Value → Bool
  | .ref _ :: r => exOnly r
  | l => l == bmV
theorem exOnly_cases : ∀ {l : List Value}, exOnly l = true → l = bmV ∨ ∃ c r, l = .ref c :: r ∧ exOnly r = true
  | [], e => by cases (beq_iff_eq.mp (show (([] : List Value) == bmV) = true from e))
  | v :: r, e => by
    by_cases hv : ∃ c, v = .ref c
    · obtain ⟨c, rfl⟩ := hv
      exact .inr ⟨c, r, rfl, by unfold exOnly at e; exact e⟩
    · have e' : (v :: r == bmV) = true := by
        cases v <;> first | (unfold exOnly at e; exact e) | exact absurd ⟨_, rfl⟩ hv
      exact .inl (beq_iff_eq.mp e')
theorem refuse_ex (self : Value) : ∀ (n : Nat) {l : List Value}, l.length ≤ n → exOnly l = true → refuseLoop self "__setattr__" l = pure ()
  | n, l, hn, e => by
    rcases exOnly_cases e with rfl | ⟨c, r, rfl, e'⟩
    · exact PySem.F.store_ValueError.passes self
    · rw [refuseLoop_ref]
      cases n with
      | zero => simp at hn
      | succ n => exact refuse_ex self n (by simpa using hn) e'
theorem ex_has : ∀ {l : List Value}, exOnly l = true → l.contains (.type "object") = true
  | .ref c :: r, e => by rw [List.contains_cons, ex_has (l := r) (by unfold exOnly at e; exact e), Bool.or_true]
  | [], e => by cases (beq_iff_eq.mp (show (([] : List Value) == bmV) = true from e))
  | v :: r, e => by
    by_cases hv : ∃ c, v = .ref c
    · obtain ⟨c, rfl⟩ := hv
      rw [List.contains_cons, ex_has (l := r) (by unfold exOnly at e; exact e), Bool.or_true]
    · have e' : (v :: r == bmV) = true := by
        cases v <;> first | (unfold exOnly at e; exact e) | exact absurd ⟨_, rfl⟩ hv
      rw [beq_iff_eq.mp e']; rfl
def exOver (K : PySem.W.Frag) (C : Addr) : Bool := (PySem.W.clsIn K C).any fun cd => exOnly cd.mro
section
variable {prog : Program} {w : World} {A : Around} {E : Value → Shared → Prop} {K : PySem.W.Frag} {C e t0 : Addr} {s : Shared} {name : Str} {v : Value}
theorem set_exc {Q : Unit → Shared → Prop} (X : K.In s.heap) (he : s.heap.get? e = some (newExc C t0 none)) (hs : PySem.W.findIn K (.ref C) "__setattr__" = some (some (.builtin "object.__setattr__"))) (hp : exOver K C = true)
    (ht : PySem.W.takerIn K C name = some none) (hh : PySem.W.hasDictIn K C = true)
    (hq : ∀ h' tk', h'.get? e = some (newExc C t0 (some s.heap.objs.size)) → h'.Ns1 s.heap.objs.size (fun y => if y = name then some v else none) → (∀ b o, b ≠ e → s.heap.get? b = some o → h'.get? b = some o) → Q () { s with heap := h', toks := tk' }) :
    wpAny (model prog w) A (setAttr (.ref e) name v) Q E s := by
  have J : PySem.W.InstAt s.heap e (newExc C t0 none) C none := ⟨he, rfl, rfl, trivial⟩
  refine PySem.W.set_plain X J hs ?_
  obtain ⟨hp0, g, d, t, os⟩ := s
  have SF := PySem.F.store_object
  obtain ⟨cd, hc, ho⟩ := PySem.W.any_some hp
  have ne : cd.mro.isEmpty = false := by cases q : cd.mro with | nil => rw [q] at ho; cases ho | cons _ _ => rfl
  have sub : PySem.W.Looks (model prog w) hp0 (isInstance (.ref e) (.type "object")) true := J.type.andThen (PySem.W.looks_mroIn X (by unfold PySem.W.mroIn; rw [hc, Option.bind_some, if_neg (by rw [ne]; decide), ex_has ho]))
  refine codeAny_call_builtin SF.slot.plain SF.entry (@PySem.W.check_slot (model prog w) _ _ ⟨hp0, g, d, t + 1, os⟩ "object.__setattr__" "object" "__setattr__" (.ref e) [.str name t, v] [] _ SF.kind SF.split sub (SF.args (.ref e) (.str name t) v) ?_)
  obtain ⟨attr, ha, hr⟩ := Option.bind_eq_some_iff.mp ht
  have hm : PySem.W.Looks (model prog w) hp0 (mroOf (.ref C)) cd.mro := (PySem.W.looks_clsIn X hc).andThen .now
  have L3 : PySem.W.Looks (model prog w) hp0 (storeTaker? attr) none := by
    cases attr with
    | none => exact .now
    | some a =>
      obtain ⟨b, hb, hz⟩ := Option.map_eq_some_iff.mp hr
      refine (PySem.W.looks_takesIn X hb).andThen ?_
      cases b
      · exact .now
      · cases hz
  rw [PySem.W.osa_eq, refuse_eq]
  refine wpAny_bind (wpAny_bind (J.type.at (wpAny_bind (hm.at ?_))))
  rw [refuse_ex _ _ (Nat.le_refl _) ho]
  refine wpAny_pure (wpAny_bind (J.type.at (wpAny_bind ((PySem.W.looks_findIn X ha).at (wpAny_bind (L3.at ?_))))))
  obtain ⟨cd', hc', hd'⟩ := PySem.W.any_some hh
  show wpAny _ _ (storeInOwnDict (.ref e) (.ref C) (.str name t) name v _) _ _ _
  unfold storeInOwnDict ownDictForStores instanceDict
  have he : hp0.get? e = some { cls := .ref C, dict := none, data := .fields #[.ref t0, .none, .none, .none, .bool false, .none] } := he
  refine wpAny_bind (wpAny_pure (wpAny_bind (wpAny_bind (wpAny_loadPart_at he (wpAny_bind ((PySem.W.looks_clsIn X hc').at ?_))))))
  rw [hd']
  show wpAny _ _ (if (!true || !typeHasDict (.ref C)) = true then pure none else do
      let d ← alloc { cls := .type "dict", data := .dict #[] }
      update e fun o => { cls := o.cls, dict := some d, data := o.data, slots := o.slots }
      dictMade (.ref C) e d) _ _ _
  rw [if_neg (by simp [typeHasDict])]
  have hx1 : (hp0.push { cls := .type "dict", data := .dict #[] }).get? e = some { cls := .ref C, dict := none, data := .fields #[.ref t0, .none, .none, .none, .bool false, .none] } := Heap.get?_push_of_some _ he
  have hxs : e ≠ hp0.objs.size := Nat.ne_of_lt (Heap.lt_size he)
  refine wpAny_bind (wpAny_alloc' (wpAny_bind (wpAny_update' hx1 (wpAny_pure ?_))))
  have hgd : ((hp0.push { cls := .type "dict", data := .dict #[] }).update e fun o => { cls := o.cls, dict := some hp0.objs.size, data := o.data, slots := o.slots }).get? hp0.objs.size
      = some { cls := .type "dict", data := .dict #[] } :=
    (Heap.get?_update_ne _ _ _ _ hxs.symm).trans (Heap.get?_push_at rfl rfl)
  have hnd : ((hp0.push { cls := .type "dict", data := .dict #[] }).update e fun o => { cls := o.cls, dict := some hp0.objs.size, data := o.data, slots := o.slots }).Ns hp0.objs.size (fun _ => none) :=
    ⟨_, #[], _, hgd, rfl, fun e he => absurd he (by simp), fun _ => rfl⟩
  show wpAny _ _ (storeInDict hp0.objs.size (.str name t) name v) _ _ _
  unfold storeInDict newKeyGuard
  refine wpAny_bind (wpAny_pure (wpAny_bind (wpAny_nsSet1 (Heap.Ns1.of_empty hnd) fun h' hn' hs => ?_)))
  obtain ⟨oD, esD, epD, hoD, hdD, hcD⟩ := hn'.count (PySem.Within.cons name v PySem.Within.nil)
  refine wpAny_bind (wpAny_lookBehind hoD (by rw [hdD]; exact pastItsLine_dict (Nat.le_trans hcD (by rw [List.length_cons, List.length_nil, sizeLine_eq]; omega))) ?_)
  refine wpAny_pure ?_
  refine hq h' _ ?_ hn' fun b ob hbx hb => ?_
  · exact (hs.2 e hxs).trans (Heap.get?_update_self _ hx1 rfl)
  · exact (hs.2 b (Nat.ne_of_lt (Heap.lt_size hb))).trans ((Heap.get?_update_ne _ _ _ _ hbx).trans (Heap.get?_push_of_some _ hb))
end
end M

set_option Elab.async false
set_option linter.all false
set_option maxRecDepth 100000
set_option maxHeartbeats 1000000
namespace M
open PySem PySem.Spec PyProof.Rows L2
/-! ## NF: raise C(x) where C has an __init__ of its own -/
def XNew (e C : Addr) (d : Option Addr) (h : Heap) : Prop := ∃ t, h.get? e = some (newExc C t d)
theorem xnew_stable {e C : Addr} {d : Option Addr} : ∀ h1 h2 : Heap, XNew e C d h1 → (∀ o, h1.get? e = some o → h2.get? e = some o) → XNew e C d h2 := fun _ _ ⟨t, he⟩ k => ⟨t, k _ he⟩
theorem upd_self {H : Hp} {e : Addr} {o : HO} (h : H e = some o) : upd H e o = H := by
  funext b; unfold upd; split
  · rename_i z; subst z; exact h.symm
  · rfl
section
variable {X : Cx} {pins : List (Addr × Obj)} {σ : St} {H : Hp} {s : Shared} {e : Addr}
/-- what is tracked as an outer thing may be forgotten -/
theorem untrack {φ : Heap → Prop} (I : Inv X pins σ (upd H e (.ext φ)) s) (he : H e = none) : Inv X pins σ H s := by
  have nn : ∀ b, upd H e (.ext φ) b = none → H b = none := fun b q => by
    by_cases z : b = e
    · subst z; exact he
    · rwa [upd_ne z] at q
  have oo : ∀ b u, upd H e (.ext φ) b = some u → u ≠ .ext φ → H b = some u := fun b u q n => by
    by_cases z : b = e
    · subst z; rw [upd_same] at q; cases q; exact absurd rfl n
    · rwa [upd_ne z] at q
  refine ⟨I.ok, I.os, I.bare, ⟨I.base.keep, I.base.slot, fun b ob q n hx => nn b (I.base.free b ob q n hx), I.base.there, fun b xs q => oo b _ (I.base.tups b xs q) (by simp), fun b ob xs q => oo b _ (I.base.frzs b ob xs q) (by simp), fun b ps q => ?_⟩, I.loc, I.cell, nn _ I.free, fun x c q => nn _ (I.freeC x c q), fun p hp => ?_, fun b u q => ?_, I.len⟩
  · obtain ⟨more, this⟩ := I.base.tbls b ps q
    exact ⟨more, oo b _ this (by simp)⟩
  · obtain ⟨e1, n, ne', nf, d⟩ := I.pin p hp
    exact ⟨e1, nn _ n, ne', nf, d⟩
  · have q' : upd H e (.ext φ) b = some u := by rw [upd_ne (ne_of_none q he)]; exact q
    exact (I.hok b u q').stay (fun c v _ r => r) (fun c r => oo c _ r (by simp)) fun c xs r => oo c _ r (by simp)
end
/-- what such a class must have -/
structure IniOk (K : PySem.W.Frag) (C : Addr) (F : Str) : Prop where
  ei : excI K C = true
  sa : PySem.W.findIn K (.ref C) "__setattr__" = some (some (.builtin "object.__setattr__"))
  ov : exOver K C = true
  tk : PySem.W.takerIn K C F = some none
  hd : PySem.W.hasDictIn K C = true
/-- the class above it, by whose __init__ it is begun -/
structure BaseOk (K : PySem.W.Frag) (D : Addr) : Prop where
  ex : ∃ mc, PySem.W.specialIn K (.ref D) "__getattribute__" = some (some (.builtin "type.__getattribute__")) ∧ PySem.W.readsIn K D mc = true ∧ PySem.W.findCls K (.ref D) mc "__init__" = some (.val (.builtin "ValueError.__init__"))
def tIni (C : Addr) (t : TA) : TE := fun σ H Q => t σ H fun vs H1 => ∃ e v, vs = [.ref e, v] ∧ H1 e = some (.ext (XNew e C none)) ∧ Q .non H1
def sIni (C : Addr) (F : Str) (ta tv : TE) : TS := fun D σ H => tv σ H fun y H1 => ta σ H1 fun x H2 => ∃ e, x = .ref e ∧ H2 e = some (.ext (XNew e C none)) ∧
  ∀ da, H2 da = none → da ≠ e → D.nx σ (upd (upd H2 e (.ext (XNew e C (some da)))) da (.xd [(F, y)]))
section
variable {X : Cx} {C D : Addr} {F c : Str} {e0 : Expr} {es : List Expr} {t : TA} {ta tv : TE} {o value : Expr} {pos pos' apos p : Pos}
theorem pe_ini {pl : Sem Bool} (hB : BaseOk X.K D) (hq : excI X.K C = true) (hm : X.mg c = some (.ref D)) (hg : Gl X c) (ha : PA X (e0 :: es) t) (hdb : (c == ("__debug__" : Str)) = false := by decide)
    (hst : starEach (e0 :: es) X.env = (false, eval e0 X.env) :: starEach es X.env := by rfl) (hpl : (backTo pos (starEach es X.env)).any (·.1) = false := by rfl)
    (hev : eval (.Call (.Attribute (.Name c p) "__init__" apos) (e0 :: es) [] pos) X.env = (do
      let ov ← eval (.Name c p) X.env
      standAt apos.atName
      let (f, first) ← holding [ov] (getMethod ov "__init__" pl)
      callWith pos f first (backTo pos (starEach (e0 :: es) X.env)) (backToKw pos (keywordEach [] X.env))) := by rfl) : PE X (.Call (.Attribute (.Name c p) "__init__" apos) (e0 :: es) [] pos) (tIni C t) := by
  intro pins s σ H Q I h
  obtain ⟨mc, h1, h2, h3⟩ := hB.ex
  refine PySem.W.methodCall_KW (pl := pl) (ld_glob I hg hm ?_ hdb) hev
  refine PySem.W.method_cls I.kIn h1 (PySem.W.cls_value I.kIn h2 h3 rfl ?_)
  have hA := ha pos pins _ σ H _ (I.tok (s.toks + 1)) h
  rw [hst] at hA ⊢
  refine Calls.callWith_builtin (by show (false || (backTo pos (starEach es X.env)).any (·.1)) = false; rw [hpl] <;> rfl) (Calls.evalArgs_plain ?_)
  refine thn hA fun us s2 ⟨vs, H2, I2, r, e, v, ev, ee, q2⟩ => ?_
  subst ev
  obtain ⟨u1, u2, rfl, r1⟩ : ∃ u1 u2, us = [u1, u2] ∧ RelV (.ref e) u1 := by
    cases r with
    | cons r1 r2 =>
      cases r2 with
      | cons r2 r3 => cases r3; exact ⟨_, _, rfl, r1⟩
  obtain rfl : u1 = Value.ref e := r1
  obtain ⟨⟨t0, he⟩, _, _⟩ := (show ObjOk X.prog X.w H2 s2.heap e (.ext (XNew e C none)) from I2.hok e _ ee)
  obtain ⟨hp, g, d, tk, os⟩ := s2
  refine init_base I2.kIn hq he (by rw [sizeLine_eq]; simp) fun h' t' he' k => ⟨.non, H2, ?_, rfl, q2⟩
  have J := I2.write (x := e) (e := e) (o := .ext (XNew e C none)) (h' := h') (t' := tk) (by rw [ee]; trivial) (.inl rfl) (fun b u nb hb => k b u nb hb) ⟨_, he'⟩ ⟨⟨t', he'⟩, ⟨_, he'⟩, xnew_stable⟩
  rw [upd_self ee] at J
  exact J
theorem ps_ini (hC : IniOk X.K C F) (ha : PE X o ta) (hv : PE X value tv) (hs : swapsWith value (some (.Attribute o F pos')) pos.line X.env = pure false := by rfl) : PS X (.Assign [.Attribute o F pos'] value pos) (sIni C F ta tv) := by
  intro pins s σ H D I h
  refine plainObj_wpAny_Assign_Attribute (thn (hv pins s σ H _ I h) fun u s1 ⟨y, H1, I1, ry, q⟩ => thn (ha pins s1 σ H1 _ I1 q) fun ov s2 ⟨x, H2, I2, rx, e, ex, ee, q2⟩ => ?_) hs
  subst ex
  obtain rfl : ov = Value.ref e := rx
  obtain ⟨⟨t0, he⟩, _, _⟩ := (show ObjOk X.prog X.w H2 s2.heap e (.ext (XNew e C none)) from I2.hok e _ ee)
  refine set_exc I2.kIn he hC.sa hC.ov hC.tk hC.hd fun h' tk' he' hns k => ?_
  have fr : s2.heap.get? s2.heap.objs.size = none := Heap.get?_none_of_le (Nat.le_refl _)
  have nH : H2 s2.heap.objs.size = none := untracked I2.hok fr
  have nE : s2.heap.objs.size ≠ e := Ne.symm (Nat.ne_of_lt (Heap.lt_size he))
  have J := I2.write (x := e) (e := e) (o := .ext (XNew e C (some s2.heap.objs.size))) (h' := h') (t' := tk') (by rw [ee]; trivial) (.inl rfl) (fun b u nb hb => k b u nb hb) ⟨_, he'⟩ ⟨⟨t0, he'⟩, ⟨_, he'⟩, xnew_stable⟩
  have J2 := track (e := s2.heap.objs.size) (ho := .xd [(F, y)]) J (by rw [upd_ne nE]; exact nH) (outs_new I2 fr) ⟨_, hns, fun f => by
    show RelO (List.lookup f [(F, y)]) (if f = F then some u else none)
    by_cases z : f = F
    · subst z; simp only [List.lookup, beq_self_eq_true, if_pos]; exact ry
    · have : (f == F) = false := beq_eq_false_iff_ne.mpr z
      simp only [List.lookup, this, if_neg z]; trivial⟩
  exact ⟨σ, _, J2, q2 _ nH nE⟩
end
/-- the promise of such an __init__ -/
def spI (C : Addr) (F : Str) : Sp := fun vs H Q _ => ∃ e v, vs = [.ref e, v] ∧ H e = some (.ext (XNew e C none)) ∧ ∀ da, H da = none → da ≠ e → Q .non (upd (upd H e (.ext (XNew e C (some da)))) da (.xd [(F, v)]))
section
variable {P : Program} {w : World} {K : PySem.W.Frag} {mg : Str → Option Value} {base : Heap}
theorem ini_ok {x qual a F z : Str} {st : Stmt} {f : Addr} {fd : FuncData} {C : Addr} (R : Fun K x qual st f fd) (S : FnScope ["self", a] ["self", a] (defScope st))
    (hb : ∀ (cdv : Value) (A : Around) (outer : List Env) (s : Shared) (H : Hp) (E : XK), PSs (cxOf CX0 P w K mg base ["self", a] qual (defScope st) f cdv A outer s H E).nox (defBody st)
      (tSeq (tDrop (tIni C (tCons (tVar 0) (tCons (tC (.str z)) tNil)))) (sIni C F (tVar 0) (tVar 1)))) : FnOk P w K mg base CX0 1 f fd ["self", a] (spI C F) := by
  refine R.ok S (fun vs H Q E h => ?_) (fun cdv A outer s H vs Q E hr h => ⟨_, hb cdv A outer s H E, ?_⟩)
  · obtain ⟨e, v, rfl, _⟩ := h
    rfl
  · obtain ⟨e, v, rfl, he, q⟩ := h
    refine ⟨.ref e, rfl, e, .str z, rfl, he, v, rfl, .ref e, rfl, e, rfl, he, q⟩
end
section
variable {prog : Program} {w : World} {A : Around} {E : Value → Shared → Prop} {s : Shared} {env : Env} {C : Addr} {nm q : Str} {N : Addr} {bs bm : List Value} {hdct : Bool} {sn : List Str} {sub : List Value} {ab : Bool} {col : Option Bool} {dd : Option Addr} {k0 k1 k2 k3 k5 : Option Value} {newId : String}
theorem raise_callI {x : Str} {np cpos pos : Pos} {args : List Expr} {Q : Flow → Shared → Prop} (hbase : bm.contains (.type "BaseException") = true) (hh : A.handled = none) (hplain : (backTo cpos (starEach args env)).any (·.1) = false)
    (h : wpAny (model prog w) A (eval (.Name x np) env) (fun f s₁ => f = .ref C ∧ wpAny (model prog w) A (evalArgs (.ref C) true (backTo cpos (starEach args env)) [])
      (fun a s₂ => a.kw = [] ∧ s₂.heap.get? C = some (excClassObj nm q C N bs bm hdct sn sub ab col dd k0 k1 k2 k3 k5 newId) ∧
        wpAny (model prog w) A (call (.ref C) a.pos) (fun v s₃ => ∃ e t d, v = .ref e ∧ s₃.heap.get? C = some (excClassObj nm q C N bs bm hdct sn sub ab col dd k0 k1 k2 k3 k5 newId) ∧ s₃.heap.get? e = some (newExc C t d) ∧ E (.ref e) s₃) E s₂) E s₁) E s) :
    wpAny (model prog w) A (exec (.Raise (some (.Call (.Name x np) args [] cpos)) none pos) env) Q E s := by
  rw [arm_exec_Raise]
  first
    | refine wpAny_bind (wpAny_standAt (raise_made (C := C) (nm := nm) (q := q) (N := N) (bs := bs) (bm := bm) (hdct := hdct) (sn := sn) (sub := sub) (ab := ab) (col := col) (dd := dd) (k0 := k0) (k1 := k1) (k2 := k2) (k3 := k3) (k5 := k5) (newId := newId) hbase hh (wpAny_bind (wpAny_mono (wpAny_Call_ofName (wpAny_mono h (fun f s₁ h₁ => ?_) fun _ _ x => x)) (fun v s₃ h₃ => wpAny_bind (wpAny_standAt (wpAny_pure h₃))) fun _ _ x => x))))
    | (simp only [evalOpt, Option.map]; refine wpAny_bind (wpAny_standAt (raise_made (C := C) (nm := nm) (q := q) (N := N) (bs := bs) (bm := bm) (hdct := hdct) (sn := sn) (sub := sub) (ab := ab) (col := col) (dd := dd) (k0 := k0) (k1 := k1) (k2 := k2) (k3 := k3) (k5 := k5) (newId := newId) hbase hh (wpAny_bind (wpAny_mono (wpAny_Call_ofName (wpAny_mono h (fun f s₁ h₁ => ?_) fun _ _ x => x)) (fun v s₃ h₃ => wpAny_bind (wpAny_standAt (wpAny_pure h₃))) fun _ _ x => x)))))
    | (refine wpAny_bind (wpAny_standAt (raise_made (C := C) (nm := nm) (q := q) (N := N) (bs := bs) (bm := bm) (hdct := hdct) (sn := sn) (sub := sub) (ab := ab) (col := col) (dd := dd) (k0 := k0) (k1 := k1) (k2 := k2) (k3 := k3) (k5 := k5) (newId := newId) hbase hh ?_)); refine wpAny_bind (wpAny_mono (wpAny_Call_ofName (wpAny_mono h (fun f s₁ h₁ => ?_) fun _ _ x => x)) (fun v s₃ h₃ => wpAny_bind (wpAny_standAt (wpAny_pure h₃))) fun _ _ x => x))
  obtain ⟨rfl, h₁⟩ := h₁
  unfold callWith
  refine wpAny_bind (wpAny_holding (wpAny_mono h₁ (fun a s₂ h₂ => wpAny_bind (wpAny_standAt ?_)) fun _ _ x => x))
  obtain ⟨apos, akw⟩ := a
  obtain ⟨hkw, hC, h₂⟩ := h₂
  obtain rfl : akw = [] := hkw
  obtain ⟨hp, g, d, tk, os⟩ := s₂
  simp only [hplain]
  refine wpAny_bind (wpAny_keeperOf_exc hC ?_)
  exact wpAny_bind (wpAny_mono h₂ (fun v s₃ z => wpAny_bind (wpAny_holding (wpAny_point (wpAny_pure z)))) fun _ _ z => z)
end
def RzI (P : Program) (w : World) (K : PySem.W.Frag) (mg : Str → Option Value) (base : Heap) (T : CTb) (k : Nat) (c F : Str) : Prop :=
  ∃ C f fd ps, T.x c = some C ∧ mg c = some (.ref C) ∧ excI K C = true ∧ PySem.W.findIn K (.ref C) "__init__" = some (some (.ref f)) ∧ PySem.W.typeIn K (.ref f) = some (.type "function") ∧ FnOk P w K mg base CX0 k f fd ps (spI C F) ∧ Binds K fd ps []
def xRaiseI (c F : Str) (f : Exs) : Sm := fun ρ h => match f ρ h with
  | .ok [w] h1 => .ex (.exc c [F] [w]) h1
  | .ok _ _ => .no
  | .ex w h1 => .ex w h1
  | .no => .no
section
variable {X : Cx} {Z : Zc} {fa : Exs} {c F : Str} {np cpos pos : Pos} {e : Expr} {es : List Expr} {kk j : Nat}
theorem qs_raiseI (Rz : RzI X.prog X.w X.K X.mg X.base Z.T kk c F) (hr : Room j X.A) (hkj : kk + 1 ≤ j) (hx : XOk X Z) (hg : Gl X c) (ha : QA X Z (e :: es) fa) (hdb : (c == ("__debug__" : Str)) = false := by decide) (he : starEach (e :: es) X.env = (false, eval e X.env) :: starEach es X.env := by rfl)
    (hpl : (backTo cpos (starEach es X.env)).any (·.1) = false := by rfl) (hcl : X.calm = true := by rfl) : QS X Z (.Raise (some (.Call (.Name c np) (e :: es) [] cpos)) none pos) (xRaiseI c F fa) := by
  obtain ⟨C, f, fd, ps, hT, hm, hq, hi, hf, Fk, hb⟩ := Rz
  refine ⟨fun pins s σ H D I ⟨φ, h, ρ, x, q⟩ => ?_⟩
  obtain ⟨bm, N, nm, qn, bs, hd, sn, sub, ab, col, dd, k0, k1, k2, k3, k5, hC, Tl⟩ := excI_of I.ok.mod.kin hq
  have hps := ha.pa cpos pins s σ H (fun vs H1 => ∃ φ1 h1 w1 v1, vs = [v1] ∧ Here Z σ H1 φ1 h1 ρ ∧ RW Z.T φ1 H1 w1 v1 ∧ Z.xw (.exc c [F] [w1]) h1) I ⟨φ, h, ρ, x, by
    unfold xRaiseI at q
    cases e1 : fa ρ h with
    | no => rw [e1] at q; exact q.elim
    | ex w h1 => rw [e1] at q; exact q
    | ok ws h1 =>
      rw [e1] at q
      rcases ws with _ | ⟨w1, _ | ⟨w2, ws⟩⟩
      · exact q.elim
      · intro φ1 H1 vs s1 r1 rw1
        obtain ⟨v1, rfl, y⟩ := rws_one rw1
        exact ⟨φ1, h1, w1, v1, rfl, x.step s1 r1, y, q⟩
      · exact q.elim⟩
  refine raise_callI (C := C) (nm := nm) (q := qn) (N := N) (bs := bs) (bm := bm) (hdct := hd) (sn := sn) (sub := sub) (ab := ab) (col := col) (dd := dd) (k0 := k0) (k1 := k1) (k2 := k2) (k3 := k3) (k5 := k5) (newId := "ValueError.__new__") (Tl.hasType PySem.F.excBase_ValueError.hasBase) (I.ok.hd hcl) (by rw [he]; show (false || (backTo cpos (starEach es X.env)).any (·.1)) = false; rw [hpl]; rfl) (ld_glob I hg hm ⟨rfl, ?_⟩ hdb)
  rw [he] at hps ⊢
  refine Calls.evalArgs_plain (thn hps fun us s2 ⟨vs, H2, I2, r, φ2, h2, w1, v1, ev, x2, rw1, xw⟩ => ⟨rfl, I2.bk _ _ hC, ?_⟩)
  subst ev
  obtain ⟨u1, rfl, ru⟩ := r.one
  obtain ⟨hp, g, d, tk, os⟩ := s2
  have I2' := I2
  have k : ∀ b o, hp.get? b = some o → ((hp.push (newTup [u1])).push (newExc C hp.objs.size none)).get? b = some o := fun b o z => Heap.get?_push_of_some _ (Heap.get?_push_of_some _ z)
  have hget : ((hp.push (newTup [u1])).push (newExc C hp.objs.size none)).get? (hp.objs.size + 1) = some (newExc C hp.objs.size none) := by
    have := Heap.get?_push_size (hp.push (newTup [u1])) (o := newExc C hp.objs.size none) rfl
    rwa [Heap.size_push] at this
  have fr : hp.get? (hp.objs.size + 1) = none := Heap.get?_none_of_le (Nat.le_succ _)
  have nH : H2 (hp.objs.size + 1) = none := untracked I2.hok fr
  have I3 := I2.laid (a := hp.objs.size + 1) (o := .ext (XNew (hp.objs.size + 1) C none)) (h' := (hp.push (newTup [u1])).push (newExc C hp.objs.size none)) (t' := tk) k (Nat.le_succ _) ⟨⟨_, hget⟩, ⟨_, hget⟩, xnew_stable⟩
  have r2 : Vals [V.ref (hp.objs.size + 1), v1] [Value.ref (hp.objs.size + 1), u1] := .cons rfl (.cons ru .nil)
  let Q' : VK := fun v H4 => v = .non ∧ ∃ da, H2 da = none ∧ da ≠ hp.objs.size + 1 ∧ H4 = upd (upd H2 (hp.objs.size + 1) (.ext (XNew (hp.objs.size + 1) C (some da)))) da (.xd [(F, v1)])
  have hsp : spI C F [V.ref (hp.objs.size + 1), v1] (upd H2 (hp.objs.size + 1) (.ext (XNew (hp.objs.size + 1) C none))) Q' (fun _ _ _ => False) :=
    ⟨hp.objs.size + 1, v1, rfl, upd_same, fun da n1 n2 => ⟨rfl, da, by rwa [upd_ne n2] at n1, n2, by rw [upd_upd]⟩⟩
  have hl : [Value.ref (hp.objs.size + 1), u1].length = ps.length := by rw [← r2.length]; exact Fk.len _ _ _ _ hsp
  refine wpAny_call (call_excI (rest := [u1]) I2.kIn hq hi hf (by rw [sizeLine_eq]; simp) (codeAny_mono (Fk.run _ X.stack _ _ ⟨[Value.ref (hp.objs.size + 1), u1], []⟩ [Value.ref (hp.objs.size + 1), u1] _ Q' (fun _ _ _ => False) ((hr.mono hkj).make C [u1] []) (fun _ => I.ok.hd hcl)
    (I3.env0.make C [u1] []) (by have := hb _ [Value.ref (hp.objs.size + 1), u1] I3.kIn (by simpa using hl); simpa using this) r2 hsp) fun r s' hq' => ?_))
  cases r with
  | error e2 => exact hq'.elim
  | ok fl =>
    cases fl with
    | ret u =>
      obtain ⟨v, H', I4, rv, hv, da, n1, n2, rfl⟩ := I3.after hq'
      subst hv
      have eE : upd (upd H2 (hp.objs.size + 1) (.ext (XNew (hp.objs.size + 1) C (some da)))) da (.xd [(F, v1)]) = upd (upd H2 da (.xd [(F, v1)])) (hp.objs.size + 1) (.ext (XNew (hp.objs.size + 1) C (some da))) := by
        funext b; unfold upd
        by_cases z1 : b = da
        · subst z1; simp [n2]
        · by_cases z2 : b = hp.objs.size + 1
          · subst z2; simp [Ne.symm n2]
          · simp [z1, z2]
      rw [eE] at I4
      obtain ⟨⟨t0, he0⟩, _, _⟩ := (show ObjOk X.prog X.w _ s'.heap (hp.objs.size + 1) (.ext (XNew (hp.objs.size + 1) C (some da))) from I4.hok _ _ upd_same)
      have nE : upd H2 da (.xd [(F, v1)]) (hp.objs.size + 1) = none := by rw [upd_ne (Ne.symm n2)]; exact nH
      have I5 := untrack I4 nE
      refine ⟨rv, hp.objs.size + 1, t0, some da, rfl, I5.bk _ _ hC, he0, ?_⟩
      have st := step_tmp (φ := φ2) (H := H2) (ho := .xd [(F, v1)]) n1
      refine hx _ _ ⟨pins, σ, _, hp.objs.size + 1, .ref C, some da, none, φ2, h2, .exc c [F] [w1], rfl, ⟨I5, ⟨_, _, he0, rfl, rfl, rfl, rfl⟩, fun b hb => ?_⟩, x2.sg, x2.st.trans st, x2.rh.tmp n1, ⟨C, [v1], hT, rfl, rfl, ?_, x2.rh.fresh n1, upd_same⟩, xw⟩
      · have hb : b = hp.objs.size + 1 := by simpa using hb
        subst hb
        exact ⟨nE, outs_new I2 fr⟩
      · unfold RWs
        exact ⟨v1, [], rfl, rw1.step st, by unfold RWs; rfl⟩
    | next => exact False.elim hq'
    | brk => exact False.elim hq'
    | cont => exact False.elim hq'
end
end M

set_option Elab.async false
set_option linter.all false
set_option maxRecDepth 100000
set_option maxHeartbeats 1000000
namespace M
open PySem PySem.Spec PyProof.Rows L2
/-! ## NG: a field of an exception, read -/
def FxOk (K : PySem.W.Frag) (T : CTb) (c nm : Str) : Prop := ∀ C, T.x c = some C → ExcTy K C ∧ PySem.W.hasDictIn K C = true ∧ PySem.W.findIn K (.ref C) nm = some none
def xXf (c0 nm : Str) (f : Ex) : Ex := fun ρ h => (f ρ h).bind fun a h1 => match a with
  | .exc c fs ws => bif decide (c = c0) then (match (fs.zip ws).lookup nm with
    | some w => .ok w h1
    | none => .no) else .no
  | _ => .no
instance pu_xf {c0 nm : Str} {f : Ex} [hf : Pu f] : Pu (xXf c0 nm f) := ⟨fun ρ h w h' e => by
  unfold xXf at e
  cases e1 : f ρ h with
  | ok a h1 =>
    have := hf.pu _ _ _ _ e1; subst this
    rw [e1] at e
    cases a with
    | exc c fs ws =>
      dsimp only [Res.bind] at e
      cases hc : decide (c = c0) with
      | false => rw [hc] at e; cases e
      | true =>
        rw [hc] at e
        dsimp only [cond] at e
        split at e
        · cases e; rfl
        · cases e
    | _ => cases e
  | ex w h2 => rw [e1] at e; cases e
  | no => rw [e1] at e; cases e⟩
def tXf (K : PySem.W.Frag) (ta : TE) (nm : Str) : TE := fun σ H Q => ta σ H fun x H1 => ∃ e C d kvs v, x = .ref e ∧ H1 e = some (.ext (XShape e C (some d))) ∧ H1 d = some (.xd kvs) ∧ ExcTy K C ∧ PySem.W.hasDictIn K C = true ∧ PySem.W.findIn K (.ref C) nm = some none ∧ kvs.lookup nm = some v ∧ Q v H1
theorem zip_lookup {T : CTb} {φ : List Addr} {H : Hp} {nm : Str} {w : W} : ∀ {fs : List Str} {ws : List W} {vs : List V}, RWs T φ H ws vs → (fs.zip ws).lookup nm = some w → ∃ v, (fs.zip vs).lookup nm = some v ∧ RW T φ H w v
  | [], _, _, _, e => by simp at e
  | f :: fs, [], _, _, e => by simp at e
  | f :: fs, a :: ws, vs, r, e => by
    unfold RWs at r
    obtain ⟨v, vr, rfl, rv, rr⟩ := r
    rw [List.zip_cons_cons] at e ⊢
    by_cases z : nm = f
    · subst z
      simp only [List.lookup, beq_self_eq_true] at e ⊢
      cases e
      exact ⟨v, rfl, rv⟩
    · have : (nm == f) = false := beq_eq_false_iff_ne.mpr z
      simp only [List.lookup, this] at e ⊢
      exact zip_lookup rr e
section
variable {X : Cx} {Z : Zc} {f : Ex} {o : Expr} {c0 nm : Str} {pos : Pos} {ta : TE}
theorem pe_xfld (he : PE X o ta) (hb : attributeBase o nm X.env (eval o X.env) = eval o X.env) : PE X (.Attribute o nm pos) (tXf X.K ta nm) := by
  intro pins s σ H Q I h
  refine attr_of hb (thn (he pins s σ H _ I h) fun u s1 ⟨x, H1, I1, rx, e, C, d, kvs, v, ex, ee, ed, hz, hh, ha, l, q⟩ => ?_)
  subst ex
  obtain rfl : u = Value.ref e := rx
  obtain ⟨⟨oe, vs, a, b, c, dd⟩, _⟩ := (show ObjOk X.prog X.w H1 s1.heap e (.ext (XShape e C (some d))) from I1.hok e _ ee)
  obtain ⟨mA, hn, hr⟩ := (show ObjOk X.prog X.w H1 s1.heap d (.xd kvs) from I1.hok d _ ed)
  obtain ⟨od, ho, hl⟩ := lookIn_ns hn
  obtain ⟨u', hu, ru⟩ := RelO.some_of (v := v) (o := mA nm) (by rw [← l]; exact hr nm)
  have J : PySem.W.InstAt s1.heap e oe C (some od) := ⟨a, b, by unfold PySem.W.notCls; rw [c], by rw [dd]; exact ho⟩
  unfold getAttr
  refine wpAny_bind (wpAny_mkText (exc_by (s := { s1 with toks := s1.toks + 1 }) I1.kIn J hz (PySem.W.findObj_own hh ha rfl (by rw [hl, hu])) ?_))
  exact PySem.W.handed_on (handed_of ru) ⟨v, H1, I1.tok _, ru, q⟩
theorem q_xfld (ho : QE X Z o f) (hK : FxOk X.K Z.T c0 nm) (hb : attributeBase o nm X.env (eval o X.env) = eval o X.env := by rfl) : QE X Z (.Attribute o nm pos) (xXf c0 nm f) :=
  ⟨(pe_xfld ho.pe hb).imp fun σ H Q q => by
    obtain ⟨φ, m, ρ, x, q⟩ := q
    refine ⟨φ, m, ρ, x, ?_⟩
    unfold xXf at q
    rw [bindP] at q
    refine q.mono fun a h1 q1 => fun φ1 H1 u s1 r1 ra => ?_
    cases a with
    | exc c fs ws =>
      dsimp only at q1
      cases hc : decide (c = c0) with
      | false => rw [hc] at q1; exact q1.elim
      | true =>
        rw [hc] at q1
        have hc := of_decide_eq_true hc
        subst hc
        dsimp only [cond] at q1
        cases e2 : (fs.zip ws).lookup nm with
        | none => rw [e2] at q1; exact q1.elim
        | some w =>
          rw [e2] at q1
          unfold RW at ra
          obtain ⟨e, C, d, vs, rfl, ne, hT, hH, hl, hd, hrw⟩ := ra
          obtain ⟨v, lv, rv⟩ := zip_lookup hrw e2
          obtain ⟨z1, z2, z3⟩ := hK C hT
          cases d with
          | none => rw [show fs = [] from hd] at e2; simp at e2
          | some d1 => exact ⟨e, C, d1, _, v, rfl, hH, hd.2, z1, z2, z3, lv, q1 φ1 H1 v s1 r1 rv⟩
    | _ => exact q1.elim⟩
end
end M

set_option Elab.async false
set_option linter.all false
set_option maxRecDepth 100000
set_option maxHeartbeats 1000000
namespace M
open PySem PySem.Spec PyProof.Rows L2
/-! ## NH: what the top wrote of many exception classes, looked at together -/
def excTyB (K : PySem.W.Frag) (C : Addr) : Bool :=
  PySem.W.findIn K (.ref C) "__getattribute__" == some (some (.builtin "BaseException.__getattribute__")) && (PySem.W.findIn K (.ref C) "__getattr__" == some none && (PySem.W.mroIn K C (.type "BaseException") == some true &&
  (PySem.W.findIn K (.ref C) "__class__" == some (some (.builtin "object.__class__")) && (PySem.W.specialIn K (.builtin "object.__class__") "__get__" == some (some (.builtin "getset_descriptor.__get__")) && (PySem.W.takesIn K (.builtin "object.__class__") == some true && PySem.W.mroIn K C (.type "object") == some true)))))
theorem excTy_of {K : PySem.W.Frag} {C : Addr} (h : excTyB K C = true) : ExcTy K C := by
  unfold excTyB at h
  simp only [Bool.and_eq_true, beq_iff_eq] at h
  obtain ⟨a, b, c, d, e, f, g⟩ := h
  exact ⟨a, b, c, d, e, f, g⟩
def excAll (K : PySem.W.Frag) (l : List Addr) : Bool := l.all (excTyB K)
theorem excAll_of {K : PySem.W.Frag} {l : List Addr} (h : excAll K l = true) {C : Addr} (m : C ∈ l) : ExcTy K C := excTy_of (List.all_eq_true.mp h C m)
/-- each stands under the class D -/
def capAll (K : PySem.W.Frag) (D : Addr) (l : List Addr) : Bool := excSh K D "ValueError.__new__" && (PySem.W.mroIn K D (.type "BaseException") == some true && l.all fun a => excSh K a "ValueError.__new__" && PySem.W.mroIn K a (.ref D) == some true)
theorem cap_of {K : PySem.W.Frag} {mg : Str → Option Value} {T : CTb} {d : Str} {sub : Str → Bool} {D : Addr} {l : List Addr} (h : capAll K D l = true) (hm : mg d = some (.ref D)) (hT : ∀ c C, sub c = true → T.x c = some C → C ∈ l) : CatAt K mg T d sub := by
  unfold capAll at h
  simp only [Bool.and_eq_true, beq_iff_eq] at h
  refine ⟨D, hm, h.1, h.2.1, fun c C hs e => ?_⟩
  have := List.all_eq_true.mp h.2.2 C (hT c C hs e)
  simp only [Bool.and_eq_true, beq_iff_eq] at this
  exact this
def kitTy (K : PySem.W.Frag) (l : List Addr) (v : Value) (b : Bool) : Bool := l.all fun a => PySem.W.kitOne K (.ref a) v == some b
theorem kitTy_get {K : PySem.W.Frag} {l : List Addr} {v : Value} {b : Bool} (h : kitTy K l v b = true) {a : Addr} (ha : a ∈ l) : PySem.W.kitOne K (.ref a) v = some b := beq_iff_eq.mp (List.all_eq_true.mp h a ha)
def iniB (K : PySem.W.Frag) (C : Addr) (F : Str) : Bool := excI K C && (PySem.W.findIn K (.ref C) "__setattr__" == some (some (.builtin "object.__setattr__")) && (exOver K C && (PySem.W.takerIn K C F == some none && (PySem.W.hasDictIn K C && PySem.W.findIn K (.ref C) F == some none))))
theorem ini_of {K : PySem.W.Frag} {C : Addr} {F : Str} (h : iniB K C F = true) : IniOk K C F ∧ PySem.W.findIn K (.ref C) F = some none := by
  unfold iniB at h
  simp only [Bool.and_eq_true, beq_iff_eq] at h
  obtain ⟨a, b, c, d, e, f⟩ := h
  exact ⟨⟨a, b, c, d, e⟩, f⟩
def InX (K : PySem.W.Frag) (C : Addr) (qual : Str) (st : Stmt) : Prop := ∃ f fd, PySem.W.findIn K (.ref C) "__init__" = some (some (.ref f)) ∧ PySem.W.typeIn K (.ref f) = some (.type "function") ∧ Fun K "__init__" qual st f fd
section
variable {K : PySem.W.Frag} {C : Addr}
theorem inx {qual : Str} {st : Stmt} {f : Addr} {oc : Value} {od an : Option Addr} {osl : Array (Option Value)} {kV doc pm cdv ct : Value} (a : PySem.W.findIn K (.ref C) "__init__" = some (some (.ref f))) (i : PySem.W.isFn K (.ref f) = true)
    (l : K.lookup f = some ⟨oc, od, .func (PySem.W.fnOf "__init__" qual (defArgs st) (defBody st) (defScope st) .none kV doc pm an cdv ct), osl⟩) (c : PySem.W.codeIn K cdv qual = true) (k : PySem.W.keepIn K (.ref f) = true) : InX K C qual st := ⟨f, _, a, beq_iff_eq.mp i, fun_mk l c k⟩
theorem basx {mc : Value} (g1 : PySem.W.specialIn K (.ref C) "__getattribute__" = some (some (.builtin "type.__getattribute__"))) (g0 : PySem.W.typeIn K (.ref C) = some mc) (g2 : PySem.W.readsIn K C mc = true)
    (g3 : PySem.W.findCls K (.ref C) mc "__init__" = some (.val (.builtin "ValueError.__init__"))) : BaseOk K C := ⟨⟨mc, g1, g2, g3⟩⟩
end
end M

set_option Elab.async false
set_option linter.all false
set_option maxRecDepth 100000
set_option maxHeartbeats 1000000
namespace M
open PySem PySem.Spec PyProof.Rows L2
/-! ## NI: == where both may be empty dicts -/
def rEqD : R2 := fun x y H Q => rEqF x y H Q ∨ ∃ a b, x = .ref a ∧ y = .ref b ∧ H a = some (.dK []) ∧ H b = some (.dK []) ∧ Q (.bl true) H
def eqD (h : Mem) (a b : W) : Option W := match a, b with
  | .td [] [], .td [] [] => some (.bl true)
  | a, b => eqO h a b
section
variable {X : Cx} {T : CTb}
theorem op_eqD {k : Nat} (hr : Room k X.A) : OpR X (compareOp .Eq) rEqD := by
  intro pins s σ H x y v u Q I rx ry h
  rcases h with h | ⟨a, b, rfl, rfl, ha, hb, q⟩
  · exact op_eqF hr pins s σ H x y v u Q I rx ry h
  · obtain rfl : v = Value.ref a := rx
    obtain rfl : u = Value.ref b := ry
    obtain ⟨_, na, va, ka, da⟩ := (show ObjOk X.prog X.w H s.heap a (.dK []) from I.hok a _ ha)
    obtain ⟨_, nb, vb, kb, db⟩ := (show ObjOk X.prog X.w H s.heap b (.dK []) from I.hok b _ hb)
    cases ka
    cases kb
    exact PySem.W.keq_eq na nb da db hr.units0 (fun _ => .nil) ⟨.bl true, H, I, rfl, q⟩
theorem eqD_ok : OpW T eqD rEqD := by
  intro φ h H a b u v w Q r ra rb e k
  unfold eqD at e
  split at e
  · cases e
    unfold RW at ra rb
    obtain ⟨p, vs, rfl, _, hp, _, r1⟩ := ra
    obtain ⟨q, us, rfl, _, hq, _, r2⟩ := rb
    exact .inr ⟨p, q, rfl, rfl, hp, hq, here_k r rw_b k⟩
  · exact .inl (eqO_ok φ h H a b u v w Q r ra rb e k)
end
end M

set_option Elab.async false
set_option linter.all false
set_option maxRecDepth 100000
set_option maxHeartbeats 1000000

namespace K21
open PySem L2 M
local macro_rules | `(tactic| walk_at "ms") => `(tactic| simp [runB, startW, Out.res, xSeq, xIfS, xRet, xRetN, xDrop, xAsg, gN, xNext, xVar, xC, xNil, xCons, xBin, xUn, xCb, xBm, xAnd, xOr, xNot, xIf, xChain, xTup, xLst, xCall0, xNo, Res.bind, Res.of, iop, iopC, subM, divM, modM, mulM, powM, bandM, borM, ltM, gtM, geM, leM, negM, invM, addM, items, ixM, seqs, eqO, neO, eqM, flatW, eqFl, isiM, tyN, Kit.get, absM, sizeLine_eq, xFor, xLoop, xIl, xIt, xSl, xPn, xPs, slM, lenM, truM, intW, sumM, intM, maxM, minM, ordM, listM, isNonW, isNM, notNM, isBM, isnotBM, strW, joinM, xBmS, xIs, allBM, bolW, inM, keyW, dicts, ρC, splitM, gT2, xCallX, xMethX, xRaise, xTry, endX, fgt, xBmL, countM, slTM, isiX, tyX, kitA, clTy, catTM, tupleM, xLstN, countSM, indexSM, xLm, appM, xIr1, xRaiseI, xXf])
def top (i : Nat) : Stmt := PySem.Challenge.pw_passkeep_k21_what_deeds_need.main.body.getD i (.Pass ⟨0, 0, 0, 0⟩)
abbrev s_l_need : Stmt := top 32
theorem sc_l_need : FnScope ["_law_way", "_law_deed", "_law_words"] ["_law_way", "_law_deed"] (defScope s_l_need) := ⟨rfl, rfl, rfl, by decide +kernel, rfl, by decide +kernel, by decide +kernel⟩
theorem bd_l_need : BindsAll "_law_need" "_law_need" s_l_need ["_law_way", "_law_deed"] := fun _ _ _ _ _ _ us hl => match us, hl with | [_, _], _ => rfl
abbrev s_l_deed_by : Stmt := top 33
theorem sc_l_deed_by : FnScope ["_law_cell", "_law_some", "_law_word", "_law_at"] ["_law_cell"] (defScope s_l_deed_by) := ⟨rfl, rfl, rfl, by decide +kernel, rfl, by decide +kernel, by decide +kernel⟩
theorem bd_l_deed_by : BindsAll "_law_deed_by" "_law_deed_by" s_l_deed_by ["_law_cell"] := fun _ _ _ _ _ _ us hl => match us, hl with | [_], _ => rfl
abbrev s_l_only : Stmt := top 34
theorem sc_l_only : FnScope ["_law_e", "_law_at", "_law_found"] ["_law_e", "_law_at"] (defScope s_l_only) := ⟨rfl, rfl, rfl, by decide +kernel, rfl, by decide +kernel, by decide +kernel⟩
theorem bd_l_only : BindsAll "_law_only" "_law_only" s_l_only ["_law_e", "_law_at"] := fun _ _ _ _ _ _ us hl => match us, hl with | [_, _], _ => rfl
abbrev s_l_told : Stmt := top 35
theorem sc_l_told : FnScope ["_law_thing", "_law_deed", "_law_e"] ["_law_thing", "_law_deed"] (defScope s_l_told) := ⟨rfl, rfl, rfl, by decide +kernel, rfl, by decide +kernel, by decide +kernel⟩
theorem bd_l_told : BindsAll "_law_told" "_law_told" s_l_told ["_law_thing", "_law_deed"] := fun _ _ _ _ _ _ us hl => match us, hl with | [_, _], _ => rfl
abbrev s_l_right : Stmt := top 36
theorem sc_l_right : FnScope ["_law_thing", "_law_way", "_law_deed", "_law_due", "_law_found"] ["_law_thing", "_law_way", "_law_deed"] (defScope s_l_right) := ⟨rfl, rfl, rfl, by decide +kernel, rfl, by decide +kernel, by decide +kernel⟩
theorem bd_l_right : BindsAll "_law_right" "_law_right" s_l_right ["_law_thing", "_law_way", "_law_deed"] := fun _ _ _ _ _ _ us hl => match us, hl with | [_, _, _], _ => rfl
abbrev s_law : Stmt := top 37
theorem sc_law : FnScope ["_law_script", "_law_things", "_law_cell", "_law_way"] ["_law_script"] (defScope s_law) := ⟨rfl, rfl, rfl, by decide +kernel, rfl, by decide +kernel, by decide +kernel⟩
theorem bd_law : BindsAll "law" "law" s_law ["_law_script"] := fun _ _ _ _ _ _ us hl => match us, hl with | [_], _ => rfl
abbrev s_NoDeed__init : Stmt := inClass (top 17) 0
theorem sc_NoDeed__init : FnScope ["self", "deed"] ["self", "deed"] (defScope s_NoDeed__init) := ⟨rfl, rfl, rfl, by decide +kernel, rfl, by decide +kernel, by decide +kernel⟩
theorem bd_NoDeed__init : BindsAll "__init__" "NoDeed.__init__" s_NoDeed__init ["self", "deed"] := fun _ _ _ _ _ _ us hl => match us, hl with | [_, _], _ => rfl
abbrev s_Thing__init : Stmt := inClass (top 25) 0
theorem sc_Thing__init : FnScope ["self", "number"] ["self", "number"] (defScope s_Thing__init) := ⟨rfl, rfl, rfl, by decide +kernel, rfl, by decide +kernel, by decide +kernel⟩
theorem bd_Thing__init : BindsAll "__init__" "Thing.__init__" s_Thing__init ["self", "number"] := fun _ _ _ _ _ _ us hl => match us, hl with | [_, _], _ => rfl
abbrev s_Thing_needs : Stmt := inClass (top 25) 6
theorem sc_Thing_needs : FnScope ["self", "deed", "needed"] ["self", "deed"] (defScope s_Thing_needs) := ⟨rfl, rfl, rfl, by decide +kernel, rfl, by decide +kernel, by decide +kernel⟩
theorem bd_Thing_needs : BindsAll "needs" "Thing.needs" s_Thing_needs ["self", "deed"] := fun _ _ _ _ _ _ us hl => match us, hl with | [_, _], _ => rfl
abbrev s_Cell__init : Stmt := inClass (top 26) 0
theorem sc_Cell__init : FnScope ["self", "number"] ["self", "number"] (defScope s_Cell__init) := ⟨rfl, rfl, rfl, by decide +kernel, rfl, by decide +kernel, by decide +kernel⟩
theorem bd_Cell__init : BindsAll "__init__" "Cell.__init__" s_Cell__init ["self", "number"] := fun _ _ _ _ _ _ us hl => match us, hl with | [_, _], _ => rfl
abbrev s_Cell_own_needs : Stmt := inClass (top 26) 4
theorem sc_Cell_own_needs : FnScope ["self"] ["self"] (defScope s_Cell_own_needs) := ⟨rfl, rfl, rfl, by decide +kernel, rfl, by decide +kernel, by decide +kernel⟩
theorem bd_Cell_own_needs : BindsAll "own_needs" "Cell.own_needs" s_Cell_own_needs ["self"] := fun _ _ _ _ _ _ us hl => match us, hl with | [_], _ => rfl
abbrev s_Line__init : Stmt := inClass (top 27) 0
theorem sc_Line__init : FnScope ["self", "number"] ["self", "number"] (defScope s_Line__init) := ⟨rfl, rfl, rfl, by decide +kernel, rfl, by decide +kernel, by decide +kernel⟩
theorem bd_Line__init : BindsAll "__init__" "Line.__init__" s_Line__init ["self", "number"] := fun _ _ _ _ _ _ us hl => match us, hl with | [_, _], _ => rfl
abbrev s_Line_own_needs : Stmt := inClass (top 27) 4
theorem sc_Line_own_needs : FnScope ["self"] ["self"] (defScope s_Line_own_needs) := ⟨rfl, rfl, rfl, by decide +kernel, rfl, by decide +kernel, by decide +kernel⟩
theorem bd_Line_own_needs : BindsAll "own_needs" "Line.own_needs" s_Line_own_needs ["self"] := fun _ _ _ _ _ _ us hl => match us, hl with | [_], _ => rfl
abbrev s_Door__init : Stmt := inClass (top 28) 0
theorem sc_Door__init : FnScope ["self", "number"] ["self", "number"] (defScope s_Door__init) := ⟨rfl, rfl, rfl, by decide +kernel, rfl, by decide +kernel, by decide +kernel⟩
theorem bd_Door__init : BindsAll "__init__" "Door.__init__" s_Door__init ["self", "number"] := fun _ _ _ _ _ _ us hl => match us, hl with | [_, _], _ => rfl
abbrev s_Door_own_needs : Stmt := inClass (top 28) 5
theorem sc_Door_own_needs : FnScope ["self"] ["self"] (defScope s_Door_own_needs) := ⟨rfl, rfl, rfl, by decide +kernel, rfl, by decide +kernel, by decide +kernel⟩
theorem bd_Door_own_needs : BindsAll "own_needs" "Door.own_needs" s_Door_own_needs ["self"] := fun _ _ _ _ _ _ us hl => match us, hl with | [_], _ => rfl
abbrev s_Post__init : Stmt := inClass (top 29) 0
theorem sc_Post__init : FnScope ["self", "number", "name"] ["self", "number", "name"] (defScope s_Post__init) := ⟨rfl, rfl, rfl, by decide +kernel, rfl, by decide +kernel, by decide +kernel⟩
theorem bd_Post__init : BindsAll "__init__" "Post.__init__" s_Post__init ["self", "number", "name"] := fun _ _ _ _ _ _ us hl => match us, hl with | [_, _, _], _ => rfl
abbrev s_Post_own_needs : Stmt := inClass (top 29) 4
theorem sc_Post_own_needs : FnScope ["self"] ["self"] (defScope s_Post_own_needs) := ⟨rfl, rfl, rfl, by decide +kernel, rfl, by decide +kernel, by decide +kernel⟩
theorem bd_Post_own_needs : BindsAll "own_needs" "Post.own_needs" s_Post_own_needs ["self"] := fun _ _ _ _ _ _ us hl => match us, hl with | [_], _ => rfl
structure Cs where
  Cell : Addr
  Line : Addr
  Door : Addr
  Post : Addr
  Thing : Addr
  Empty : Addr
  Full : Addr
  TooGreat : Addr
  NoDeed : Addr
  Lacks : Addr
  NoHandle : Addr
  NoKind : Addr
  NoName : Addr
  NoRights : Addr
  NoRow : Addr
  NoTask : Addr
  NoThing : Addr
  NoValue : Addr
  NoWords : Addr
  Taken : Addr
  TooMany : Addr
def T0 (C : Cs) : CTb := ⟨fun c => if c = "Cell" then some C.Cell else if c = "Line" then some C.Line else if c = "Door" then some C.Door else if c = "Post" then some C.Post else if c = "Thing" then some C.Thing else none, fun c => if c = "NoDeed" then some C.NoDeed else none, fun c => if c = "Empty" then some C.Empty else if c = "Full" then some C.Full else if c = "TooGreat" then some C.TooGreat else if c = "Lacks" then some C.Lacks else if c = "NoHandle" then some C.NoHandle else if c = "NoKind" then some C.NoKind else if c = "NoName" then some C.NoName else if c = "NoRights" then some C.NoRights else if c = "NoRow" then some C.NoRow else if c = "NoTask" then some C.NoTask else if c = "NoThing" then some C.NoThing else if c = "NoValue" then some C.NoValue else if c = "NoWords" then some C.NoWords else if c = "Taken" then some C.Taken else if c = "TooMany" then some C.TooMany else none⟩
def kitL : Kit := [((.inl "str", .inl "str"), true), ((.inl "str", .inl "bool"), false), ((.inl "NoneType", .inl "str"), false), ((.inl "NoneType", .inl "bool"), false), ((.inl "bool", .inl "str"), false), ((.inl "bool", .inl "bool"), true), ((.inl "int", .inl "str"), false), ((.inl "int", .inl "bool"), false), ((.inl "list", .inl "str"), false), ((.inl "list", .inl "bool"), false), ((.inl "tuple", .inl "str"), false), ((.inl "tuple", .inl "bool"), false), ((.inl "dict", .inl "str"), false), ((.inl "dict", .inl "bool"), false), ((.inr "Cell", .inr "Thing"), true), ((.inr "Line", .inr "Thing"), true), ((.inr "Door", .inr "Thing"), true), ((.inr "Post", .inr "Thing"), true), ((.inr "NoDeed", .inl "ValueError"), true), ((.inr "NoDeed", .inr "Empty"), false), ((.inr "NoDeed", .inr "Full"), false), ((.inr "NoDeed", .inr "TooGreat"), false), ((.inr "NoDeed", .inr "NoDeed"), true), ((.inr "NoDeed", .inr "Lacks"), false), ((.inr "NoDeed", .inr "NoHandle"), false), ((.inr "NoDeed", .inr "NoKind"), false), ((.inr "NoDeed", .inr "NoName"), false), ((.inr "NoDeed", .inr "NoRights"), false), ((.inr "NoDeed", .inr "NoRow"), false), ((.inr "NoDeed", .inr "NoTask"), false), ((.inr "NoDeed", .inr "NoThing"), false), ((.inr "NoDeed", .inr "NoValue"), false), ((.inr "NoDeed", .inr "NoWords"), false), ((.inr "NoDeed", .inr "Taken"), false), ((.inr "NoDeed", .inr "TooMany"), false)]
theorem kg_0 : Kit.get kitL (.inl "str") (.inl "str") = some true := by decide +kernel
theorem kg_1 : Kit.get kitL (.inl "str") (.inl "bool") = some false := by decide +kernel
theorem kg_2 : Kit.get kitL (.inl "NoneType") (.inl "str") = some false := by decide +kernel
theorem kg_3 : Kit.get kitL (.inl "NoneType") (.inl "bool") = some false := by decide +kernel
theorem kg_4 : Kit.get kitL (.inl "bool") (.inl "str") = some false := by decide +kernel
theorem kg_5 : Kit.get kitL (.inl "bool") (.inl "bool") = some true := by decide +kernel
theorem kg_6 : Kit.get kitL (.inl "int") (.inl "str") = some false := by decide +kernel
theorem kg_7 : Kit.get kitL (.inl "int") (.inl "bool") = some false := by decide +kernel
theorem kg_8 : Kit.get kitL (.inl "list") (.inl "str") = some false := by decide +kernel
theorem kg_9 : Kit.get kitL (.inl "list") (.inl "bool") = some false := by decide +kernel
theorem kg_10 : Kit.get kitL (.inl "tuple") (.inl "str") = some false := by decide +kernel
theorem kg_11 : Kit.get kitL (.inl "tuple") (.inl "bool") = some false := by decide +kernel
theorem kg_12 : Kit.get kitL (.inl "dict") (.inl "str") = some false := by decide +kernel
theorem kg_13 : Kit.get kitL (.inl "dict") (.inl "bool") = some false := by decide +kernel
theorem kg_14 : Kit.get kitL (.inr (Str.ofString "Cell")) (.inr (Str.ofString "Thing")) = some true := by decide +kernel
theorem kg_15 : Kit.get kitL (.inr (Str.ofString "Line")) (.inr (Str.ofString "Thing")) = some true := by decide +kernel
theorem kg_16 : Kit.get kitL (.inr (Str.ofString "Door")) (.inr (Str.ofString "Thing")) = some true := by decide +kernel
theorem kg_17 : Kit.get kitL (.inr (Str.ofString "Post")) (.inr (Str.ofString "Thing")) = some true := by decide +kernel
theorem kg_18 : Kit.get kitL (.inr (Str.ofString "NoDeed")) (.inl "ValueError") = some true := by decide +kernel
theorem kg_19 : Kit.get kitL (.inr (Str.ofString "NoDeed")) (.inr (Str.ofString "Empty")) = some false := by decide +kernel
theorem kg_20 : Kit.get kitL (.inr (Str.ofString "NoDeed")) (.inr (Str.ofString "Full")) = some false := by decide +kernel
theorem kg_21 : Kit.get kitL (.inr (Str.ofString "NoDeed")) (.inr (Str.ofString "TooGreat")) = some false := by decide +kernel
theorem kg_22 : Kit.get kitL (.inr (Str.ofString "NoDeed")) (.inr (Str.ofString "NoDeed")) = some true := by decide +kernel
theorem kg_23 : Kit.get kitL (.inr (Str.ofString "NoDeed")) (.inr (Str.ofString "Lacks")) = some false := by decide +kernel
theorem kg_24 : Kit.get kitL (.inr (Str.ofString "NoDeed")) (.inr (Str.ofString "NoHandle")) = some false := by decide +kernel
theorem kg_25 : Kit.get kitL (.inr (Str.ofString "NoDeed")) (.inr (Str.ofString "NoKind")) = some false := by decide +kernel
theorem kg_26 : Kit.get kitL (.inr (Str.ofString "NoDeed")) (.inr (Str.ofString "NoName")) = some false := by decide +kernel
theorem kg_27 : Kit.get kitL (.inr (Str.ofString "NoDeed")) (.inr (Str.ofString "NoRights")) = some false := by decide +kernel
theorem kg_28 : Kit.get kitL (.inr (Str.ofString "NoDeed")) (.inr (Str.ofString "NoRow")) = some false := by decide +kernel
theorem kg_29 : Kit.get kitL (.inr (Str.ofString "NoDeed")) (.inr (Str.ofString "NoTask")) = some false := by decide +kernel
theorem kg_30 : Kit.get kitL (.inr (Str.ofString "NoDeed")) (.inr (Str.ofString "NoThing")) = some false := by decide +kernel
theorem kg_31 : Kit.get kitL (.inr (Str.ofString "NoDeed")) (.inr (Str.ofString "NoValue")) = some false := by decide +kernel
theorem kg_32 : Kit.get kitL (.inr (Str.ofString "NoDeed")) (.inr (Str.ofString "NoWords")) = some false := by decide +kernel
theorem kg_33 : Kit.get kitL (.inr (Str.ofString "NoDeed")) (.inr (Str.ofString "Taken")) = some false := by decide +kernel
theorem kg_34 : Kit.get kitL (.inr (Str.ofString "NoDeed")) (.inr (Str.ofString "TooMany")) = some false := by decide +kernel
def subP (c : Str) : Bool := decide (c = "NoDeed")
theorem subP_1 : subP (Str.ofString "NoDeed") = true := by decide +kernel
theorem lkD {w : W} : List.lookup (Str.ofString "deed") ([Str.ofString "deed"].zip [w]) = some w := by simp [List.lookup]
structure Tx (K : PySem.W.Frag) (mg : Str → Option Value) (C : Cs) : Prop where
  b_isinstance : mg "isinstance" = none
  b_str : mg "str" = none
  b_bool : mg "bool" = none
  b_len : mg "len" = none
  b_ValueError : mg "ValueError" = none
  c_LOOK : GC mg "LOOK" (.int 1)
  c_PUT : GC mg "PUT" (.int 2)
  c_SEND : GC mg "SEND" (.int 4)
  c_HEAR : GC mg "HEAR" (.int 8)
  c_END : GC mg "END" (.int 16)
  ins : InsOk K (T0 C)
  exo : ExcOk K (T0 C)
  kit : KitOk K (T0 C) kitL
  f_number : FldOk K (T0 C) "number"
  f_amount : FldOk K (T0 C) "amount"
  f_numbers : FldOk K (T0 C) "numbers"
  f_waiting : FldOk K (T0 C) "waiting"
  f_name : FldOk K (T0 C) "name"
  f_runs : FldOk K (T0 C) "runs"
  cat_PassError : CatAt K mg (T0 C) "PassError" subP
  fx_deed : FxOk K (T0 C) "NoDeed" "deed"
  g_Thing : GC mg "Thing" (.ref C.Thing)
  t_Thing : (T0 C).any "Thing" = some C.Thing
  g_Empty : GC mg "Empty" (.ref C.Empty)
  t_Empty : (T0 C).any "Empty" = some C.Empty
  g_Full : GC mg "Full" (.ref C.Full)
  t_Full : (T0 C).any "Full" = some C.Full
  g_TooGreat : GC mg "TooGreat" (.ref C.TooGreat)
  t_TooGreat : (T0 C).any "TooGreat" = some C.TooGreat
  g_NoDeed : GC mg "NoDeed" (.ref C.NoDeed)
  t_NoDeed : (T0 C).any "NoDeed" = some C.NoDeed
  g_Lacks : GC mg "Lacks" (.ref C.Lacks)
  t_Lacks : (T0 C).any "Lacks" = some C.Lacks
  g_NoHandle : GC mg "NoHandle" (.ref C.NoHandle)
  t_NoHandle : (T0 C).any "NoHandle" = some C.NoHandle
  g_NoKind : GC mg "NoKind" (.ref C.NoKind)
  t_NoKind : (T0 C).any "NoKind" = some C.NoKind
  g_NoName : GC mg "NoName" (.ref C.NoName)
  t_NoName : (T0 C).any "NoName" = some C.NoName
  g_NoRights : GC mg "NoRights" (.ref C.NoRights)
  t_NoRights : (T0 C).any "NoRights" = some C.NoRights
  g_NoRow : GC mg "NoRow" (.ref C.NoRow)
  t_NoRow : (T0 C).any "NoRow" = some C.NoRow
  g_NoTask : GC mg "NoTask" (.ref C.NoTask)
  t_NoTask : (T0 C).any "NoTask" = some C.NoTask
  g_NoThing : GC mg "NoThing" (.ref C.NoThing)
  t_NoThing : (T0 C).any "NoThing" = some C.NoThing
  g_NoValue : GC mg "NoValue" (.ref C.NoValue)
  t_NoValue : (T0 C).any "NoValue" = some C.NoValue
  g_NoWords : GC mg "NoWords" (.ref C.NoWords)
  t_NoWords : (T0 C).any "NoWords" = some C.NoWords
  g_Taken : GC mg "Taken" (.ref C.Taken)
  t_Taken : (T0 C).any "Taken" = some C.Taken
  g_TooMany : GC mg "TooMany" (.ref C.TooMany)
  t_TooMany : (T0 C).any "TooMany" = some C.TooMany
def cellO (a : Int) : O := .ins "Cell" [("number", .int a), ("amount", .int 0)]
def lineO (a : Int) : O := .ins "Line" [("number", .int a), ("numbers", .tl [])]
def doorO (a : Int) : O := .ins "Door" [("number", .int a), ("waiting", .tl [])]
def postO (a : Int) (z : Str) : O := .ins "Post" [("number", .int a), ("name", .str z), ("runs", .bl true)]
def tab4 (F1 F2 F3 F4 : Fm) : Tab := fun c => if c = "Cell" then some F1 else if c = "Line" then some F2 else if c = "Door" then some F3 else if c = "Post" then some F4 else none
theorem t4_0 {F1 F2 F3 F4 : Fm} : tab4 F1 F2 F3 F4 (Str.ofString "Cell") = some F1 := rfl
theorem t4_1 {F1 F2 F3 F4 : Fm} : tab4 F1 F2 F3 F4 (Str.ofString "Line") = some F2 := rfl
theorem t4_2 {F1 F2 F3 F4 : Fm} : tab4 F1 F2 F3 F4 (Str.ofString "Door") = some F3 := rfl
theorem t4_3 {F1 F2 F3 F4 : Fm} : tab4 F1 F2 F3 F4 (Str.ofString "Post") = some F4 := rfl
theorem tab4_at {P : Program} {w : World} {K : PySem.W.Frag} {mg : Str → Option Value} {base : Heap} {C : Cs} {k : Nat} {m : Str} {F1 F2 F3 F4 : Fm} (h1 : MtAt P w K mg base (T0 C) k "Cell" m F1) (h2 : MtAt P w K mg base (T0 C) k "Line" m F2) (h3 : MtAt P w K mg base (T0 C) k "Door" m F3) (h4 : MtAt P w K mg base (T0 C) k "Post" m F4) : TabAt P w K mg base (T0 C) k m (tab4 F1 F2 F3 F4) := fun c G e => by
  unfold tab4 at e
  split at e
  · rename_i hc; subst hc; cases e; exact h1
  · split at e
    · rename_i hc; subst hc; cases e; exact h2
    · split at e
      · rename_i hc; subst hc; cases e; exact h3
      · split at e
        · rename_i hc; subst hc; cases e; exact h4
        · cases e
theorem tab4_x {P : Program} {w : World} {K : PySem.W.Frag} {mg : Str → Option Value} {base : Heap} {C : Cs} {k : Nat} {m : Str} {F1 F2 F3 F4 : Fm} {q : Bool} (h1 : MtX P w K mg base (T0 C) q k "Cell" m F1) (h2 : MtX P w K mg base (T0 C) q k "Line" m F2) (h3 : MtX P w K mg base (T0 C) q k "Door" m F3) (h4 : MtX P w K mg base (T0 C) q k "Post" m F4) : TabX P w K mg base (T0 C) q k m (tab4 F1 F2 F3 F4) := fun c G e => by
  unfold tab4 at e
  split at e
  · rename_i hc; subst hc; cases e; exact h1
  · split at e
    · rename_i hc; subst hc; cases e; exact h2
    · split at e
      · rename_i hc; subst hc; cases e; exact h3
      · split at e
        · rename_i hc; subst hc; cases e; exact h4
        · cases e
theorem n_number_amount : (Str.ofString "number" == Str.ofString "amount") = false := by decide +kernel
theorem n_number_numbers : (Str.ofString "number" == Str.ofString "numbers") = false := by decide +kernel
theorem n_number_waiting : (Str.ofString "number" == Str.ofString "waiting") = false := by decide +kernel
theorem n_number_name : (Str.ofString "number" == Str.ofString "name") = false := by decide +kernel
theorem n_number_runs : (Str.ofString "number" == Str.ofString "runs") = false := by decide +kernel
theorem n_amount_number : (Str.ofString "amount" == Str.ofString "number") = false := by decide +kernel
theorem n_numbers_number : (Str.ofString "numbers" == Str.ofString "number") = false := by decide +kernel
theorem n_waiting_number : (Str.ofString "waiting" == Str.ofString "number") = false := by decide +kernel
theorem n_name_number : (Str.ofString "name" == Str.ofString "number") = false := by decide +kernel
theorem n_name_runs : (Str.ofString "name" == Str.ofString "runs") = false := by decide +kernel
theorem n_runs_number : (Str.ofString "runs" == Str.ofString "number") = false := by decide +kernel
theorem n_runs_name : (Str.ofString "runs" == Str.ofString "name") = false := by decide +kernel
theorem no_cell_needs {a b : W} : List.lookup (Str.ofString "needs") [(Str.ofString "number", a), (Str.ofString "amount", b)] = none := rfl
theorem no_cell_own_needs {a b : W} : List.lookup (Str.ofString "own_needs") [(Str.ofString "number", a), (Str.ofString "amount", b)] = none := rfl
theorem no_line_needs {a b : W} : List.lookup (Str.ofString "needs") [(Str.ofString "number", a), (Str.ofString "numbers", b)] = none := rfl
theorem no_line_own_needs {a b : W} : List.lookup (Str.ofString "own_needs") [(Str.ofString "number", a), (Str.ofString "numbers", b)] = none := rfl
theorem no_door_needs {a b : W} : List.lookup (Str.ofString "needs") [(Str.ofString "number", a), (Str.ofString "waiting", b)] = none := rfl
theorem no_door_own_needs {a b : W} : List.lookup (Str.ofString "own_needs") [(Str.ofString "number", a), (Str.ofString "waiting", b)] = none := rfl
theorem no_post_needs {a b d : W} : List.lookup (Str.ofString "needs") [(Str.ofString "number", a), (Str.ofString "name", b), (Str.ofString "runs", d)] = none := rfl
theorem no_post_own_needs {a b d : W} : List.lookup (Str.ofString "own_needs") [(Str.ofString "number", a), (Str.ofString "name", b), (Str.ofString "runs", d)] = none := rfl
theorem ne_kind_add : (Str.ofString "kind" = Str.ofString "add") = False := by simp; decide +kernel
theorem ne_kind_count : (Str.ofString "kind" = Str.ofString "count") = False := by simp; decide +kernel
theorem ne_kind_end : (Str.ofString "kind" = Str.ofString "end") = False := by simp; decide +kernel
theorem ne_kind_hear : (Str.ofString "kind" = Str.ofString "hear") = False := by simp; decide +kernel
theorem ne_kind_pull : (Str.ofString "kind" = Str.ofString "pull") = False := by simp; decide +kernel
theorem ne_kind_push : (Str.ofString "kind" = Str.ofString "push") = False := by simp; decide +kernel
theorem ne_kind_read : (Str.ofString "kind" = Str.ofString "read") = False := by simp; decide +kernel
theorem ne_kind_send : (Str.ofString "kind" = Str.ofString "send") = False := by simp; decide +kernel
theorem ne_kind_state : (Str.ofString "kind" = Str.ofString "state") = False := by simp; decide +kernel
theorem ne_kind_write : (Str.ofString "kind" = Str.ofString "write") = False := by simp; decide +kernel
theorem ne_add_kind : (Str.ofString "add" = Str.ofString "kind") = False := by simp; decide +kernel
theorem ne_add_count : (Str.ofString "add" = Str.ofString "count") = False := by simp; decide +kernel
theorem ne_add_end : (Str.ofString "add" = Str.ofString "end") = False := by simp; decide +kernel
theorem ne_add_hear : (Str.ofString "add" = Str.ofString "hear") = False := by simp; decide +kernel
theorem ne_add_pull : (Str.ofString "add" = Str.ofString "pull") = False := by simp; decide +kernel
theorem ne_add_push : (Str.ofString "add" = Str.ofString "push") = False := by simp; decide +kernel
theorem ne_add_read : (Str.ofString "add" = Str.ofString "read") = False := by simp; decide +kernel
theorem ne_add_send : (Str.ofString "add" = Str.ofString "send") = False := by simp; decide +kernel
theorem ne_add_state : (Str.ofString "add" = Str.ofString "state") = False := by simp; decide +kernel
theorem ne_add_write : (Str.ofString "add" = Str.ofString "write") = False := by simp; decide +kernel
theorem ne_count_kind : (Str.ofString "count" = Str.ofString "kind") = False := by simp; decide +kernel
theorem ne_count_add : (Str.ofString "count" = Str.ofString "add") = False := by simp; decide +kernel
theorem ne_count_end : (Str.ofString "count" = Str.ofString "end") = False := by simp; decide +kernel
theorem ne_count_hear : (Str.ofString "count" = Str.ofString "hear") = False := by simp; decide +kernel
theorem ne_count_pull : (Str.ofString "count" = Str.ofString "pull") = False := by simp; decide +kernel
theorem ne_count_push : (Str.ofString "count" = Str.ofString "push") = False := by simp; decide +kernel
theorem ne_count_read : (Str.ofString "count" = Str.ofString "read") = False := by simp; decide +kernel
theorem ne_count_send : (Str.ofString "count" = Str.ofString "send") = False := by simp; decide +kernel
theorem ne_count_state : (Str.ofString "count" = Str.ofString "state") = False := by simp; decide +kernel
theorem ne_count_write : (Str.ofString "count" = Str.ofString "write") = False := by simp; decide +kernel
theorem ne_end_kind : (Str.ofString "end" = Str.ofString "kind") = False := by simp; decide +kernel
theorem ne_end_add : (Str.ofString "end" = Str.ofString "add") = False := by simp; decide +kernel
theorem ne_end_count : (Str.ofString "end" = Str.ofString "count") = False := by simp; decide +kernel
theorem ne_end_hear : (Str.ofString "end" = Str.ofString "hear") = False := by simp; decide +kernel
theorem ne_end_pull : (Str.ofString "end" = Str.ofString "pull") = False := by simp; decide +kernel
theorem ne_end_push : (Str.ofString "end" = Str.ofString "push") = False := by simp; decide +kernel
theorem ne_end_read : (Str.ofString "end" = Str.ofString "read") = False := by simp; decide +kernel
theorem ne_end_send : (Str.ofString "end" = Str.ofString "send") = False := by simp; decide +kernel
theorem ne_end_state : (Str.ofString "end" = Str.ofString "state") = False := by simp; decide +kernel
theorem ne_end_write : (Str.ofString "end" = Str.ofString "write") = False := by simp; decide +kernel
theorem ne_hear_kind : (Str.ofString "hear" = Str.ofString "kind") = False := by simp; decide +kernel
theorem ne_hear_add : (Str.ofString "hear" = Str.ofString "add") = False := by simp; decide +kernel
theorem ne_hear_count : (Str.ofString "hear" = Str.ofString "count") = False := by simp; decide +kernel
theorem ne_hear_end : (Str.ofString "hear" = Str.ofString "end") = False := by simp; decide +kernel
theorem ne_hear_pull : (Str.ofString "hear" = Str.ofString "pull") = False := by simp; decide +kernel
theorem ne_hear_push : (Str.ofString "hear" = Str.ofString "push") = False := by simp; decide +kernel
theorem ne_hear_read : (Str.ofString "hear" = Str.ofString "read") = False := by simp; decide +kernel
theorem ne_hear_send : (Str.ofString "hear" = Str.ofString "send") = False := by simp; decide +kernel
theorem ne_hear_state : (Str.ofString "hear" = Str.ofString "state") = False := by simp; decide +kernel
theorem ne_hear_write : (Str.ofString "hear" = Str.ofString "write") = False := by simp; decide +kernel
theorem ne_pull_kind : (Str.ofString "pull" = Str.ofString "kind") = False := by simp; decide +kernel
theorem ne_pull_add : (Str.ofString "pull" = Str.ofString "add") = False := by simp; decide +kernel
theorem ne_pull_count : (Str.ofString "pull" = Str.ofString "count") = False := by simp; decide +kernel
theorem ne_pull_end : (Str.ofString "pull" = Str.ofString "end") = False := by simp; decide +kernel
theorem ne_pull_hear : (Str.ofString "pull" = Str.ofString "hear") = False := by simp; decide +kernel
theorem ne_pull_push : (Str.ofString "pull" = Str.ofString "push") = False := by simp; decide +kernel
theorem ne_pull_read : (Str.ofString "pull" = Str.ofString "read") = False := by simp; decide +kernel
theorem ne_pull_send : (Str.ofString "pull" = Str.ofString "send") = False := by simp; decide +kernel
theorem ne_pull_state : (Str.ofString "pull" = Str.ofString "state") = False := by simp; decide +kernel
theorem ne_pull_write : (Str.ofString "pull" = Str.ofString "write") = False := by simp; decide +kernel
theorem ne_push_kind : (Str.ofString "push" = Str.ofString "kind") = False := by simp; decide +kernel
theorem ne_push_add : (Str.ofString "push" = Str.ofString "add") = False := by simp; decide +kernel
theorem ne_push_count : (Str.ofString "push" = Str.ofString "count") = False := by simp; decide +kernel
theorem ne_push_end : (Str.ofString "push" = Str.ofString "end") = False := by simp; decide +kernel
theorem ne_push_hear : (Str.ofString "push" = Str.ofString "hear") = False := by simp; decide +kernel
theorem ne_push_pull : (Str.ofString "push" = Str.ofString "pull") = False := by simp; decide +kernel
theorem ne_push_read : (Str.ofString "push" = Str.ofString "read") = False := by simp; decide +kernel
theorem ne_push_send : (Str.ofString "push" = Str.ofString "send") = False := by simp; decide +kernel
theorem ne_push_state : (Str.ofString "push" = Str.ofString "state") = False := by simp; decide +kernel
theorem ne_push_write : (Str.ofString "push" = Str.ofString "write") = False := by simp; decide +kernel
theorem ne_read_kind : (Str.ofString "read" = Str.ofString "kind") = False := by simp; decide +kernel
theorem ne_read_add : (Str.ofString "read" = Str.ofString "add") = False := by simp; decide +kernel
theorem ne_read_count : (Str.ofString "read" = Str.ofString "count") = False := by simp; decide +kernel
theorem ne_read_end : (Str.ofString "read" = Str.ofString "end") = False := by simp; decide +kernel
theorem ne_read_hear : (Str.ofString "read" = Str.ofString "hear") = False := by simp; decide +kernel
theorem ne_read_pull : (Str.ofString "read" = Str.ofString "pull") = False := by simp; decide +kernel
theorem ne_read_push : (Str.ofString "read" = Str.ofString "push") = False := by simp; decide +kernel
theorem ne_read_send : (Str.ofString "read" = Str.ofString "send") = False := by simp; decide +kernel
theorem ne_read_state : (Str.ofString "read" = Str.ofString "state") = False := by simp; decide +kernel
theorem ne_read_write : (Str.ofString "read" = Str.ofString "write") = False := by simp; decide +kernel
theorem ne_send_kind : (Str.ofString "send" = Str.ofString "kind") = False := by simp; decide +kernel
theorem ne_send_add : (Str.ofString "send" = Str.ofString "add") = False := by simp; decide +kernel
theorem ne_send_count : (Str.ofString "send" = Str.ofString "count") = False := by simp; decide +kernel
theorem ne_send_end : (Str.ofString "send" = Str.ofString "end") = False := by simp; decide +kernel
theorem ne_send_hear : (Str.ofString "send" = Str.ofString "hear") = False := by simp; decide +kernel
theorem ne_send_pull : (Str.ofString "send" = Str.ofString "pull") = False := by simp; decide +kernel
theorem ne_send_push : (Str.ofString "send" = Str.ofString "push") = False := by simp; decide +kernel
theorem ne_send_read : (Str.ofString "send" = Str.ofString "read") = False := by simp; decide +kernel
theorem ne_send_state : (Str.ofString "send" = Str.ofString "state") = False := by simp; decide +kernel
theorem ne_send_write : (Str.ofString "send" = Str.ofString "write") = False := by simp; decide +kernel
theorem ne_state_kind : (Str.ofString "state" = Str.ofString "kind") = False := by simp; decide +kernel
theorem ne_state_add : (Str.ofString "state" = Str.ofString "add") = False := by simp; decide +kernel
theorem ne_state_count : (Str.ofString "state" = Str.ofString "count") = False := by simp; decide +kernel
theorem ne_state_end : (Str.ofString "state" = Str.ofString "end") = False := by simp; decide +kernel
theorem ne_state_hear : (Str.ofString "state" = Str.ofString "hear") = False := by simp; decide +kernel
theorem ne_state_pull : (Str.ofString "state" = Str.ofString "pull") = False := by simp; decide +kernel
theorem ne_state_push : (Str.ofString "state" = Str.ofString "push") = False := by simp; decide +kernel
theorem ne_state_read : (Str.ofString "state" = Str.ofString "read") = False := by simp; decide +kernel
theorem ne_state_send : (Str.ofString "state" = Str.ofString "send") = False := by simp; decide +kernel
theorem ne_state_write : (Str.ofString "state" = Str.ofString "write") = False := by simp; decide +kernel
theorem ne_write_kind : (Str.ofString "write" = Str.ofString "kind") = False := by simp; decide +kernel
theorem ne_write_add : (Str.ofString "write" = Str.ofString "add") = False := by simp; decide +kernel
theorem ne_write_count : (Str.ofString "write" = Str.ofString "count") = False := by simp; decide +kernel
theorem ne_write_end : (Str.ofString "write" = Str.ofString "end") = False := by simp; decide +kernel
theorem ne_write_hear : (Str.ofString "write" = Str.ofString "hear") = False := by simp; decide +kernel
theorem ne_write_pull : (Str.ofString "write" = Str.ofString "pull") = False := by simp; decide +kernel
theorem ne_write_push : (Str.ofString "write" = Str.ofString "push") = False := by simp; decide +kernel
theorem ne_write_read : (Str.ofString "write" = Str.ofString "read") = False := by simp; decide +kernel
theorem ne_write_send : (Str.ofString "write" = Str.ofString "send") = False := by simp; decide +kernel
theorem ne_write_state : (Str.ofString "write" = Str.ofString "state") = False := by simp; decide +kernel
theorem nb_kind_add : (Str.ofString "kind" == Str.ofString "add") = false := by decide +kernel
theorem nb_kind_count : (Str.ofString "kind" == Str.ofString "count") = false := by decide +kernel
theorem nb_kind_end : (Str.ofString "kind" == Str.ofString "end") = false := by decide +kernel
theorem nb_kind_hear : (Str.ofString "kind" == Str.ofString "hear") = false := by decide +kernel
theorem nb_kind_pull : (Str.ofString "kind" == Str.ofString "pull") = false := by decide +kernel
theorem nb_kind_push : (Str.ofString "kind" == Str.ofString "push") = false := by decide +kernel
theorem nb_kind_read : (Str.ofString "kind" == Str.ofString "read") = false := by decide +kernel
theorem nb_kind_send : (Str.ofString "kind" == Str.ofString "send") = false := by decide +kernel
theorem nb_kind_state : (Str.ofString "kind" == Str.ofString "state") = false := by decide +kernel
theorem nb_kind_write : (Str.ofString "kind" == Str.ofString "write") = false := by decide +kernel
theorem nb_add_kind : (Str.ofString "add" == Str.ofString "kind") = false := by decide +kernel
theorem nb_add_count : (Str.ofString "add" == Str.ofString "count") = false := by decide +kernel
theorem nb_add_end : (Str.ofString "add" == Str.ofString "end") = false := by decide +kernel
theorem nb_add_hear : (Str.ofString "add" == Str.ofString "hear") = false := by decide +kernel
theorem nb_add_pull : (Str.ofString "add" == Str.ofString "pull") = false := by decide +kernel
theorem nb_add_push : (Str.ofString "add" == Str.ofString "push") = false := by decide +kernel
theorem nb_add_read : (Str.ofString "add" == Str.ofString "read") = false := by decide +kernel
theorem nb_add_send : (Str.ofString "add" == Str.ofString "send") = false := by decide +kernel
theorem nb_add_state : (Str.ofString "add" == Str.ofString "state") = false := by decide +kernel
theorem nb_add_write : (Str.ofString "add" == Str.ofString "write") = false := by decide +kernel
theorem nb_count_kind : (Str.ofString "count" == Str.ofString "kind") = false := by decide +kernel
theorem nb_count_add : (Str.ofString "count" == Str.ofString "add") = false := by decide +kernel
theorem nb_count_end : (Str.ofString "count" == Str.ofString "end") = false := by decide +kernel
theorem nb_count_hear : (Str.ofString "count" == Str.ofString "hear") = false := by decide +kernel
theorem nb_count_pull : (Str.ofString "count" == Str.ofString "pull") = false := by decide +kernel
theorem nb_count_push : (Str.ofString "count" == Str.ofString "push") = false := by decide +kernel
theorem nb_count_read : (Str.ofString "count" == Str.ofString "read") = false := by decide +kernel
theorem nb_count_send : (Str.ofString "count" == Str.ofString "send") = false := by decide +kernel
theorem nb_count_state : (Str.ofString "count" == Str.ofString "state") = false := by decide +kernel
theorem nb_count_write : (Str.ofString "count" == Str.ofString "write") = false := by decide +kernel
theorem nb_end_kind : (Str.ofString "end" == Str.ofString "kind") = false := by decide +kernel
theorem nb_end_add : (Str.ofString "end" == Str.ofString "add") = false := by decide +kernel
theorem nb_end_count : (Str.ofString "end" == Str.ofString "count") = false := by decide +kernel
theorem nb_end_hear : (Str.ofString "end" == Str.ofString "hear") = false := by decide +kernel
theorem nb_end_pull : (Str.ofString "end" == Str.ofString "pull") = false := by decide +kernel
theorem nb_end_push : (Str.ofString "end" == Str.ofString "push") = false := by decide +kernel
theorem nb_end_read : (Str.ofString "end" == Str.ofString "read") = false := by decide +kernel
theorem nb_end_send : (Str.ofString "end" == Str.ofString "send") = false := by decide +kernel
theorem nb_end_state : (Str.ofString "end" == Str.ofString "state") = false := by decide +kernel
theorem nb_end_write : (Str.ofString "end" == Str.ofString "write") = false := by decide +kernel
theorem nb_hear_kind : (Str.ofString "hear" == Str.ofString "kind") = false := by decide +kernel
theorem nb_hear_add : (Str.ofString "hear" == Str.ofString "add") = false := by decide +kernel
theorem nb_hear_count : (Str.ofString "hear" == Str.ofString "count") = false := by decide +kernel
theorem nb_hear_end : (Str.ofString "hear" == Str.ofString "end") = false := by decide +kernel
theorem nb_hear_pull : (Str.ofString "hear" == Str.ofString "pull") = false := by decide +kernel
theorem nb_hear_push : (Str.ofString "hear" == Str.ofString "push") = false := by decide +kernel
theorem nb_hear_read : (Str.ofString "hear" == Str.ofString "read") = false := by decide +kernel
theorem nb_hear_send : (Str.ofString "hear" == Str.ofString "send") = false := by decide +kernel
theorem nb_hear_state : (Str.ofString "hear" == Str.ofString "state") = false := by decide +kernel
theorem nb_hear_write : (Str.ofString "hear" == Str.ofString "write") = false := by decide +kernel
theorem nb_pull_kind : (Str.ofString "pull" == Str.ofString "kind") = false := by decide +kernel
theorem nb_pull_add : (Str.ofString "pull" == Str.ofString "add") = false := by decide +kernel
theorem nb_pull_count : (Str.ofString "pull" == Str.ofString "count") = false := by decide +kernel
theorem nb_pull_end : (Str.ofString "pull" == Str.ofString "end") = false := by decide +kernel
theorem nb_pull_hear : (Str.ofString "pull" == Str.ofString "hear") = false := by decide +kernel
theorem nb_pull_push : (Str.ofString "pull" == Str.ofString "push") = false := by decide +kernel
theorem nb_pull_read : (Str.ofString "pull" == Str.ofString "read") = false := by decide +kernel
theorem nb_pull_send : (Str.ofString "pull" == Str.ofString "send") = false := by decide +kernel
theorem nb_pull_state : (Str.ofString "pull" == Str.ofString "state") = false := by decide +kernel
theorem nb_pull_write : (Str.ofString "pull" == Str.ofString "write") = false := by decide +kernel
theorem nb_push_kind : (Str.ofString "push" == Str.ofString "kind") = false := by decide +kernel
theorem nb_push_add : (Str.ofString "push" == Str.ofString "add") = false := by decide +kernel
theorem nb_push_count : (Str.ofString "push" == Str.ofString "count") = false := by decide +kernel
theorem nb_push_end : (Str.ofString "push" == Str.ofString "end") = false := by decide +kernel
theorem nb_push_hear : (Str.ofString "push" == Str.ofString "hear") = false := by decide +kernel
theorem nb_push_pull : (Str.ofString "push" == Str.ofString "pull") = false := by decide +kernel
theorem nb_push_read : (Str.ofString "push" == Str.ofString "read") = false := by decide +kernel
theorem nb_push_send : (Str.ofString "push" == Str.ofString "send") = false := by decide +kernel
theorem nb_push_state : (Str.ofString "push" == Str.ofString "state") = false := by decide +kernel
theorem nb_push_write : (Str.ofString "push" == Str.ofString "write") = false := by decide +kernel
theorem nb_read_kind : (Str.ofString "read" == Str.ofString "kind") = false := by decide +kernel
theorem nb_read_add : (Str.ofString "read" == Str.ofString "add") = false := by decide +kernel
theorem nb_read_count : (Str.ofString "read" == Str.ofString "count") = false := by decide +kernel
theorem nb_read_end : (Str.ofString "read" == Str.ofString "end") = false := by decide +kernel
theorem nb_read_hear : (Str.ofString "read" == Str.ofString "hear") = false := by decide +kernel
theorem nb_read_pull : (Str.ofString "read" == Str.ofString "pull") = false := by decide +kernel
theorem nb_read_push : (Str.ofString "read" == Str.ofString "push") = false := by decide +kernel
theorem nb_read_send : (Str.ofString "read" == Str.ofString "send") = false := by decide +kernel
theorem nb_read_state : (Str.ofString "read" == Str.ofString "state") = false := by decide +kernel
theorem nb_read_write : (Str.ofString "read" == Str.ofString "write") = false := by decide +kernel
theorem nb_send_kind : (Str.ofString "send" == Str.ofString "kind") = false := by decide +kernel
theorem nb_send_add : (Str.ofString "send" == Str.ofString "add") = false := by decide +kernel
theorem nb_send_count : (Str.ofString "send" == Str.ofString "count") = false := by decide +kernel
theorem nb_send_end : (Str.ofString "send" == Str.ofString "end") = false := by decide +kernel
theorem nb_send_hear : (Str.ofString "send" == Str.ofString "hear") = false := by decide +kernel
theorem nb_send_pull : (Str.ofString "send" == Str.ofString "pull") = false := by decide +kernel
theorem nb_send_push : (Str.ofString "send" == Str.ofString "push") = false := by decide +kernel
theorem nb_send_read : (Str.ofString "send" == Str.ofString "read") = false := by decide +kernel
theorem nb_send_state : (Str.ofString "send" == Str.ofString "state") = false := by decide +kernel
theorem nb_send_write : (Str.ofString "send" == Str.ofString "write") = false := by decide +kernel
theorem nb_state_kind : (Str.ofString "state" == Str.ofString "kind") = false := by decide +kernel
theorem nb_state_add : (Str.ofString "state" == Str.ofString "add") = false := by decide +kernel
theorem nb_state_count : (Str.ofString "state" == Str.ofString "count") = false := by decide +kernel
theorem nb_state_end : (Str.ofString "state" == Str.ofString "end") = false := by decide +kernel
theorem nb_state_hear : (Str.ofString "state" == Str.ofString "hear") = false := by decide +kernel
theorem nb_state_pull : (Str.ofString "state" == Str.ofString "pull") = false := by decide +kernel
theorem nb_state_push : (Str.ofString "state" == Str.ofString "push") = false := by decide +kernel
theorem nb_state_read : (Str.ofString "state" == Str.ofString "read") = false := by decide +kernel
theorem nb_state_send : (Str.ofString "state" == Str.ofString "send") = false := by decide +kernel
theorem nb_state_write : (Str.ofString "state" == Str.ofString "write") = false := by decide +kernel
theorem nb_write_kind : (Str.ofString "write" == Str.ofString "kind") = false := by decide +kernel
theorem nb_write_add : (Str.ofString "write" == Str.ofString "add") = false := by decide +kernel
theorem nb_write_count : (Str.ofString "write" == Str.ofString "count") = false := by decide +kernel
theorem nb_write_end : (Str.ofString "write" == Str.ofString "end") = false := by decide +kernel
theorem nb_write_hear : (Str.ofString "write" == Str.ofString "hear") = false := by decide +kernel
theorem nb_write_pull : (Str.ofString "write" == Str.ofString "pull") = false := by decide +kernel
theorem nb_write_push : (Str.ofString "write" == Str.ofString "push") = false := by decide +kernel
theorem nb_write_read : (Str.ofString "write" == Str.ofString "read") = false := by decide +kernel
theorem nb_write_send : (Str.ofString "write" == Str.ofString "send") = false := by decide +kernel
theorem nb_write_state : (Str.ofString "write" == Str.ofString "state") = false := by decide +kernel
def ob (k : Nat) : O := match k with
  | 0 => cellO 0
  | 1 => lineO 1
  | 2 => doorO 2
  | _ => postO 3 "a"
def dic0 : List (Key × W) := [(.inr "read", .int 1), (.inr "write", .int 2), (.inr "add", .int 3)]
theorem nd_dic0 : ndK [.inr (Str.ofString "read"), .inr (Str.ofString "write"), .inr (Str.ofString "add")] = true := by decide +kernel
theorem gk0_0 : getK dic0 (.inr (Str.ofString "read")) = some (.int 1) := rfl
theorem gk0_1 : getK dic0 (.inr (Str.ofString "write")) = some (.int 2) := rfl
theorem gk0_2 : getK dic0 (.inr (Str.ofString "add")) = some (.int 3) := rfl
theorem gk0_n {d : Str} (h0 : ¬ d = Str.ofString "read") (h1 : ¬ d = Str.ofString "write") (h2 : ¬ d = Str.ofString "add") : getK dic0 (.inr d) = none := by
  have q : ∀ (kvs : List (Key × W)), (∀ kv ∈ kvs, kv.1 ≠ .inr d) → getK kvs (.inr d) = none := fun kvs h => by
    unfold getK
    rw [Option.map_eq_none_iff, List.find?_eq_none]
    intro kv hkv
    simpa using h kv hkv
  refine q _ fun kv hkv => ?_
  simp only [dic0, List.mem_cons, List.not_mem_nil, or_false] at hkv
  rcases hkv with rfl | rfl | rfl <;> (intro e; have e := Sum.inr.inj e)
  · exact h0 e.symm
  · exact h1 e.symm
  · exact h2 e.symm
def dic1 : List (Key × W) := [(.inr "push", .int 2), (.inr "pull", .int 3), (.inr "count", .int 1)]
theorem nd_dic1 : ndK [.inr (Str.ofString "push"), .inr (Str.ofString "pull"), .inr (Str.ofString "count")] = true := by decide +kernel
theorem gk1_0 : getK dic1 (.inr (Str.ofString "push")) = some (.int 2) := rfl
theorem gk1_1 : getK dic1 (.inr (Str.ofString "pull")) = some (.int 3) := rfl
theorem gk1_2 : getK dic1 (.inr (Str.ofString "count")) = some (.int 1) := rfl
theorem gk1_n {d : Str} (h0 : ¬ d = Str.ofString "push") (h1 : ¬ d = Str.ofString "pull") (h2 : ¬ d = Str.ofString "count") : getK dic1 (.inr d) = none := by
  have q : ∀ (kvs : List (Key × W)), (∀ kv ∈ kvs, kv.1 ≠ .inr d) → getK kvs (.inr d) = none := fun kvs h => by
    unfold getK
    rw [Option.map_eq_none_iff, List.find?_eq_none]
    intro kv hkv
    simpa using h kv hkv
  refine q _ fun kv hkv => ?_
  simp only [dic1, List.mem_cons, List.not_mem_nil, or_false] at hkv
  rcases hkv with rfl | rfl | rfl <;> (intro e; have e := Sum.inr.inj e)
  · exact h0 e.symm
  · exact h1 e.symm
  · exact h2 e.symm
def dic2 : List (Key × W) := [(.inr "count", .int 1), (.inr "send", .int 4), (.inr "hear", .int 8)]
theorem nd_dic2 : ndK [.inr (Str.ofString "count"), .inr (Str.ofString "send"), .inr (Str.ofString "hear")] = true := by decide +kernel
theorem gk2_0 : getK dic2 (.inr (Str.ofString "count")) = some (.int 1) := rfl
theorem gk2_1 : getK dic2 (.inr (Str.ofString "send")) = some (.int 4) := rfl
theorem gk2_2 : getK dic2 (.inr (Str.ofString "hear")) = some (.int 8) := rfl
theorem gk2_n {d : Str} (h0 : ¬ d = Str.ofString "count") (h1 : ¬ d = Str.ofString "send") (h2 : ¬ d = Str.ofString "hear") : getK dic2 (.inr d) = none := by
  have q : ∀ (kvs : List (Key × W)), (∀ kv ∈ kvs, kv.1 ≠ .inr d) → getK kvs (.inr d) = none := fun kvs h => by
    unfold getK
    rw [Option.map_eq_none_iff, List.find?_eq_none]
    intro kv hkv
    simpa using h kv hkv
  refine q _ fun kv hkv => ?_
  simp only [dic2, List.mem_cons, List.not_mem_nil, or_false] at hkv
  rcases hkv with rfl | rfl | rfl <;> (intro e; have e := Sum.inr.inj e)
  · exact h0 e.symm
  · exact h1 e.symm
  · exact h2 e.symm
def dic3 : List (Key × W) := [(.inr "state", .int 1), (.inr "end", .int 16)]
theorem nd_dic3 : ndK [.inr (Str.ofString "state"), .inr (Str.ofString "end")] = true := by decide +kernel
theorem gk3_0 : getK dic3 (.inr (Str.ofString "state")) = some (.int 1) := rfl
theorem gk3_1 : getK dic3 (.inr (Str.ofString "end")) = some (.int 16) := rfl
theorem gk3_n {d : Str} (h0 : ¬ d = Str.ofString "state") (h1 : ¬ d = Str.ofString "end") : getK dic3 (.inr d) = none := by
  have q : ∀ (kvs : List (Key × W)), (∀ kv ∈ kvs, kv.1 ≠ .inr d) → getK kvs (.inr d) = none := fun kvs h => by
    unfold getK
    rw [Option.map_eq_none_iff, List.find?_eq_none]
    intro kv hkv
    simpa using h kv hkv
  refine q _ fun kv hkv => ?_
  simp only [dic3, List.mem_cons, List.not_mem_nil, or_false] at hkv
  rcases hkv with rfl | rfl <;> (intro e; have e := Sum.inr.inj e)
  · exact h0 e.symm
  · exact h1 e.symm
theorem bor12 : Builtin.bitOr 1 2 = 3 := by decide +kernel
def dicK (k : Nat) : List (Key × W) := match k with
  | 0 => dic0
  | 1 => dic1
  | 2 => dic2
  | _ => dic3
def nt (w : W) : Prop := w = .non ∨ w = .bl true ∨ w = .bl false ∨ w = .int 0 ∨ w = .int 1 ∨ w = .tl [.str "read"] ∨ w = .tup [.str "kind"] ∨ w = .td [] []
def good (w : W) : Prop := nt w ∨ ∃ z, w = .str z
theorem eqD_nt {h : Mem} {w : W} (g : good w) : eqD h w w = some (.bl true) := by
  have f : ∀ {x : W}, eqM h 4 x x = some true → eqO h x x = some (.bl true) := fun e => by unfold eqO; rw [e]; rfl
  rcases g with (rfl | rfl | rfl | rfl | rfl | rfl | rfl | rfl) | ⟨z, rfl⟩
  · exact f (eqM_flat rfl (eqFl_self rfl))
  · exact f (eqM_flat rfl (eqFl_self rfl))
  · exact f (eqM_flat rfl (eqFl_self rfl))
  · exact f (eqM_flat rfl (eqFl_self rfl))
  · exact f (eqM_flat rfl (eqFl_self rfl))
  · exact f (eqM_tl (by intro w hw; simp at hw; subst hw; rfl))
  · exact f (eqM_tup (by intro w hw; simp at hw; subst hw; rfl))
  · rfl
  · exact f (eqM_flat rfl (eqFl_self rfl))
theorem pickW {l : List W} {i : Int} (h0 : 0 ≤ i) (h1 : i < l.length) : ∃ y ∈ l, atI l i = some y := by
  refine ⟨l.getD i.toNat .non, ?_, atI_getD _ h0 h1⟩
  have h : i.toNat < l.length := by omega
  rw [List.getD_eq_getElem?_getD, List.getElem?_eq_getElem h]
  exact List.getElem_mem h
theorem len_add (x y : Str) : (x ++ y).length = x.length + y.length := by rw [length_codes, codes_add, List.length_append, ← length_codes, ← length_codes]
theorem pick {l : List Str} {i : Int} (h0 : 0 ≤ i) (h1 : i < l.length) : ∃ y ∈ l, atI (l.map W.str) i = some (.str y) := by
  refine ⟨l.getD i.toNat "", ?_, ?_⟩
  · have h : i.toNat < l.length := by omega
    rw [List.getD_eq_getElem?_getD, List.getElem?_eq_getElem h]
    exact List.getElem_mem h
  · rw [atI_getD (.str "") h0 (by simpa using h1)]
    have h : i.toNat < l.length := by omega
    simp [List.getD, h]
section
variable {P : Program} {w : World} {K : PySem.W.Frag} {mg : Str → Option Value} {base : Heap} {C : Cs}
theorem xFor_loop {fi : Ei} {G : Tg} {B : Sm} {ρ : Sg} {h h' : Mem} {ws : List W} (e : fi ρ h = .ok none ws h') : xFor fi G B ρ h = xLoop G B ws ρ h' := by unfold xFor; rw [e]
theorem xSeq_nx {F G : Sm} {ρ ρ' : Sg} {h h' : Mem} (e : F ρ h = .nx ρ' h') : xSeq F G ρ h = G ρ' h' := by unfold xSeq; rw [e]
theorem ok_ini {f : Addr} {fd : FuncData} {L D : Addr} (hC : IniOk K L "deed") (hB : BaseOk K D) (hm : mg "PassError" = some (.ref D)) (R : Fun K "__init__" "NoDeed.__init__" s_NoDeed__init f fd) : FnOk P w K mg base CX0 1 f fd ["self", "deed"] (spI L "deed") :=
  ini_ok R sc_NoDeed__init fun cdv A outer s H E => pss_cons (ps_expr (pe_ini hB hC.ei hm rfl (pa_cons (pe_var rfl (Or.inl rfl)) (pa_cons pe_str pa_nil)))) (pss_one (ps_ini hC (pe_var rfl (Or.inl rfl)) (pe_var rfl (Or.inl rfl))))
def S_ti (F : Fm) : Prop := ∀ h n a c, h[n]? = some (.ins c []) → F [.ref n, .int a] h = .ok .non (h.set n (.ins c [("number", .int a)]))
theorem ok_ti (T : Tx K mg C) {f : Addr} {fd : FuncData} (R : Fun K "__init__" "Thing.__init__" s_Thing__init f fd) : ∃ F, FnOk P w K mg base CX0 1 f fd ["self", "number"] (spH (T0 C) F) ∧ S_ti F := by
  refine ⟨_, (funM R sc_Thing__init (hB := fun cdv A outer s H E φ0 H0 hr => (qb_one (qs_fld (q_var 0) (q_var 1) T.f_number)))) selfF_ex selfF_told, ?_⟩
  intro h n a c e
  refine selfF_ok rfl ?_ (by simp)
  simp [e, xSetF, putW, runB, startW, Out.res, xSeq, xIfS, xRet, xRetN, xDrop, xAsg, gN, xNext, xVar, xC, xNil, xCons, xBin, xUn, xCb, xBm, xAnd, xOr, xNot, xIf, xChain, xTup, xLst, xCall0, xNo, Res.bind, Res.of, iop, iopC, subM, divM, modM, mulM, powM, bandM, borM, ltM, gtM, geM, leM, negM, invM, addM, items, ixM, seqs, eqO, neO, eqM, flatW, eqFl, isiM, tyN, Kit.get, absM, sizeLine_eq, xFor, xLoop, xIl, xIt, xSl, xPn, xPs, slM, lenM, truM, intW, sumM, intM, maxM, minM, ordM, listM, isNonW, isNM, notNM, isBM, isnotBM, strW, joinM, xBmS, xIs, allBM, bolW, inM, keyW, dicts, ρC, splitM, gT2, xCallX, xMethX, xRaise, xTry, endX, fgt, xBmL, countM, slTM, isiX, tyX, kitA, clTy, catTM, tupleM, xLstN, countSM, indexSM, xLm, appM, xIr1, xRaiseI, xXf]
def S_i0 (F : Fm) : Prop := ∀ h n a, h[n]? = some (.ins "Cell" []) → F [.ref n, .int a] h = .ok .non (h.set n (cellO a))
theorem ok_i0 (T : Tx K mg C) {Ft : Fm} (hFt : S_ti Ft) (C_Thing_init : ClAt P w K mg base (T0 C) 1 "Thing" "__init__" Ft) {f : Addr} {fd : FuncData} (R : Fun K "__init__" "Cell.__init__" s_Cell__init f fd) :
    ∃ F, FnOk P w K mg base CX0 2 f fd ["self", "number"] (spH (T0 C) F) ∧ S_i0 F := by
  refine ⟨_, (funM R sc_Cell__init (hB := fun cdv A outer s H E φ0 H0 hr => (qb_cons (qs_expr (q_clcall C_Thing_init hr (by decide) rfl (qa_cons (q_var 0) (qa_cons (q_var 1) qa_nil))))
      (qb_one (qs_fld (q_var 0) q_int T.f_amount))))) selfF_ex selfF_told, ?_⟩
  intro h n a e
  have hl : n < h.length := (List.getElem?_eq_some_iff.mp e).1
  refine selfF_ok rfl ?_ (by simp)
  simp [hFt h n a _ e, xSetF, putW, hl, n_number_amount, n_amount_number, n_number_numbers, n_numbers_number, n_number_waiting, n_waiting_number, n_number_name, n_number_runs, n_name_number, n_name_runs, n_runs_number, n_runs_name, cellO, runB, startW, Out.res, xSeq, xIfS, xRet, xRetN, xDrop, xAsg, gN, xNext, xVar, xC, xNil, xCons, xBin, xUn, xCb, xBm, xAnd, xOr, xNot, xIf, xChain, xTup, xLst, xCall0, xNo, Res.bind, Res.of, iop, iopC, subM, divM, modM, mulM, powM, bandM, borM, ltM, gtM, geM, leM, negM, invM, addM, items, ixM, seqs, eqO, neO, eqM, flatW, eqFl, isiM, tyN, Kit.get, absM, sizeLine_eq, xFor, xLoop, xIl, xIt, xSl, xPn, xPs, slM, lenM, truM, intW, sumM, intM, maxM, minM, ordM, listM, isNonW, isNM, notNM, isBM, isnotBM, strW, joinM, xBmS, xIs, allBM, bolW, inM, keyW, dicts, ρC, splitM, gT2, xCallX, xMethX, xRaise, xTry, endX, fgt, xBmL, countM, slTM, isiX, tyX, kitA, clTy, catTM, tupleM, xLstN, countSM, indexSM, xLm, appM, xIr1, xRaiseI, xXf]
def S_i1 (F : Fm) : Prop := ∀ h n a, h[n]? = some (.ins "Line" []) → F [.ref n, .int a] h = .ok .non (h.set n (lineO a))
theorem ok_i1 (T : Tx K mg C) {Ft : Fm} (hFt : S_ti Ft) (C_Thing_init : ClAt P w K mg base (T0 C) 1 "Thing" "__init__" Ft) {f : Addr} {fd : FuncData} (R : Fun K "__init__" "Line.__init__" s_Line__init f fd) :
    ∃ F, FnOk P w K mg base CX0 2 f fd ["self", "number"] (spH (T0 C) F) ∧ S_i1 F := by
  refine ⟨_, (funM R sc_Line__init (hB := fun cdv A outer s H E φ0 H0 hr => (qb_cons (qs_expr (q_clcall C_Thing_init hr (by decide) rfl (qa_cons (q_var 0) (qa_cons (q_var 1) qa_nil))))
      (qb_one (qs_fld (q_var 0) (q_lst qa_nil) T.f_numbers))))) selfF_ex selfF_told, ?_⟩
  intro h n a e
  have hl : n < h.length := (List.getElem?_eq_some_iff.mp e).1
  refine selfF_ok rfl ?_ (by simp)
  simp [hFt h n a _ e, xSetF, putW, hl, n_number_amount, n_amount_number, n_number_numbers, n_numbers_number, n_number_waiting, n_waiting_number, n_number_name, n_number_runs, n_name_number, n_name_runs, n_runs_number, n_runs_name, lineO, runB, startW, Out.res, xSeq, xIfS, xRet, xRetN, xDrop, xAsg, gN, xNext, xVar, xC, xNil, xCons, xBin, xUn, xCb, xBm, xAnd, xOr, xNot, xIf, xChain, xTup, xLst, xCall0, xNo, Res.bind, Res.of, iop, iopC, subM, divM, modM, mulM, powM, bandM, borM, ltM, gtM, geM, leM, negM, invM, addM, items, ixM, seqs, eqO, neO, eqM, flatW, eqFl, isiM, tyN, Kit.get, absM, sizeLine_eq, xFor, xLoop, xIl, xIt, xSl, xPn, xPs, slM, lenM, truM, intW, sumM, intM, maxM, minM, ordM, listM, isNonW, isNM, notNM, isBM, isnotBM, strW, joinM, xBmS, xIs, allBM, bolW, inM, keyW, dicts, ρC, splitM, gT2, xCallX, xMethX, xRaise, xTry, endX, fgt, xBmL, countM, slTM, isiX, tyX, kitA, clTy, catTM, tupleM, xLstN, countSM, indexSM, xLm, appM, xIr1, xRaiseI, xXf]
def S_i2 (F : Fm) : Prop := ∀ h n a, h[n]? = some (.ins "Door" []) → F [.ref n, .int a] h = .ok .non (h.set n (doorO a))
theorem ok_i2 (T : Tx K mg C) {Ft : Fm} (hFt : S_ti Ft) (C_Thing_init : ClAt P w K mg base (T0 C) 1 "Thing" "__init__" Ft) {f : Addr} {fd : FuncData} (R : Fun K "__init__" "Door.__init__" s_Door__init f fd) :
    ∃ F, FnOk P w K mg base CX0 2 f fd ["self", "number"] (spH (T0 C) F) ∧ S_i2 F := by
  refine ⟨_, (funM R sc_Door__init (hB := fun cdv A outer s H E φ0 H0 hr => (qb_cons (qs_expr (q_clcall C_Thing_init hr (by decide) rfl (qa_cons (q_var 0) (qa_cons (q_var 1) qa_nil))))
      (qb_one (qs_fld (q_var 0) (q_lst qa_nil) T.f_waiting))))) selfF_ex selfF_told, ?_⟩
  intro h n a e
  have hl : n < h.length := (List.getElem?_eq_some_iff.mp e).1
  refine selfF_ok rfl ?_ (by simp)
  simp [hFt h n a _ e, xSetF, putW, hl, n_number_amount, n_amount_number, n_number_numbers, n_numbers_number, n_number_waiting, n_waiting_number, n_number_name, n_number_runs, n_name_number, n_name_runs, n_runs_number, n_runs_name, doorO, runB, startW, Out.res, xSeq, xIfS, xRet, xRetN, xDrop, xAsg, gN, xNext, xVar, xC, xNil, xCons, xBin, xUn, xCb, xBm, xAnd, xOr, xNot, xIf, xChain, xTup, xLst, xCall0, xNo, Res.bind, Res.of, iop, iopC, subM, divM, modM, mulM, powM, bandM, borM, ltM, gtM, geM, leM, negM, invM, addM, items, ixM, seqs, eqO, neO, eqM, flatW, eqFl, isiM, tyN, Kit.get, absM, sizeLine_eq, xFor, xLoop, xIl, xIt, xSl, xPn, xPs, slM, lenM, truM, intW, sumM, intM, maxM, minM, ordM, listM, isNonW, isNM, notNM, isBM, isnotBM, strW, joinM, xBmS, xIs, allBM, bolW, inM, keyW, dicts, ρC, splitM, gT2, xCallX, xMethX, xRaise, xTry, endX, fgt, xBmL, countM, slTM, isiX, tyX, kitA, clTy, catTM, tupleM, xLstN, countSM, indexSM, xLm, appM, xIr1, xRaiseI, xXf]
def S_i3 (F : Fm) : Prop := ∀ h n a z, h[n]? = some (.ins "Post" []) → F [.ref n, .int a, .str z] h = .ok .non (h.set n (postO a z))
theorem ok_i3 (T : Tx K mg C) {Ft : Fm} (hFt : S_ti Ft) (C_Thing_init : ClAt P w K mg base (T0 C) 1 "Thing" "__init__" Ft) {f : Addr} {fd : FuncData} (R : Fun K "__init__" "Post.__init__" s_Post__init f fd) :
    ∃ F, FnOk P w K mg base CX0 2 f fd ["self", "number", "name"] (spH (T0 C) F) ∧ S_i3 F := by
  refine ⟨_, (funM R sc_Post__init (hB := fun cdv A outer s H E φ0 H0 hr => (qb_cons (qs_expr (q_clcall C_Thing_init hr (by decide) rfl (qa_cons (q_var 0) (qa_cons (q_var 1) qa_nil))))
      (qb_cons (qs_fld (q_var 0) (q_var 2) T.f_name)
      (qb_one (qs_fld (q_var 0) q_bl T.f_runs)))))) selfF_ex selfF_told, ?_⟩
  intro h n a z e
  have hl : n < h.length := (List.getElem?_eq_some_iff.mp e).1
  refine selfF_ok rfl ?_ (by simp)
  simp [hFt h n a _ e, xSetF, putW, hl, n_number_amount, n_amount_number, n_number_numbers, n_numbers_number, n_number_waiting, n_waiting_number, n_number_name, n_number_runs, n_name_number, n_name_runs, n_runs_number, n_runs_name, postO, runB, startW, Out.res, xSeq, xIfS, xRet, xRetN, xDrop, xAsg, gN, xNext, xVar, xC, xNil, xCons, xBin, xUn, xCb, xBm, xAnd, xOr, xNot, xIf, xChain, xTup, xLst, xCall0, xNo, Res.bind, Res.of, iop, iopC, subM, divM, modM, mulM, powM, bandM, borM, ltM, gtM, geM, leM, negM, invM, addM, items, ixM, seqs, eqO, neO, eqM, flatW, eqFl, isiM, tyN, Kit.get, absM, sizeLine_eq, xFor, xLoop, xIl, xIt, xSl, xPn, xPs, slM, lenM, truM, intW, sumM, intM, maxM, minM, ordM, listM, isNonW, isNM, notNM, isBM, isnotBM, strW, joinM, xBmS, xIs, allBM, bolW, inM, keyW, dicts, ρC, splitM, gT2, xCallX, xMethX, xRaise, xTry, endX, fgt, xBmL, countM, slTM, isiX, tyX, kitA, clTy, catTM, tupleM, xLstN, countSM, indexSM, xLm, appM, xIr1, xRaiseI, xXf]
def S_o0 (F : Fm) : Prop := ∀ h n, F [.ref n] h = .ok (.ref h.length) (h ++ [.dic dic0])
theorem ok_o0 (T : Tx K mg C) {f : Addr} {fd : FuncData} (R : Fun K "own_needs" "Cell.own_needs" s_Cell_own_needs f fd) : ∃ F, FnOk P w K mg base CX0 1 f fd ["self"] (spH (T0 C) F) ∧ S_o0 F := by
  refine ⟨_, (funM R sc_Cell_own_needs (hB := fun cdv A outer s H E φ0 H0 hr => (qb_one (qs_ret (q_disp (qp_cons q_str (q_gci rfl T.c_LOOK) (qp_cons q_str (q_gci rfl T.c_PUT) (qp_cons q_str (q_bin op_or borM_ok (q_gci rfl T.c_LOOK) (q_gci rfl T.c_PUT)) qp_nil)))))))) selfF_ex selfF_told, ?_⟩
  intro h n
  exact selfF_ok rfl (by simp [xDisp, xPairs, keysW, nd_dic0, dic0, bor12, runB, startW, Out.res, xSeq, xIfS, xRet, xRetN, xDrop, xAsg, gN, xNext, xVar, xC, xNil, xCons, xBin, xUn, xCb, xBm, xAnd, xOr, xNot, xIf, xChain, xTup, xLst, xCall0, xNo, Res.bind, Res.of, iop, iopC, subM, divM, modM, mulM, powM, bandM, borM, ltM, gtM, geM, leM, negM, invM, addM, items, ixM, seqs, eqO, neO, eqM, flatW, eqFl, isiM, tyN, Kit.get, absM, sizeLine_eq, xFor, xLoop, xIl, xIt, xSl, xPn, xPs, slM, lenM, truM, intW, sumM, intM, maxM, minM, ordM, listM, isNonW, isNM, notNM, isBM, isnotBM, strW, joinM, xBmS, xIs, allBM, bolW, inM, keyW, dicts, ρC, splitM, gT2, xCallX, xMethX, xRaise, xTry, endX, fgt, xBmL, countM, slTM, isiX, tyX, kitA, clTy, catTM, tupleM, xLstN, countSM, indexSM, xLm, appM, xIr1, xRaiseI, xXf]) (by simp)
def S_o1 (F : Fm) : Prop := ∀ h n, F [.ref n] h = .ok (.ref h.length) (h ++ [.dic dic1])
theorem ok_o1 (T : Tx K mg C) {f : Addr} {fd : FuncData} (R : Fun K "own_needs" "Line.own_needs" s_Line_own_needs f fd) : ∃ F, FnOk P w K mg base CX0 1 f fd ["self"] (spH (T0 C) F) ∧ S_o1 F := by
  refine ⟨_, (funM R sc_Line_own_needs (hB := fun cdv A outer s H E φ0 H0 hr => (qb_one (qs_ret (q_disp (qp_cons q_str (q_gci rfl T.c_PUT) (qp_cons q_str (q_bin op_or borM_ok (q_gci rfl T.c_LOOK) (q_gci rfl T.c_PUT)) (qp_cons q_str (q_gci rfl T.c_LOOK) qp_nil)))))))) selfF_ex selfF_told, ?_⟩
  intro h n
  exact selfF_ok rfl (by simp [xDisp, xPairs, keysW, nd_dic1, dic1, bor12, runB, startW, Out.res, xSeq, xIfS, xRet, xRetN, xDrop, xAsg, gN, xNext, xVar, xC, xNil, xCons, xBin, xUn, xCb, xBm, xAnd, xOr, xNot, xIf, xChain, xTup, xLst, xCall0, xNo, Res.bind, Res.of, iop, iopC, subM, divM, modM, mulM, powM, bandM, borM, ltM, gtM, geM, leM, negM, invM, addM, items, ixM, seqs, eqO, neO, eqM, flatW, eqFl, isiM, tyN, Kit.get, absM, sizeLine_eq, xFor, xLoop, xIl, xIt, xSl, xPn, xPs, slM, lenM, truM, intW, sumM, intM, maxM, minM, ordM, listM, isNonW, isNM, notNM, isBM, isnotBM, strW, joinM, xBmS, xIs, allBM, bolW, inM, keyW, dicts, ρC, splitM, gT2, xCallX, xMethX, xRaise, xTry, endX, fgt, xBmL, countM, slTM, isiX, tyX, kitA, clTy, catTM, tupleM, xLstN, countSM, indexSM, xLm, appM, xIr1, xRaiseI, xXf]) (by simp)
def S_o2 (F : Fm) : Prop := ∀ h n, F [.ref n] h = .ok (.ref h.length) (h ++ [.dic dic2])
theorem ok_o2 (T : Tx K mg C) {f : Addr} {fd : FuncData} (R : Fun K "own_needs" "Door.own_needs" s_Door_own_needs f fd) : ∃ F, FnOk P w K mg base CX0 1 f fd ["self"] (spH (T0 C) F) ∧ S_o2 F := by
  refine ⟨_, (funM R sc_Door_own_needs (hB := fun cdv A outer s H E φ0 H0 hr => (qb_one (qs_ret (q_disp (qp_cons q_str (q_gci rfl T.c_LOOK) (qp_cons q_str (q_gci rfl T.c_SEND) (qp_cons q_str (q_gci rfl T.c_HEAR) qp_nil)))))))) selfF_ex selfF_told, ?_⟩
  intro h n
  exact selfF_ok rfl (by simp [xDisp, xPairs, keysW, nd_dic2, dic2, bor12, runB, startW, Out.res, xSeq, xIfS, xRet, xRetN, xDrop, xAsg, gN, xNext, xVar, xC, xNil, xCons, xBin, xUn, xCb, xBm, xAnd, xOr, xNot, xIf, xChain, xTup, xLst, xCall0, xNo, Res.bind, Res.of, iop, iopC, subM, divM, modM, mulM, powM, bandM, borM, ltM, gtM, geM, leM, negM, invM, addM, items, ixM, seqs, eqO, neO, eqM, flatW, eqFl, isiM, tyN, Kit.get, absM, sizeLine_eq, xFor, xLoop, xIl, xIt, xSl, xPn, xPs, slM, lenM, truM, intW, sumM, intM, maxM, minM, ordM, listM, isNonW, isNM, notNM, isBM, isnotBM, strW, joinM, xBmS, xIs, allBM, bolW, inM, keyW, dicts, ρC, splitM, gT2, xCallX, xMethX, xRaise, xTry, endX, fgt, xBmL, countM, slTM, isiX, tyX, kitA, clTy, catTM, tupleM, xLstN, countSM, indexSM, xLm, appM, xIr1, xRaiseI, xXf]) (by simp)
def S_o3 (F : Fm) : Prop := ∀ h n, F [.ref n] h = .ok (.ref h.length) (h ++ [.dic dic3])
theorem ok_o3 (T : Tx K mg C) {f : Addr} {fd : FuncData} (R : Fun K "own_needs" "Post.own_needs" s_Post_own_needs f fd) : ∃ F, FnOk P w K mg base CX0 1 f fd ["self"] (spH (T0 C) F) ∧ S_o3 F := by
  refine ⟨_, (funM R sc_Post_own_needs (hB := fun cdv A outer s H E φ0 H0 hr => (qb_one (qs_ret (q_disp (qp_cons q_str (q_gci rfl T.c_LOOK) (qp_cons q_str (q_gci rfl T.c_END) qp_nil))))))) selfF_ex selfF_told, ?_⟩
  intro h n
  exact selfF_ok rfl (by simp [xDisp, xPairs, keysW, nd_dic3, dic3, bor12, runB, startW, Out.res, xSeq, xIfS, xRet, xRetN, xDrop, xAsg, gN, xNext, xVar, xC, xNil, xCons, xBin, xUn, xCb, xBm, xAnd, xOr, xNot, xIf, xChain, xTup, xLst, xCall0, xNo, Res.bind, Res.of, iop, iopC, subM, divM, modM, mulM, powM, bandM, borM, ltM, gtM, geM, leM, negM, invM, addM, items, ixM, seqs, eqO, neO, eqM, flatW, eqFl, isiM, tyN, Kit.get, absM, sizeLine_eq, xFor, xLoop, xIl, xIt, xSl, xPn, xPs, slM, lenM, truM, intW, sumM, intM, maxM, minM, ordM, listM, isNonW, isNM, notNM, isBM, isnotBM, strW, joinM, xBmS, xIs, allBM, bolW, inM, keyW, dicts, ρC, splitM, gT2, xCallX, xMethX, xRaise, xTry, endX, fgt, xBmL, countM, slTM, isiX, tyX, kitA, clTy, catTM, tupleM, xLstN, countSM, indexSM, xLm, appM, xIr1, xRaiseI, xXf]) (by simp)
def S_needs (F : Fm) : Prop := ∀ h n k, k < 4 → h[n]? = some (ob k) → (∀ w, nt w → F [.ref n, w] h = .ex (.exc "NoDeed" ["deed"] [w]) h) ∧ F [.ref n, .str "kind"] h = .ok (.int 0) h ∧
  (∀ d v, ¬ d = Str.ofString "kind" → getK (dicK k) (.inr d) = some v → F [.ref n, .str d] h = .ok v (h ++ [.dic (dicK k)])) ∧ ∀ d, ¬ d = Str.ofString "kind" → getK (dicK k) (.inr d) = none → F [.ref n, .str d] h = .ex (.exc "NoDeed" ["deed"] [.str d]) (h ++ [.dic (dicK k)])
theorem ok_needs (T : Tx K mg C) (Z_NoDeed : RzI P w K mg base (T0 C) 1 "NoDeed" "deed") {F0 F1 F2 F3 : Fm} (h0 : S_o0 F0) (h1 : S_o1 F1) (h2 : S_o2 F2) (h3 : S_o3 F3) (M_own_needs : TabAt P w K mg base (T0 C) 1 "own_needs" (tab4 F0 F1 F2 F3)) :
    ∃ F, (∀ {f : Addr} {fd : FuncData}, Fun K "needs" "Thing.needs" s_Thing_needs f fd → FnOk P w K mg base (CXe true P w) 3 f fd ["self", "deed"] (spH (T0 C) F)) ∧ S_needs F := by
  refine ⟨_, fun {f fd} R => (funX R sc_Thing_needs (hB := fun cdv A outer s H E φ0 hr hx => (qb_cons (qs_if (qt_not (qt_val (q_cb (isiX_ok T.ins T.exo T.kit) (call_isiX K rfl) rfl T.b_isinstance (by first | exact boot_b_isinstance | rfl) (qa_cons (q_var 1) (qa_cons (q_ty "str" rfl T.b_str (by first | exact boot_ty_str | rfl)) qa_nil))))) (qb_one (qs_raiseI Z_NoDeed hr (by decide) hx rfl (qa_cons (q_var 1) qa_nil))) qb_nil)
      (qb_cons (qs_if (qt_cmp (op_eqF hr) eqO_ok (q_var 1) q_str (nomark _)) (qb_one (qs_ret q_int)) qb_nil)
      (qb_cons (qs_set (i := 2) sc_Thing_needs.nd rfl (Or.inl rfl) (fun _ _ _ => trivial) (q_meth0 T.ins M_own_needs hr (by decide) (q_var 0)))
      (qb_cons (qs_if (qt_cmp (op_notInV hr) inM_ok (q_var 1) (q_var 2) (by rfl)) (qb_one (qs_raiseI Z_NoDeed hr (by decide) hx rfl (qa_cons (q_var 1) qa_nil))) qb_nil)
      (qb_one (qs_ret (q_dget hr (q_var 2) (q_var 1) (fun _ _ => rfl)))))))))) selfX_told, ?_⟩
  intro h n k hk e
  match k, hk with
  | 0, _ =>
    show (∀ w, nt w → selfX _ _ _ [.ref n, w] h = .ex (.exc "NoDeed" ["deed"] [w]) h) ∧ selfX _ _ _ [.ref n, .str "kind"] h = .ok (.int 0) h ∧ (∀ d v, ¬ d = Str.ofString "kind" → getK dic0 (.inr d) = some v → selfX _ _ _ [.ref n, .str d] h = .ok v (h ++ [.dic dic0])) ∧ ∀ d, ¬ d = Str.ofString "kind" → getK dic0 (.inr d) = none → selfX _ _ _ [.ref n, .str d] h = .ex (.exc "NoDeed" ["deed"] [.str d]) (h ++ [.dic dic0])
    have e : h[n]? = some (cellO 0) := e
    simp only [cellO] at e
    have z1 := h0 h n
    have z2 : (h ++ [O.dic dic0])[h.length]? = some (.dic dic0) := by simp
    refine ⟨fun w hw => selfX_exc rfl ?_ (by simp), selfX_ok rfl ?_ (by simp), fun d v hd g => selfX_ok rfl ?_ (by simp), fun d hd g => selfX_exc rfl ?_ (by simp)⟩
    · rcases hw with rfl | rfl | rfl | rfl | rfl | rfl | rfl | rfl <;> simp [kg_0, kg_1, kg_2, kg_3, kg_4, kg_5, kg_6, kg_7, kg_8, kg_9, kg_10, kg_11, kg_12, kg_13, kg_14, kg_15, kg_16, kg_17, kg_18, kg_19, kg_20, kg_21, kg_22, kg_23, kg_24, kg_25, kg_26, kg_27, kg_28, kg_29, kg_30, kg_31, kg_32, kg_33, kg_34, runB, startW, Out.res, xSeq, xIfS, xRet, xRetN, xDrop, xAsg, gN, xNext, xVar, xC, xNil, xCons, xBin, xUn, xCb, xBm, xAnd, xOr, xNot, xIf, xChain, xTup, xLst, xCall0, xNo, Res.bind, Res.of, iop, iopC, subM, divM, modM, mulM, powM, bandM, borM, ltM, gtM, geM, leM, negM, invM, addM, items, ixM, seqs, eqO, neO, eqM, flatW, eqFl, isiM, tyN, absM, sizeLine_eq, xFor, xLoop, xIl, xIt, xSl, xPn, xPs, slM, lenM, truM, intW, sumM, intM, maxM, minM, ordM, listM, isNonW, isNM, notNM, isBM, isnotBM, strW, joinM, xBmS, xIs, allBM, bolW, inM, keyW, dicts, ρC, splitM, gT2, xCallX, xMethX, xRaise, xTry, endX, fgt, xBmL, countM, slTM, isiX, tyX, kitA, clTy, catTM, tupleM, xLstN, countSM, indexSM, xLm, appM, xIr1, xRaiseI, xXf]
    · simp [kg_0, kg_1, kg_2, kg_3, kg_4, kg_5, kg_6, kg_7, kg_8, kg_9, kg_10, kg_11, kg_12, kg_13, kg_14, kg_15, kg_16, kg_17, kg_18, kg_19, kg_20, kg_21, kg_22, kg_23, kg_24, kg_25, kg_26, kg_27, kg_28, kg_29, kg_30, kg_31, kg_32, kg_33, kg_34, runB, startW, Out.res, xSeq, xIfS, xRet, xRetN, xDrop, xAsg, gN, xNext, xVar, xC, xNil, xCons, xBin, xUn, xCb, xBm, xAnd, xOr, xNot, xIf, xChain, xTup, xLst, xCall0, xNo, Res.bind, Res.of, iop, iopC, subM, divM, modM, mulM, powM, bandM, borM, ltM, gtM, geM, leM, negM, invM, addM, items, ixM, seqs, eqO, neO, eqM, flatW, eqFl, isiM, tyN, absM, sizeLine_eq, xFor, xLoop, xIl, xIt, xSl, xPn, xPs, slM, lenM, truM, intW, sumM, intM, maxM, minM, ordM, listM, isNonW, isNM, notNM, isBM, isnotBM, strW, joinM, xBmS, xIs, allBM, bolW, inM, keyW, dicts, ρC, splitM, gT2, xCallX, xMethX, xRaise, xTry, endX, fgt, xBmL, countM, slTM, isiX, tyX, kitA, clTy, catTM, tupleM, xLstN, countSM, indexSM, xLm, appM, xIr1, xRaiseI, xXf]
    · simp [e, no_cell_own_needs, t4_0, z1, z2, xMeth, dgetM, g, hd, kg_0, kg_1, kg_2, kg_3, kg_4, kg_5, kg_6, kg_7, kg_8, kg_9, kg_10, kg_11, kg_12, kg_13, kg_14, kg_15, kg_16, kg_17, kg_18, kg_19, kg_20, kg_21, kg_22, kg_23, kg_24, kg_25, kg_26, kg_27, kg_28, kg_29, kg_30, kg_31, kg_32, kg_33, kg_34, runB, startW, Out.res, xSeq, xIfS, xRet, xRetN, xDrop, xAsg, gN, xNext, xVar, xC, xNil, xCons, xBin, xUn, xCb, xBm, xAnd, xOr, xNot, xIf, xChain, xTup, xLst, xCall0, xNo, Res.bind, Res.of, iop, iopC, subM, divM, modM, mulM, powM, bandM, borM, ltM, gtM, geM, leM, negM, invM, addM, items, ixM, seqs, eqO, neO, eqM, flatW, eqFl, isiM, tyN, absM, sizeLine_eq, xFor, xLoop, xIl, xIt, xSl, xPn, xPs, slM, lenM, truM, intW, sumM, intM, maxM, minM, ordM, listM, isNonW, isNM, notNM, isBM, isnotBM, strW, joinM, xBmS, xIs, allBM, bolW, inM, keyW, dicts, ρC, splitM, gT2, xCallX, xMethX, xRaise, xTry, endX, fgt, xBmL, countM, slTM, isiX, tyX, kitA, clTy, catTM, tupleM, xLstN, countSM, indexSM, xLm, appM, xIr1, xRaiseI, xXf]
    · simp [e, no_cell_own_needs, t4_0, z1, z2, xMeth, dgetM, g, hd, kg_0, kg_1, kg_2, kg_3, kg_4, kg_5, kg_6, kg_7, kg_8, kg_9, kg_10, kg_11, kg_12, kg_13, kg_14, kg_15, kg_16, kg_17, kg_18, kg_19, kg_20, kg_21, kg_22, kg_23, kg_24, kg_25, kg_26, kg_27, kg_28, kg_29, kg_30, kg_31, kg_32, kg_33, kg_34, runB, startW, Out.res, xSeq, xIfS, xRet, xRetN, xDrop, xAsg, gN, xNext, xVar, xC, xNil, xCons, xBin, xUn, xCb, xBm, xAnd, xOr, xNot, xIf, xChain, xTup, xLst, xCall0, xNo, Res.bind, Res.of, iop, iopC, subM, divM, modM, mulM, powM, bandM, borM, ltM, gtM, geM, leM, negM, invM, addM, items, ixM, seqs, eqO, neO, eqM, flatW, eqFl, isiM, tyN, absM, sizeLine_eq, xFor, xLoop, xIl, xIt, xSl, xPn, xPs, slM, lenM, truM, intW, sumM, intM, maxM, minM, ordM, listM, isNonW, isNM, notNM, isBM, isnotBM, strW, joinM, xBmS, xIs, allBM, bolW, inM, keyW, dicts, ρC, splitM, gT2, xCallX, xMethX, xRaise, xTry, endX, fgt, xBmL, countM, slTM, isiX, tyX, kitA, clTy, catTM, tupleM, xLstN, countSM, indexSM, xLm, appM, xIr1, xRaiseI, xXf]
  | 1, _ =>
    show (∀ w, nt w → selfX _ _ _ [.ref n, w] h = .ex (.exc "NoDeed" ["deed"] [w]) h) ∧ selfX _ _ _ [.ref n, .str "kind"] h = .ok (.int 0) h ∧ (∀ d v, ¬ d = Str.ofString "kind" → getK dic1 (.inr d) = some v → selfX _ _ _ [.ref n, .str d] h = .ok v (h ++ [.dic dic1])) ∧ ∀ d, ¬ d = Str.ofString "kind" → getK dic1 (.inr d) = none → selfX _ _ _ [.ref n, .str d] h = .ex (.exc "NoDeed" ["deed"] [.str d]) (h ++ [.dic dic1])
    have e : h[n]? = some (lineO 1) := e
    simp only [lineO] at e
    have z1 := h1 h n
    have z2 : (h ++ [O.dic dic1])[h.length]? = some (.dic dic1) := by simp
    refine ⟨fun w hw => selfX_exc rfl ?_ (by simp), selfX_ok rfl ?_ (by simp), fun d v hd g => selfX_ok rfl ?_ (by simp), fun d hd g => selfX_exc rfl ?_ (by simp)⟩
    · rcases hw with rfl | rfl | rfl | rfl | rfl | rfl | rfl | rfl <;> simp [kg_0, kg_1, kg_2, kg_3, kg_4, kg_5, kg_6, kg_7, kg_8, kg_9, kg_10, kg_11, kg_12, kg_13, kg_14, kg_15, kg_16, kg_17, kg_18, kg_19, kg_20, kg_21, kg_22, kg_23, kg_24, kg_25, kg_26, kg_27, kg_28, kg_29, kg_30, kg_31, kg_32, kg_33, kg_34, runB, startW, Out.res, xSeq, xIfS, xRet, xRetN, xDrop, xAsg, gN, xNext, xVar, xC, xNil, xCons, xBin, xUn, xCb, xBm, xAnd, xOr, xNot, xIf, xChain, xTup, xLst, xCall0, xNo, Res.bind, Res.of, iop, iopC, subM, divM, modM, mulM, powM, bandM, borM, ltM, gtM, geM, leM, negM, invM, addM, items, ixM, seqs, eqO, neO, eqM, flatW, eqFl, isiM, tyN, absM, sizeLine_eq, xFor, xLoop, xIl, xIt, xSl, xPn, xPs, slM, lenM, truM, intW, sumM, intM, maxM, minM, ordM, listM, isNonW, isNM, notNM, isBM, isnotBM, strW, joinM, xBmS, xIs, allBM, bolW, inM, keyW, dicts, ρC, splitM, gT2, xCallX, xMethX, xRaise, xTry, endX, fgt, xBmL, countM, slTM, isiX, tyX, kitA, clTy, catTM, tupleM, xLstN, countSM, indexSM, xLm, appM, xIr1, xRaiseI, xXf]
    · simp [kg_0, kg_1, kg_2, kg_3, kg_4, kg_5, kg_6, kg_7, kg_8, kg_9, kg_10, kg_11, kg_12, kg_13, kg_14, kg_15, kg_16, kg_17, kg_18, kg_19, kg_20, kg_21, kg_22, kg_23, kg_24, kg_25, kg_26, kg_27, kg_28, kg_29, kg_30, kg_31, kg_32, kg_33, kg_34, runB, startW, Out.res, xSeq, xIfS, xRet, xRetN, xDrop, xAsg, gN, xNext, xVar, xC, xNil, xCons, xBin, xUn, xCb, xBm, xAnd, xOr, xNot, xIf, xChain, xTup, xLst, xCall0, xNo, Res.bind, Res.of, iop, iopC, subM, divM, modM, mulM, powM, bandM, borM, ltM, gtM, geM, leM, negM, invM, addM, items, ixM, seqs, eqO, neO, eqM, flatW, eqFl, isiM, tyN, absM, sizeLine_eq, xFor, xLoop, xIl, xIt, xSl, xPn, xPs, slM, lenM, truM, intW, sumM, intM, maxM, minM, ordM, listM, isNonW, isNM, notNM, isBM, isnotBM, strW, joinM, xBmS, xIs, allBM, bolW, inM, keyW, dicts, ρC, splitM, gT2, xCallX, xMethX, xRaise, xTry, endX, fgt, xBmL, countM, slTM, isiX, tyX, kitA, clTy, catTM, tupleM, xLstN, countSM, indexSM, xLm, appM, xIr1, xRaiseI, xXf]
    · simp [e, no_line_own_needs, t4_1, z1, z2, xMeth, dgetM, g, hd, kg_0, kg_1, kg_2, kg_3, kg_4, kg_5, kg_6, kg_7, kg_8, kg_9, kg_10, kg_11, kg_12, kg_13, kg_14, kg_15, kg_16, kg_17, kg_18, kg_19, kg_20, kg_21, kg_22, kg_23, kg_24, kg_25, kg_26, kg_27, kg_28, kg_29, kg_30, kg_31, kg_32, kg_33, kg_34, runB, startW, Out.res, xSeq, xIfS, xRet, xRetN, xDrop, xAsg, gN, xNext, xVar, xC, xNil, xCons, xBin, xUn, xCb, xBm, xAnd, xOr, xNot, xIf, xChain, xTup, xLst, xCall0, xNo, Res.bind, Res.of, iop, iopC, subM, divM, modM, mulM, powM, bandM, borM, ltM, gtM, geM, leM, negM, invM, addM, items, ixM, seqs, eqO, neO, eqM, flatW, eqFl, isiM, tyN, absM, sizeLine_eq, xFor, xLoop, xIl, xIt, xSl, xPn, xPs, slM, lenM, truM, intW, sumM, intM, maxM, minM, ordM, listM, isNonW, isNM, notNM, isBM, isnotBM, strW, joinM, xBmS, xIs, allBM, bolW, inM, keyW, dicts, ρC, splitM, gT2, xCallX, xMethX, xRaise, xTry, endX, fgt, xBmL, countM, slTM, isiX, tyX, kitA, clTy, catTM, tupleM, xLstN, countSM, indexSM, xLm, appM, xIr1, xRaiseI, xXf]
    · simp [e, no_line_own_needs, t4_1, z1, z2, xMeth, dgetM, g, hd, kg_0, kg_1, kg_2, kg_3, kg_4, kg_5, kg_6, kg_7, kg_8, kg_9, kg_10, kg_11, kg_12, kg_13, kg_14, kg_15, kg_16, kg_17, kg_18, kg_19, kg_20, kg_21, kg_22, kg_23, kg_24, kg_25, kg_26, kg_27, kg_28, kg_29, kg_30, kg_31, kg_32, kg_33, kg_34, runB, startW, Out.res, xSeq, xIfS, xRet, xRetN, xDrop, xAsg, gN, xNext, xVar, xC, xNil, xCons, xBin, xUn, xCb, xBm, xAnd, xOr, xNot, xIf, xChain, xTup, xLst, xCall0, xNo, Res.bind, Res.of, iop, iopC, subM, divM, modM, mulM, powM, bandM, borM, ltM, gtM, geM, leM, negM, invM, addM, items, ixM, seqs, eqO, neO, eqM, flatW, eqFl, isiM, tyN, absM, sizeLine_eq, xFor, xLoop, xIl, xIt, xSl, xPn, xPs, slM, lenM, truM, intW, sumM, intM, maxM, minM, ordM, listM, isNonW, isNM, notNM, isBM, isnotBM, strW, joinM, xBmS, xIs, allBM, bolW, inM, keyW, dicts, ρC, splitM, gT2, xCallX, xMethX, xRaise, xTry, endX, fgt, xBmL, countM, slTM, isiX, tyX, kitA, clTy, catTM, tupleM, xLstN, countSM, indexSM, xLm, appM, xIr1, xRaiseI, xXf]
  | 2, _ =>
    show (∀ w, nt w → selfX _ _ _ [.ref n, w] h = .ex (.exc "NoDeed" ["deed"] [w]) h) ∧ selfX _ _ _ [.ref n, .str "kind"] h = .ok (.int 0) h ∧ (∀ d v, ¬ d = Str.ofString "kind" → getK dic2 (.inr d) = some v → selfX _ _ _ [.ref n, .str d] h = .ok v (h ++ [.dic dic2])) ∧ ∀ d, ¬ d = Str.ofString "kind" → getK dic2 (.inr d) = none → selfX _ _ _ [.ref n, .str d] h = .ex (.exc "NoDeed" ["deed"] [.str d]) (h ++ [.dic dic2])
    have e : h[n]? = some (doorO 2) := e
    simp only [doorO] at e
    have z1 := h2 h n
    have z2 : (h ++ [O.dic dic2])[h.length]? = some (.dic dic2) := by simp
    refine ⟨fun w hw => selfX_exc rfl ?_ (by simp), selfX_ok rfl ?_ (by simp), fun d v hd g => selfX_ok rfl ?_ (by simp), fun d hd g => selfX_exc rfl ?_ (by simp)⟩
    · rcases hw with rfl | rfl | rfl | rfl | rfl | rfl | rfl | rfl <;> simp [kg_0, kg_1, kg_2, kg_3, kg_4, kg_5, kg_6, kg_7, kg_8, kg_9, kg_10, kg_11, kg_12, kg_13, kg_14, kg_15, kg_16, kg_17, kg_18, kg_19, kg_20, kg_21, kg_22, kg_23, kg_24, kg_25, kg_26, kg_27, kg_28, kg_29, kg_30, kg_31, kg_32, kg_33, kg_34, runB, startW, Out.res, xSeq, xIfS, xRet, xRetN, xDrop, xAsg, gN, xNext, xVar, xC, xNil, xCons, xBin, xUn, xCb, xBm, xAnd, xOr, xNot, xIf, xChain, xTup, xLst, xCall0, xNo, Res.bind, Res.of, iop, iopC, subM, divM, modM, mulM, powM, bandM, borM, ltM, gtM, geM, leM, negM, invM, addM, items, ixM, seqs, eqO, neO, eqM, flatW, eqFl, isiM, tyN, absM, sizeLine_eq, xFor, xLoop, xIl, xIt, xSl, xPn, xPs, slM, lenM, truM, intW, sumM, intM, maxM, minM, ordM, listM, isNonW, isNM, notNM, isBM, isnotBM, strW, joinM, xBmS, xIs, allBM, bolW, inM, keyW, dicts, ρC, splitM, gT2, xCallX, xMethX, xRaise, xTry, endX, fgt, xBmL, countM, slTM, isiX, tyX, kitA, clTy, catTM, tupleM, xLstN, countSM, indexSM, xLm, appM, xIr1, xRaiseI, xXf]
    · simp [kg_0, kg_1, kg_2, kg_3, kg_4, kg_5, kg_6, kg_7, kg_8, kg_9, kg_10, kg_11, kg_12, kg_13, kg_14, kg_15, kg_16, kg_17, kg_18, kg_19, kg_20, kg_21, kg_22, kg_23, kg_24, kg_25, kg_26, kg_27, kg_28, kg_29, kg_30, kg_31, kg_32, kg_33, kg_34, runB, startW, Out.res, xSeq, xIfS, xRet, xRetN, xDrop, xAsg, gN, xNext, xVar, xC, xNil, xCons, xBin, xUn, xCb, xBm, xAnd, xOr, xNot, xIf, xChain, xTup, xLst, xCall0, xNo, Res.bind, Res.of, iop, iopC, subM, divM, modM, mulM, powM, bandM, borM, ltM, gtM, geM, leM, negM, invM, addM, items, ixM, seqs, eqO, neO, eqM, flatW, eqFl, isiM, tyN, absM, sizeLine_eq, xFor, xLoop, xIl, xIt, xSl, xPn, xPs, slM, lenM, truM, intW, sumM, intM, maxM, minM, ordM, listM, isNonW, isNM, notNM, isBM, isnotBM, strW, joinM, xBmS, xIs, allBM, bolW, inM, keyW, dicts, ρC, splitM, gT2, xCallX, xMethX, xRaise, xTry, endX, fgt, xBmL, countM, slTM, isiX, tyX, kitA, clTy, catTM, tupleM, xLstN, countSM, indexSM, xLm, appM, xIr1, xRaiseI, xXf]
    · simp [e, no_door_own_needs, t4_2, z1, z2, xMeth, dgetM, g, hd, kg_0, kg_1, kg_2, kg_3, kg_4, kg_5, kg_6, kg_7, kg_8, kg_9, kg_10, kg_11, kg_12, kg_13, kg_14, kg_15, kg_16, kg_17, kg_18, kg_19, kg_20, kg_21, kg_22, kg_23, kg_24, kg_25, kg_26, kg_27, kg_28, kg_29, kg_30, kg_31, kg_32, kg_33, kg_34, runB, startW, Out.res, xSeq, xIfS, xRet, xRetN, xDrop, xAsg, gN, xNext, xVar, xC, xNil, xCons, xBin, xUn, xCb, xBm, xAnd, xOr, xNot, xIf, xChain, xTup, xLst, xCall0, xNo, Res.bind, Res.of, iop, iopC, subM, divM, modM, mulM, powM, bandM, borM, ltM, gtM, geM, leM, negM, invM, addM, items, ixM, seqs, eqO, neO, eqM, flatW, eqFl, isiM, tyN, absM, sizeLine_eq, xFor, xLoop, xIl, xIt, xSl, xPn, xPs, slM, lenM, truM, intW, sumM, intM, maxM, minM, ordM, listM, isNonW, isNM, notNM, isBM, isnotBM, strW, joinM, xBmS, xIs, allBM, bolW, inM, keyW, dicts, ρC, splitM, gT2, xCallX, xMethX, xRaise, xTry, endX, fgt, xBmL, countM, slTM, isiX, tyX, kitA, clTy, catTM, tupleM, xLstN, countSM, indexSM, xLm, appM, xIr1, xRaiseI, xXf]
    · simp [e, no_door_own_needs, t4_2, z1, z2, xMeth, dgetM, g, hd, kg_0, kg_1, kg_2, kg_3, kg_4, kg_5, kg_6, kg_7, kg_8, kg_9, kg_10, kg_11, kg_12, kg_13, kg_14, kg_15, kg_16, kg_17, kg_18, kg_19, kg_20, kg_21, kg_22, kg_23, kg_24, kg_25, kg_26, kg_27, kg_28, kg_29, kg_30, kg_31, kg_32, kg_33, kg_34, runB, startW, Out.res, xSeq, xIfS, xRet, xRetN, xDrop, xAsg, gN, xNext, xVar, xC, xNil, xCons, xBin, xUn, xCb, xBm, xAnd, xOr, xNot, xIf, xChain, xTup, xLst, xCall0, xNo, Res.bind, Res.of, iop, iopC, subM, divM, modM, mulM, powM, bandM, borM, ltM, gtM, geM, leM, negM, invM, addM, items, ixM, seqs, eqO, neO, eqM, flatW, eqFl, isiM, tyN, absM, sizeLine_eq, xFor, xLoop, xIl, xIt, xSl, xPn, xPs, slM, lenM, truM, intW, sumM, intM, maxM, minM, ordM, listM, isNonW, isNM, notNM, isBM, isnotBM, strW, joinM, xBmS, xIs, allBM, bolW, inM, keyW, dicts, ρC, splitM, gT2, xCallX, xMethX, xRaise, xTry, endX, fgt, xBmL, countM, slTM, isiX, tyX, kitA, clTy, catTM, tupleM, xLstN, countSM, indexSM, xLm, appM, xIr1, xRaiseI, xXf]
  | 3, _ =>
    show (∀ w, nt w → selfX _ _ _ [.ref n, w] h = .ex (.exc "NoDeed" ["deed"] [w]) h) ∧ selfX _ _ _ [.ref n, .str "kind"] h = .ok (.int 0) h ∧ (∀ d v, ¬ d = Str.ofString "kind" → getK dic3 (.inr d) = some v → selfX _ _ _ [.ref n, .str d] h = .ok v (h ++ [.dic dic3])) ∧ ∀ d, ¬ d = Str.ofString "kind" → getK dic3 (.inr d) = none → selfX _ _ _ [.ref n, .str d] h = .ex (.exc "NoDeed" ["deed"] [.str d]) (h ++ [.dic dic3])
    have e : h[n]? = some (postO 3 "a") := e
    simp only [postO] at e
    have z1 := h3 h n
    have z2 : (h ++ [O.dic dic3])[h.length]? = some (.dic dic3) := by simp
    refine ⟨fun w hw => selfX_exc rfl ?_ (by simp), selfX_ok rfl ?_ (by simp), fun d v hd g => selfX_ok rfl ?_ (by simp), fun d hd g => selfX_exc rfl ?_ (by simp)⟩
    · rcases hw with rfl | rfl | rfl | rfl | rfl | rfl | rfl | rfl <;> simp [kg_0, kg_1, kg_2, kg_3, kg_4, kg_5, kg_6, kg_7, kg_8, kg_9, kg_10, kg_11, kg_12, kg_13, kg_14, kg_15, kg_16, kg_17, kg_18, kg_19, kg_20, kg_21, kg_22, kg_23, kg_24, kg_25, kg_26, kg_27, kg_28, kg_29, kg_30, kg_31, kg_32, kg_33, kg_34, runB, startW, Out.res, xSeq, xIfS, xRet, xRetN, xDrop, xAsg, gN, xNext, xVar, xC, xNil, xCons, xBin, xUn, xCb, xBm, xAnd, xOr, xNot, xIf, xChain, xTup, xLst, xCall0, xNo, Res.bind, Res.of, iop, iopC, subM, divM, modM, mulM, powM, bandM, borM, ltM, gtM, geM, leM, negM, invM, addM, items, ixM, seqs, eqO, neO, eqM, flatW, eqFl, isiM, tyN, absM, sizeLine_eq, xFor, xLoop, xIl, xIt, xSl, xPn, xPs, slM, lenM, truM, intW, sumM, intM, maxM, minM, ordM, listM, isNonW, isNM, notNM, isBM, isnotBM, strW, joinM, xBmS, xIs, allBM, bolW, inM, keyW, dicts, ρC, splitM, gT2, xCallX, xMethX, xRaise, xTry, endX, fgt, xBmL, countM, slTM, isiX, tyX, kitA, clTy, catTM, tupleM, xLstN, countSM, indexSM, xLm, appM, xIr1, xRaiseI, xXf]
    · simp [kg_0, kg_1, kg_2, kg_3, kg_4, kg_5, kg_6, kg_7, kg_8, kg_9, kg_10, kg_11, kg_12, kg_13, kg_14, kg_15, kg_16, kg_17, kg_18, kg_19, kg_20, kg_21, kg_22, kg_23, kg_24, kg_25, kg_26, kg_27, kg_28, kg_29, kg_30, kg_31, kg_32, kg_33, kg_34, runB, startW, Out.res, xSeq, xIfS, xRet, xRetN, xDrop, xAsg, gN, xNext, xVar, xC, xNil, xCons, xBin, xUn, xCb, xBm, xAnd, xOr, xNot, xIf, xChain, xTup, xLst, xCall0, xNo, Res.bind, Res.of, iop, iopC, subM, divM, modM, mulM, powM, bandM, borM, ltM, gtM, geM, leM, negM, invM, addM, items, ixM, seqs, eqO, neO, eqM, flatW, eqFl, isiM, tyN, absM, sizeLine_eq, xFor, xLoop, xIl, xIt, xSl, xPn, xPs, slM, lenM, truM, intW, sumM, intM, maxM, minM, ordM, listM, isNonW, isNM, notNM, isBM, isnotBM, strW, joinM, xBmS, xIs, allBM, bolW, inM, keyW, dicts, ρC, splitM, gT2, xCallX, xMethX, xRaise, xTry, endX, fgt, xBmL, countM, slTM, isiX, tyX, kitA, clTy, catTM, tupleM, xLstN, countSM, indexSM, xLm, appM, xIr1, xRaiseI, xXf]
    · simp [e, no_post_own_needs, t4_3, z1, z2, xMeth, dgetM, g, hd, kg_0, kg_1, kg_2, kg_3, kg_4, kg_5, kg_6, kg_7, kg_8, kg_9, kg_10, kg_11, kg_12, kg_13, kg_14, kg_15, kg_16, kg_17, kg_18, kg_19, kg_20, kg_21, kg_22, kg_23, kg_24, kg_25, kg_26, kg_27, kg_28, kg_29, kg_30, kg_31, kg_32, kg_33, kg_34, runB, startW, Out.res, xSeq, xIfS, xRet, xRetN, xDrop, xAsg, gN, xNext, xVar, xC, xNil, xCons, xBin, xUn, xCb, xBm, xAnd, xOr, xNot, xIf, xChain, xTup, xLst, xCall0, xNo, Res.bind, Res.of, iop, iopC, subM, divM, modM, mulM, powM, bandM, borM, ltM, gtM, geM, leM, negM, invM, addM, items, ixM, seqs, eqO, neO, eqM, flatW, eqFl, isiM, tyN, absM, sizeLine_eq, xFor, xLoop, xIl, xIt, xSl, xPn, xPs, slM, lenM, truM, intW, sumM, intM, maxM, minM, ordM, listM, isNonW, isNM, notNM, isBM, isnotBM, strW, joinM, xBmS, xIs, allBM, bolW, inM, keyW, dicts, ρC, splitM, gT2, xCallX, xMethX, xRaise, xTry, endX, fgt, xBmL, countM, slTM, isiX, tyX, kitA, clTy, catTM, tupleM, xLstN, countSM, indexSM, xLm, appM, xIr1, xRaiseI, xXf]
    · simp [e, no_post_own_needs, t4_3, z1, z2, xMeth, dgetM, g, hd, kg_0, kg_1, kg_2, kg_3, kg_4, kg_5, kg_6, kg_7, kg_8, kg_9, kg_10, kg_11, kg_12, kg_13, kg_14, kg_15, kg_16, kg_17, kg_18, kg_19, kg_20, kg_21, kg_22, kg_23, kg_24, kg_25, kg_26, kg_27, kg_28, kg_29, kg_30, kg_31, kg_32, kg_33, kg_34, runB, startW, Out.res, xSeq, xIfS, xRet, xRetN, xDrop, xAsg, gN, xNext, xVar, xC, xNil, xCons, xBin, xUn, xCb, xBm, xAnd, xOr, xNot, xIf, xChain, xTup, xLst, xCall0, xNo, Res.bind, Res.of, iop, iopC, subM, divM, modM, mulM, powM, bandM, borM, ltM, gtM, geM, leM, negM, invM, addM, items, ixM, seqs, eqO, neO, eqM, flatW, eqFl, isiM, tyN, absM, sizeLine_eq, xFor, xLoop, xIl, xIt, xSl, xPn, xPs, slM, lenM, truM, intW, sumM, intM, maxM, minM, ordM, listM, isNonW, isNM, notNM, isBM, isnotBM, strW, joinM, xBmS, xIs, allBM, bolW, inM, keyW, dicts, ρC, splitM, gT2, xCallX, xMethX, xRaise, xTry, endX, fgt, xBmL, countM, slTM, isiX, tyX, kitA, clTy, catTM, tupleM, xLstN, countSM, indexSM, xLm, appM, xIr1, xRaiseI, xXf]
def S_only (F : Fm) : Prop := ∀ h w, F [.exc "NoDeed" ["deed"] [w], .int 3] h = .ok (.bl true) h
theorem ok_only (T : Tx K mg C) (R : DefAt K mg "_law_only" s_l_only) : ∃ F, FnAt P w K mg base (CXe false P w) 1 "_law_only" (spH (T0 C) F) ∧ S_only F := by
  refine ⟨_, (defX R sc_l_only bd_l_only (hB := fun f cdv A outer s H E φ0 hr hx => (qb_cons (qs_set (i := 2) sc_l_only.nd rfl (Or.inl rfl) (fun _ _ _ => trivial) (q_lst (qa_cons (q_cb (isiX_ok T.ins T.exo T.kit) (call_isiX K rfl) rfl T.b_isinstance (by first | exact boot_b_isinstance | rfl) (qa_cons (q_var 0) (qa_cons (q_cls rfl T.g_Empty T.t_Empty) qa_nil))) (qa_cons (q_cb (isiX_ok T.ins T.exo T.kit) (call_isiX K rfl) rfl T.b_isinstance (by first | exact boot_b_isinstance | rfl) (qa_cons (q_var 0) (qa_cons (q_cls rfl T.g_Full T.t_Full) qa_nil))) (qa_cons (q_cb (isiX_ok T.ins T.exo T.kit) (call_isiX K rfl) rfl T.b_isinstance (by first | exact boot_b_isinstance | rfl) (qa_cons (q_var 0) (qa_cons (q_cls rfl T.g_TooGreat T.t_TooGreat) qa_nil))) (qa_cons (q_cb (isiX_ok T.ins T.exo T.kit) (call_isiX K rfl) rfl T.b_isinstance (by first | exact boot_b_isinstance | rfl) (qa_cons (q_var 0) (qa_cons (q_cls rfl T.g_NoDeed T.t_NoDeed) qa_nil))) qa_nil))))))
      (qb_cons (qs_set (i := 2) sc_l_only.nd rfl (Or.inl rfl) (fun _ _ _ => trivial) (q_bin op_addV addM_ok (q_var 2) (q_lst (qa_cons (q_cb (isiX_ok T.ins T.exo T.kit) (call_isiX K rfl) rfl T.b_isinstance (by first | exact boot_b_isinstance | rfl) (qa_cons (q_var 0) (qa_cons (q_tup (qa_cons (q_cls rfl T.g_Lacks T.t_Lacks) (qa_cons (q_cls rfl T.g_NoHandle T.t_NoHandle) (qa_cons (q_cls rfl T.g_NoKind T.t_NoKind) (qa_cons (q_cls rfl T.g_NoName T.t_NoName) (qa_cons (q_cls rfl T.g_NoRights T.t_NoRights) (qa_cons (q_cls rfl T.g_NoRow T.t_NoRow) (qa_cons (q_cls rfl T.g_NoTask T.t_NoTask) (qa_cons (q_cls rfl T.g_NoThing T.t_NoThing) qa_nil))))))))) qa_nil))) qa_nil))))
      (qb_cons (qs_set (i := 2) sc_l_only.nd rfl (Or.inl rfl) (fun _ _ _ => trivial) (q_bin op_addV addM_ok (q_var 2) (q_lst (qa_cons (q_cb (isiX_ok T.ins T.exo T.kit) (call_isiX K rfl) rfl T.b_isinstance (by first | exact boot_b_isinstance | rfl) (qa_cons (q_var 0) (qa_cons (q_tup (qa_cons (q_cls rfl T.g_NoValue T.t_NoValue) (qa_cons (q_cls rfl T.g_NoWords T.t_NoWords) (qa_cons (q_cls rfl T.g_Taken T.t_Taken) (qa_cons (q_cls rfl T.g_TooMany T.t_TooMany) qa_nil))))) qa_nil))) qa_nil))))
      (qb_one (qs_ret (q_and (q_cmp (op_eqF hr) eqO_ok (q_count (q_var 2) (qa_cons q_bl qa_nil)) q_int (nomark _)) (q_and (q_ix ix_any ixM_ok (q_var 2) (q_var 1) (fun _ _ => rfl)) (q_one (q_cb (isiX_ok T.ins T.exo T.kit) (call_isiX K rfl) rfl T.b_isinstance (by first | exact boot_b_isinstance | rfl) (qa_cons (q_var 0) (qa_cons (q_ty "ValueError" rfl T.b_ValueError (by first | exact boot_ty_ValueError | rfl)) qa_nil))))))))))))) selfX_told, fun h w => selfX_ok rfl ?_ (Nat.le_refl _)⟩
  simp [kg_0, kg_1, kg_2, kg_3, kg_4, kg_5, kg_6, kg_7, kg_8, kg_9, kg_10, kg_11, kg_12, kg_13, kg_14, kg_15, kg_16, kg_17, kg_18, kg_19, kg_20, kg_21, kg_22, kg_23, kg_24, kg_25, kg_26, kg_27, kg_28, kg_29, kg_30, kg_31, kg_32, kg_33, kg_34, atI_3, runB, startW, Out.res, xSeq, xIfS, xRet, xRetN, xDrop, xAsg, gN, xNext, xVar, xC, xNil, xCons, xBin, xUn, xCb, xBm, xAnd, xOr, xNot, xIf, xChain, xTup, xLst, xCall0, xNo, Res.bind, Res.of, iop, iopC, subM, divM, modM, mulM, powM, bandM, borM, ltM, gtM, geM, leM, negM, invM, addM, items, ixM, seqs, eqO, neO, eqM, flatW, eqFl, isiM, tyN, absM, sizeLine_eq, xFor, xLoop, xIl, xIt, xSl, xPn, xPs, slM, lenM, truM, intW, sumM, intM, maxM, minM, ordM, listM, isNonW, isNM, notNM, isBM, isnotBM, strW, joinM, xBmS, xIs, allBM, bolW, inM, keyW, dicts, ρC, splitM, gT2, xCallX, xMethX, xRaise, xTry, endX, fgt, xBmL, countM, slTM, isiX, tyX, kitA, clTy, catTM, tupleM, xLstN, countSM, indexSM, xLm, appM, xIr1, xRaiseI, xXf]
def S_told (F : Fm) : Prop := ∀ h n k, k < 4 → h[n]? = some (ob k) → (∀ w, nt w → F [.ref n, w] h = .ok (.tup [w, .str "none"]) h) ∧ F [.ref n, .str "kind"] h = .ok (.tup [.int 0, .str ""]) h ∧
  (∀ d v, ¬ d = Str.ofString "kind" → getK (dicK k) (.inr d) = some v → F [.ref n, .str d] h = .ok (.tup [v, .str ""]) (h ++ [.dic (dicK k)])) ∧ ∀ d, ¬ d = Str.ofString "kind" → getK (dicK k) (.inr d) = none → F [.ref n, .str d] h = .ok (.tup [.str d, .str "none"]) (h ++ [.dic (dicK k)])
theorem ok_told (T : Tx K mg C) {Fn Fo : Fm} (hFn : S_needs Fn) (hFo : S_only Fo) (M_needs : TabX P w K mg base (T0 C) true 3 "needs" (tab4 Fn Fn Fn Fn)) (G_l_only : FnAt P w K mg base (CXe false P w) 1 "_law_only" (spH (T0 C) Fo)) (R : DefAt K mg "_law_told" s_l_told) : ∃ F, FnAt P w K mg base CX0 4 "_law_told" (spH (T0 C) F) ∧ S_told F := by
  refine ⟨_, (def0s R sc_l_told bd_l_told (hB := fun f cdv A outer s H E φ0 H0 hr => (qb_one (qs_try (i := 2) (asg := []) T.cat_PassError rfl sc_l_told.nd rfl rfl (fun _ => trivial) rfl rfl
        (fun E1 pn1 φ1 H1 sg1 xw1 hsg hx => (qb_one (qs_ret (q_tup (qa_cons (q_methX T.ins M_needs hx hr (by decide) (q_var 0) (qa_cons (q_var 1) qa_nil)) (qa_cons q_str qa_nil))))))
        (fun e1 φ1 H1 => have hr := hr.mark (some (.ref e1)); (qb_cons (qs_if (qt_not (qt_val (q_fnX G_l_only (xok_no fun _ _ h => h) hr (by decide) rfl (qa_cons (q_var 2) (qa_cons q_int qa_nil))))) (qb_one (qs_ret (q_tup (qa_cons q_non (qa_cons q_str qa_nil))))) qb_nil)
        (qb_one (qs_ret (q_tup (qa_cons (q_xfld (q_var 2) T.fx_deed) (qa_cons q_str qa_nil))))))))))), ?_⟩
  intro h n k hk e
  have fo : ∀ h w, Fo [.exc "NoDeed" ["deed"] [w], .int 3] h = .ok (.bl true) h := hFo
  obtain ⟨y1, y2, y3, y4⟩ := hFn h n k hk e
  obtain ⟨c, fs, e', l, t⟩ : ∃ c fs, h[n]? = some (.ins c fs) ∧ List.lookup (Str.ofString "needs") fs = none ∧ tab4 Fn Fn Fn Fn c = some Fn := by
    match k, hk with
    | 0, _ => exact ⟨_, _, e, no_cell_needs, t4_0⟩
    | 1, _ => exact ⟨_, _, e, no_line_needs, t4_1⟩
    | 2, _ => exact ⟨_, _, e, no_door_needs, t4_2⟩
    | 3, _ => exact ⟨_, _, e, no_post_needs, t4_3⟩
  refine ⟨fun w hw => selfF_ok rfl ?_ (by simp), selfF_ok rfl ?_ (by simp), fun d v hd g => selfF_ok rfl ?_ (by simp), fun d hd g => selfF_ok rfl ?_ (by simp)⟩
  · have q := y1 w hw
    simp [e', l, t, q, fo, subP_1, lkD, runB, startW, Out.res, xSeq, xIfS, xRet, xRetN, xDrop, xAsg, gN, xNext, xVar, xC, xNil, xCons, xBin, xUn, xCb, xBm, xAnd, xOr, xNot, xIf, xChain, xTup, xLst, xCall0, xNo, Res.bind, Res.of, iop, iopC, subM, divM, modM, mulM, powM, bandM, borM, ltM, gtM, geM, leM, negM, invM, addM, items, ixM, seqs, eqO, neO, eqM, flatW, eqFl, isiM, tyN, Kit.get, absM, sizeLine_eq, xFor, xLoop, xIl, xIt, xSl, xPn, xPs, slM, lenM, truM, intW, sumM, intM, maxM, minM, ordM, listM, isNonW, isNM, notNM, isBM, isnotBM, strW, joinM, xBmS, xIs, allBM, bolW, inM, keyW, dicts, ρC, splitM, gT2, xCallX, xMethX, xRaise, xTry, endX, fgt, xBmL, countM, slTM, isiX, tyX, kitA, clTy, catTM, tupleM, xLstN, countSM, indexSM, xLm, appM, xIr1, xRaiseI, xXf]
  · simp [e', l, t, y2, runB, startW, Out.res, xSeq, xIfS, xRet, xRetN, xDrop, xAsg, gN, xNext, xVar, xC, xNil, xCons, xBin, xUn, xCb, xBm, xAnd, xOr, xNot, xIf, xChain, xTup, xLst, xCall0, xNo, Res.bind, Res.of, iop, iopC, subM, divM, modM, mulM, powM, bandM, borM, ltM, gtM, geM, leM, negM, invM, addM, items, ixM, seqs, eqO, neO, eqM, flatW, eqFl, isiM, tyN, Kit.get, absM, sizeLine_eq, xFor, xLoop, xIl, xIt, xSl, xPn, xPs, slM, lenM, truM, intW, sumM, intM, maxM, minM, ordM, listM, isNonW, isNM, notNM, isBM, isnotBM, strW, joinM, xBmS, xIs, allBM, bolW, inM, keyW, dicts, ρC, splitM, gT2, xCallX, xMethX, xRaise, xTry, endX, fgt, xBmL, countM, slTM, isiX, tyX, kitA, clTy, catTM, tupleM, xLstN, countSM, indexSM, xLm, appM, xIr1, xRaiseI, xXf]
  · have q := y3 d v hd g
    simp [e', l, t, q, runB, startW, Out.res, xSeq, xIfS, xRet, xRetN, xDrop, xAsg, gN, xNext, xVar, xC, xNil, xCons, xBin, xUn, xCb, xBm, xAnd, xOr, xNot, xIf, xChain, xTup, xLst, xCall0, xNo, Res.bind, Res.of, iop, iopC, subM, divM, modM, mulM, powM, bandM, borM, ltM, gtM, geM, leM, negM, invM, addM, items, ixM, seqs, eqO, neO, eqM, flatW, eqFl, isiM, tyN, Kit.get, absM, sizeLine_eq, xFor, xLoop, xIl, xIt, xSl, xPn, xPs, slM, lenM, truM, intW, sumM, intM, maxM, minM, ordM, listM, isNonW, isNM, notNM, isBM, isnotBM, strW, joinM, xBmS, xIs, allBM, bolW, inM, keyW, dicts, ρC, splitM, gT2, xCallX, xMethX, xRaise, xTry, endX, fgt, xBmL, countM, slTM, isiX, tyX, kitA, clTy, catTM, tupleM, xLstN, countSM, indexSM, xLm, appM, xIr1, xRaiseI, xXf]
  · have q := y4 d hd g
    simp [e', l, t, q, fo, subP_1, lkD, runB, startW, Out.res, xSeq, xIfS, xRet, xRetN, xDrop, xAsg, gN, xNext, xVar, xC, xNil, xCons, xBin, xUn, xCb, xBm, xAnd, xOr, xNot, xIf, xChain, xTup, xLst, xCall0, xNo, Res.bind, Res.of, iop, iopC, subM, divM, modM, mulM, powM, bandM, borM, ltM, gtM, geM, leM, negM, invM, addM, items, ixM, seqs, eqO, neO, eqM, flatW, eqFl, isiM, tyN, Kit.get, absM, sizeLine_eq, xFor, xLoop, xIl, xIt, xSl, xPn, xPs, slM, lenM, truM, intW, sumM, intM, maxM, minM, ordM, listM, isNonW, isNM, notNM, isBM, isnotBM, strW, joinM, xBmS, xIs, allBM, bolW, inM, keyW, dicts, ρC, splitM, gT2, xCallX, xMethX, xRaise, xTry, endX, fgt, xBmL, countM, slTM, isiX, tyX, kitA, clTy, catTM, tupleM, xLstN, countSM, indexSM, xLm, appM, xIr1, xRaiseI, xXf]
def S_need (F : Fm) : Prop := ∀ h k, k < 4 → (∀ w, nt w → F [.int (k : Nat), w] h = .ok .non h) ∧ F [.int (k : Nat), .str "kind"] h = .ok (.int 0) h ∧ ∀ d, ¬ d = Str.ofString "kind" → (∃ i, getK (dicK k) (.inr d) = some (.int i) ∧ F [.int (k : Nat), .str d] h = .ok (.int i) h) ∨ (getK (dicK k) (.inr d) = none ∧ F [.int (k : Nat), .str d] h = .ok .non h)
theorem ok_need (T : Tx K mg C) (R : DefAt K mg "_law_need" s_l_need) : ∃ F, FnAt P w K mg base CX0 1 "_law_need" (spH (T0 C) F) ∧ S_need F := by
  refine ⟨_, (def0s R sc_l_need bd_l_need (hB := fun f cdv A outer s H E φ0 H0 hr => (qb_cons (qs_if (qt_not (qt_val (q_cb (isiX_ok T.ins T.exo T.kit) (call_isiX K rfl) rfl T.b_isinstance (by first | exact boot_b_isinstance | rfl) (qa_cons (q_var 1) (qa_cons (q_ty "str" rfl T.b_str (by first | exact boot_ty_str | rfl)) qa_nil))))) (qb_one (qs_ret q_non)) qb_nil)
      (qb_cons (qs_if (qt_cmp (op_eqF hr) eqO_ok (q_var 1) q_str (nomark _)) (qb_one (qs_ret q_int)) qb_nil)
      (qb_cons (qs_set (i := 2) sc_l_need.nd rfl (Or.inl rfl) (fun _ _ _ => trivial) (q_ix ix_any ixM_ok (q_lst (qa_cons (q_lst (qa_cons q_str (qa_cons q_str (qa_cons q_str qa_nil)))) (qa_cons (q_lst (qa_cons q_str (qa_cons q_str (qa_cons q_str qa_nil)))) (qa_cons (q_lst (qa_cons q_str (qa_cons q_str (qa_cons q_str qa_nil)))) (qa_cons (q_lst (qa_cons q_str (qa_cons q_str qa_nil))) qa_nil))))) (q_var 0) (fun _ _ => rfl)))
      (qb_cons (qs_if (qt_cmp (op_inV hr) inM_ok (q_var 1) (q_var 2) (by rfl)) (qb_one (qs_ret (q_ix ix_any ixM_ok (q_ix ix_any ixM_ok (q_lst (qa_cons (q_lst (qa_cons q_int (qa_cons q_int (qa_cons q_int qa_nil)))) (qa_cons (q_lst (qa_cons q_int (qa_cons q_int (qa_cons q_int qa_nil)))) (qa_cons (q_lst (qa_cons q_int (qa_cons q_int (qa_cons q_int qa_nil)))) (qa_cons (q_lst (qa_cons q_int (qa_cons q_int qa_nil))) qa_nil))))) (q_var 0) (fun _ _ => rfl)) (q_indexS (q_var 2) (qa_cons (q_var 1) qa_nil)) (fun _ _ => rfl)))) qb_nil)
      (qb_one (qs_ret q_non)))))))), fun h k hk => ?_⟩
  refine ⟨fun w hw => ?_, ?_, fun d hd => ?_⟩
  · refine selfF_ok rfl ?_ (Nat.le_refl _)
    rcases hw with rfl | rfl | rfl | rfl | rfl | rfl | rfl | rfl <;> simp [kg_0, kg_1, kg_2, kg_3, kg_4, kg_5, kg_6, kg_7, kg_8, kg_9, kg_10, kg_11, kg_12, kg_13, kg_14, kg_15, kg_16, kg_17, kg_18, kg_19, kg_20, kg_21, kg_22, kg_23, kg_24, kg_25, kg_26, kg_27, kg_28, kg_29, kg_30, kg_31, kg_32, kg_33, kg_34, runB, startW, Out.res, xSeq, xIfS, xRet, xRetN, xDrop, xAsg, gN, xNext, xVar, xC, xNil, xCons, xBin, xUn, xCb, xBm, xAnd, xOr, xNot, xIf, xChain, xTup, xLst, xCall0, xNo, Res.bind, Res.of, iop, iopC, subM, divM, modM, mulM, powM, bandM, borM, ltM, gtM, geM, leM, negM, invM, addM, items, ixM, seqs, eqO, neO, eqM, flatW, eqFl, isiM, tyN, absM, sizeLine_eq, xFor, xLoop, xIl, xIt, xSl, xPn, xPs, slM, lenM, truM, intW, sumM, intM, maxM, minM, ordM, listM, isNonW, isNM, notNM, isBM, isnotBM, strW, joinM, xBmS, xIs, allBM, bolW, inM, keyW, dicts, ρC, splitM, gT2, xCallX, xMethX, xRaise, xTry, endX, fgt, xBmL, countM, slTM, isiX, tyX, kitA, clTy, catTM, tupleM, xLstN, countSM, indexSM, xLm, appM, xIr1, xRaiseI, xXf]
  · exact selfF_ok rfl (by simp [kg_0, kg_1, kg_2, kg_3, kg_4, kg_5, kg_6, kg_7, kg_8, kg_9, kg_10, kg_11, kg_12, kg_13, kg_14, kg_15, kg_16, kg_17, kg_18, kg_19, kg_20, kg_21, kg_22, kg_23, kg_24, kg_25, kg_26, kg_27, kg_28, kg_29, kg_30, kg_31, kg_32, kg_33, kg_34, runB, startW, Out.res, xSeq, xIfS, xRet, xRetN, xDrop, xAsg, gN, xNext, xVar, xC, xNil, xCons, xBin, xUn, xCb, xBm, xAnd, xOr, xNot, xIf, xChain, xTup, xLst, xCall0, xNo, Res.bind, Res.of, iop, iopC, subM, divM, modM, mulM, powM, bandM, borM, ltM, gtM, geM, leM, negM, invM, addM, items, ixM, seqs, eqO, neO, eqM, flatW, eqFl, isiM, tyN, absM, sizeLine_eq, xFor, xLoop, xIl, xIt, xSl, xPn, xPs, slM, lenM, truM, intW, sumM, intM, maxM, minM, ordM, listM, isNonW, isNM, notNM, isBM, isnotBM, strW, joinM, xBmS, xIs, allBM, bolW, inM, keyW, dicts, ρC, splitM, gT2, xCallX, xMethX, xRaise, xTry, endX, fgt, xBmL, countM, slTM, isiX, tyX, kitA, clTy, catTM, tupleM, xLstN, countSM, indexSM, xLm, appM, xIr1, xRaiseI, xXf]) (Nat.le_refl _)
  match k, hk with
  | 0, _ =>
    show (∃ i, getK dic0 (.inr d) = some (.int i) ∧ selfF _ _ _ [.int 0, .str d] h = .ok (.int i) h) ∨ (getK dic0 (.inr d) = none ∧ selfF _ _ _ [.int 0, .str d] h = .ok .non h)
    by_cases d0 : d = Str.ofString "read"
    · subst d0
      exact .inl ⟨1, gk0_0, selfF_ok rfl (by simp [atI_0, atI_1, atI_2, atI_3, List.idxOf_cons, ne_kind_add, ne_kind_count, ne_kind_end, ne_kind_hear, ne_kind_pull, ne_kind_push, ne_kind_read, ne_kind_send, ne_kind_state, ne_kind_write, ne_add_kind, ne_add_count, ne_add_end, ne_add_hear, ne_add_pull, ne_add_push, ne_add_read, ne_add_send, ne_add_state, ne_add_write, ne_count_kind, ne_count_add, ne_count_end, ne_count_hear, ne_count_pull, ne_count_push, ne_count_read, ne_count_send, ne_count_state, ne_count_write, ne_end_kind, ne_end_add, ne_end_count, ne_end_hear, ne_end_pull, ne_end_push, ne_end_read, ne_end_send, ne_end_state, ne_end_write, ne_hear_kind, ne_hear_add, ne_hear_count, ne_hear_end, ne_hear_pull, ne_hear_push, ne_hear_read, ne_hear_send, ne_hear_state, ne_hear_write, ne_pull_kind, ne_pull_add, ne_pull_count, ne_pull_end, ne_pull_hear, ne_pull_push, ne_pull_read, ne_pull_send, ne_pull_state, ne_pull_write, ne_push_kind, ne_push_add, ne_push_count, ne_push_end, ne_push_hear, ne_push_pull, ne_push_read, ne_push_send, ne_push_state, ne_push_write, ne_read_kind, ne_read_add, ne_read_count, ne_read_end, ne_read_hear, ne_read_pull, ne_read_push, ne_read_send, ne_read_state, ne_read_write, ne_send_kind, ne_send_add, ne_send_count, ne_send_end, ne_send_hear, ne_send_pull, ne_send_push, ne_send_read, ne_send_state, ne_send_write, ne_state_kind, ne_state_add, ne_state_count, ne_state_end, ne_state_hear, ne_state_pull, ne_state_push, ne_state_read, ne_state_send, ne_state_write, ne_write_kind, ne_write_add, ne_write_count, ne_write_end, ne_write_hear, ne_write_pull, ne_write_push, ne_write_read, ne_write_send, ne_write_state, nb_kind_add, nb_kind_count, nb_kind_end, nb_kind_hear, nb_kind_pull, nb_kind_push, nb_kind_read, nb_kind_send, nb_kind_state, nb_kind_write, nb_add_kind, nb_add_count, nb_add_end, nb_add_hear, nb_add_pull, nb_add_push, nb_add_read, nb_add_send, nb_add_state, nb_add_write, nb_count_kind, nb_count_add, nb_count_end, nb_count_hear, nb_count_pull, nb_count_push, nb_count_read, nb_count_send, nb_count_state, nb_count_write, nb_end_kind, nb_end_add, nb_end_count, nb_end_hear, nb_end_pull, nb_end_push, nb_end_read, nb_end_send, nb_end_state, nb_end_write, nb_hear_kind, nb_hear_add, nb_hear_count, nb_hear_end, nb_hear_pull, nb_hear_push, nb_hear_read, nb_hear_send, nb_hear_state, nb_hear_write, nb_pull_kind, nb_pull_add, nb_pull_count, nb_pull_end, nb_pull_hear, nb_pull_push, nb_pull_read, nb_pull_send, nb_pull_state, nb_pull_write, nb_push_kind, nb_push_add, nb_push_count, nb_push_end, nb_push_hear, nb_push_pull, nb_push_read, nb_push_send, nb_push_state, nb_push_write, nb_read_kind, nb_read_add, nb_read_count, nb_read_end, nb_read_hear, nb_read_pull, nb_read_push, nb_read_send, nb_read_state, nb_read_write, nb_send_kind, nb_send_add, nb_send_count, nb_send_end, nb_send_hear, nb_send_pull, nb_send_push, nb_send_read, nb_send_state, nb_send_write, nb_state_kind, nb_state_add, nb_state_count, nb_state_end, nb_state_hear, nb_state_pull, nb_state_push, nb_state_read, nb_state_send, nb_state_write, nb_write_kind, nb_write_add, nb_write_count, nb_write_end, nb_write_hear, nb_write_pull, nb_write_push, nb_write_read, nb_write_send, nb_write_state, kg_0, kg_1, kg_2, kg_3, kg_4, kg_5, kg_6, kg_7, kg_8, kg_9, kg_10, kg_11, kg_12, kg_13, kg_14, kg_15, kg_16, kg_17, kg_18, kg_19, kg_20, kg_21, kg_22, kg_23, kg_24, kg_25, kg_26, kg_27, kg_28, kg_29, kg_30, kg_31, kg_32, kg_33, kg_34, runB, startW, Out.res, xSeq, xIfS, xRet, xRetN, xDrop, xAsg, gN, xNext, xVar, xC, xNil, xCons, xBin, xUn, xCb, xBm, xAnd, xOr, xNot, xIf, xChain, xTup, xLst, xCall0, xNo, Res.bind, Res.of, iop, iopC, subM, divM, modM, mulM, powM, bandM, borM, ltM, gtM, geM, leM, negM, invM, addM, items, ixM, seqs, eqO, neO, eqM, flatW, eqFl, isiM, tyN, absM, sizeLine_eq, xFor, xLoop, xIl, xIt, xSl, xPn, xPs, slM, lenM, truM, intW, sumM, intM, maxM, minM, ordM, listM, isNonW, isNM, notNM, isBM, isnotBM, strW, joinM, xBmS, xIs, allBM, bolW, inM, keyW, dicts, ρC, splitM, gT2, xCallX, xMethX, xRaise, xTry, endX, fgt, xBmL, countM, slTM, isiX, tyX, kitA, clTy, catTM, tupleM, xLstN, countSM, indexSM, xLm, appM, xIr1, xRaiseI, xXf]) (Nat.le_refl _)⟩
    by_cases d1 : d = Str.ofString "write"
    · subst d1
      exact .inl ⟨2, gk0_1, selfF_ok rfl (by simp [atI_0, atI_1, atI_2, atI_3, List.idxOf_cons, ne_kind_add, ne_kind_count, ne_kind_end, ne_kind_hear, ne_kind_pull, ne_kind_push, ne_kind_read, ne_kind_send, ne_kind_state, ne_kind_write, ne_add_kind, ne_add_count, ne_add_end, ne_add_hear, ne_add_pull, ne_add_push, ne_add_read, ne_add_send, ne_add_state, ne_add_write, ne_count_kind, ne_count_add, ne_count_end, ne_count_hear, ne_count_pull, ne_count_push, ne_count_read, ne_count_send, ne_count_state, ne_count_write, ne_end_kind, ne_end_add, ne_end_count, ne_end_hear, ne_end_pull, ne_end_push, ne_end_read, ne_end_send, ne_end_state, ne_end_write, ne_hear_kind, ne_hear_add, ne_hear_count, ne_hear_end, ne_hear_pull, ne_hear_push, ne_hear_read, ne_hear_send, ne_hear_state, ne_hear_write, ne_pull_kind, ne_pull_add, ne_pull_count, ne_pull_end, ne_pull_hear, ne_pull_push, ne_pull_read, ne_pull_send, ne_pull_state, ne_pull_write, ne_push_kind, ne_push_add, ne_push_count, ne_push_end, ne_push_hear, ne_push_pull, ne_push_read, ne_push_send, ne_push_state, ne_push_write, ne_read_kind, ne_read_add, ne_read_count, ne_read_end, ne_read_hear, ne_read_pull, ne_read_push, ne_read_send, ne_read_state, ne_read_write, ne_send_kind, ne_send_add, ne_send_count, ne_send_end, ne_send_hear, ne_send_pull, ne_send_push, ne_send_read, ne_send_state, ne_send_write, ne_state_kind, ne_state_add, ne_state_count, ne_state_end, ne_state_hear, ne_state_pull, ne_state_push, ne_state_read, ne_state_send, ne_state_write, ne_write_kind, ne_write_add, ne_write_count, ne_write_end, ne_write_hear, ne_write_pull, ne_write_push, ne_write_read, ne_write_send, ne_write_state, nb_kind_add, nb_kind_count, nb_kind_end, nb_kind_hear, nb_kind_pull, nb_kind_push, nb_kind_read, nb_kind_send, nb_kind_state, nb_kind_write, nb_add_kind, nb_add_count, nb_add_end, nb_add_hear, nb_add_pull, nb_add_push, nb_add_read, nb_add_send, nb_add_state, nb_add_write, nb_count_kind, nb_count_add, nb_count_end, nb_count_hear, nb_count_pull, nb_count_push, nb_count_read, nb_count_send, nb_count_state, nb_count_write, nb_end_kind, nb_end_add, nb_end_count, nb_end_hear, nb_end_pull, nb_end_push, nb_end_read, nb_end_send, nb_end_state, nb_end_write, nb_hear_kind, nb_hear_add, nb_hear_count, nb_hear_end, nb_hear_pull, nb_hear_push, nb_hear_read, nb_hear_send, nb_hear_state, nb_hear_write, nb_pull_kind, nb_pull_add, nb_pull_count, nb_pull_end, nb_pull_hear, nb_pull_push, nb_pull_read, nb_pull_send, nb_pull_state, nb_pull_write, nb_push_kind, nb_push_add, nb_push_count, nb_push_end, nb_push_hear, nb_push_pull, nb_push_read, nb_push_send, nb_push_state, nb_push_write, nb_read_kind, nb_read_add, nb_read_count, nb_read_end, nb_read_hear, nb_read_pull, nb_read_push, nb_read_send, nb_read_state, nb_read_write, nb_send_kind, nb_send_add, nb_send_count, nb_send_end, nb_send_hear, nb_send_pull, nb_send_push, nb_send_read, nb_send_state, nb_send_write, nb_state_kind, nb_state_add, nb_state_count, nb_state_end, nb_state_hear, nb_state_pull, nb_state_push, nb_state_read, nb_state_send, nb_state_write, nb_write_kind, nb_write_add, nb_write_count, nb_write_end, nb_write_hear, nb_write_pull, nb_write_push, nb_write_read, nb_write_send, nb_write_state, kg_0, kg_1, kg_2, kg_3, kg_4, kg_5, kg_6, kg_7, kg_8, kg_9, kg_10, kg_11, kg_12, kg_13, kg_14, kg_15, kg_16, kg_17, kg_18, kg_19, kg_20, kg_21, kg_22, kg_23, kg_24, kg_25, kg_26, kg_27, kg_28, kg_29, kg_30, kg_31, kg_32, kg_33, kg_34, runB, startW, Out.res, xSeq, xIfS, xRet, xRetN, xDrop, xAsg, gN, xNext, xVar, xC, xNil, xCons, xBin, xUn, xCb, xBm, xAnd, xOr, xNot, xIf, xChain, xTup, xLst, xCall0, xNo, Res.bind, Res.of, iop, iopC, subM, divM, modM, mulM, powM, bandM, borM, ltM, gtM, geM, leM, negM, invM, addM, items, ixM, seqs, eqO, neO, eqM, flatW, eqFl, isiM, tyN, absM, sizeLine_eq, xFor, xLoop, xIl, xIt, xSl, xPn, xPs, slM, lenM, truM, intW, sumM, intM, maxM, minM, ordM, listM, isNonW, isNM, notNM, isBM, isnotBM, strW, joinM, xBmS, xIs, allBM, bolW, inM, keyW, dicts, ρC, splitM, gT2, xCallX, xMethX, xRaise, xTry, endX, fgt, xBmL, countM, slTM, isiX, tyX, kitA, clTy, catTM, tupleM, xLstN, countSM, indexSM, xLm, appM, xIr1, xRaiseI, xXf]) (Nat.le_refl _)⟩
    by_cases d2 : d = Str.ofString "add"
    · subst d2
      exact .inl ⟨3, gk0_2, selfF_ok rfl (by simp [atI_0, atI_1, atI_2, atI_3, List.idxOf_cons, ne_kind_add, ne_kind_count, ne_kind_end, ne_kind_hear, ne_kind_pull, ne_kind_push, ne_kind_read, ne_kind_send, ne_kind_state, ne_kind_write, ne_add_kind, ne_add_count, ne_add_end, ne_add_hear, ne_add_pull, ne_add_push, ne_add_read, ne_add_send, ne_add_state, ne_add_write, ne_count_kind, ne_count_add, ne_count_end, ne_count_hear, ne_count_pull, ne_count_push, ne_count_read, ne_count_send, ne_count_state, ne_count_write, ne_end_kind, ne_end_add, ne_end_count, ne_end_hear, ne_end_pull, ne_end_push, ne_end_read, ne_end_send, ne_end_state, ne_end_write, ne_hear_kind, ne_hear_add, ne_hear_count, ne_hear_end, ne_hear_pull, ne_hear_push, ne_hear_read, ne_hear_send, ne_hear_state, ne_hear_write, ne_pull_kind, ne_pull_add, ne_pull_count, ne_pull_end, ne_pull_hear, ne_pull_push, ne_pull_read, ne_pull_send, ne_pull_state, ne_pull_write, ne_push_kind, ne_push_add, ne_push_count, ne_push_end, ne_push_hear, ne_push_pull, ne_push_read, ne_push_send, ne_push_state, ne_push_write, ne_read_kind, ne_read_add, ne_read_count, ne_read_end, ne_read_hear, ne_read_pull, ne_read_push, ne_read_send, ne_read_state, ne_read_write, ne_send_kind, ne_send_add, ne_send_count, ne_send_end, ne_send_hear, ne_send_pull, ne_send_push, ne_send_read, ne_send_state, ne_send_write, ne_state_kind, ne_state_add, ne_state_count, ne_state_end, ne_state_hear, ne_state_pull, ne_state_push, ne_state_read, ne_state_send, ne_state_write, ne_write_kind, ne_write_add, ne_write_count, ne_write_end, ne_write_hear, ne_write_pull, ne_write_push, ne_write_read, ne_write_send, ne_write_state, nb_kind_add, nb_kind_count, nb_kind_end, nb_kind_hear, nb_kind_pull, nb_kind_push, nb_kind_read, nb_kind_send, nb_kind_state, nb_kind_write, nb_add_kind, nb_add_count, nb_add_end, nb_add_hear, nb_add_pull, nb_add_push, nb_add_read, nb_add_send, nb_add_state, nb_add_write, nb_count_kind, nb_count_add, nb_count_end, nb_count_hear, nb_count_pull, nb_count_push, nb_count_read, nb_count_send, nb_count_state, nb_count_write, nb_end_kind, nb_end_add, nb_end_count, nb_end_hear, nb_end_pull, nb_end_push, nb_end_read, nb_end_send, nb_end_state, nb_end_write, nb_hear_kind, nb_hear_add, nb_hear_count, nb_hear_end, nb_hear_pull, nb_hear_push, nb_hear_read, nb_hear_send, nb_hear_state, nb_hear_write, nb_pull_kind, nb_pull_add, nb_pull_count, nb_pull_end, nb_pull_hear, nb_pull_push, nb_pull_read, nb_pull_send, nb_pull_state, nb_pull_write, nb_push_kind, nb_push_add, nb_push_count, nb_push_end, nb_push_hear, nb_push_pull, nb_push_read, nb_push_send, nb_push_state, nb_push_write, nb_read_kind, nb_read_add, nb_read_count, nb_read_end, nb_read_hear, nb_read_pull, nb_read_push, nb_read_send, nb_read_state, nb_read_write, nb_send_kind, nb_send_add, nb_send_count, nb_send_end, nb_send_hear, nb_send_pull, nb_send_push, nb_send_read, nb_send_state, nb_send_write, nb_state_kind, nb_state_add, nb_state_count, nb_state_end, nb_state_hear, nb_state_pull, nb_state_push, nb_state_read, nb_state_send, nb_state_write, nb_write_kind, nb_write_add, nb_write_count, nb_write_end, nb_write_hear, nb_write_pull, nb_write_push, nb_write_read, nb_write_send, nb_write_state, kg_0, kg_1, kg_2, kg_3, kg_4, kg_5, kg_6, kg_7, kg_8, kg_9, kg_10, kg_11, kg_12, kg_13, kg_14, kg_15, kg_16, kg_17, kg_18, kg_19, kg_20, kg_21, kg_22, kg_23, kg_24, kg_25, kg_26, kg_27, kg_28, kg_29, kg_30, kg_31, kg_32, kg_33, kg_34, runB, startW, Out.res, xSeq, xIfS, xRet, xRetN, xDrop, xAsg, gN, xNext, xVar, xC, xNil, xCons, xBin, xUn, xCb, xBm, xAnd, xOr, xNot, xIf, xChain, xTup, xLst, xCall0, xNo, Res.bind, Res.of, iop, iopC, subM, divM, modM, mulM, powM, bandM, borM, ltM, gtM, geM, leM, negM, invM, addM, items, ixM, seqs, eqO, neO, eqM, flatW, eqFl, isiM, tyN, absM, sizeLine_eq, xFor, xLoop, xIl, xIt, xSl, xPn, xPs, slM, lenM, truM, intW, sumM, intM, maxM, minM, ordM, listM, isNonW, isNM, notNM, isBM, isnotBM, strW, joinM, xBmS, xIs, allBM, bolW, inM, keyW, dicts, ρC, splitM, gT2, xCallX, xMethX, xRaise, xTry, endX, fgt, xBmL, countM, slTM, isiX, tyX, kitA, clTy, catTM, tupleM, xLstN, countSM, indexSM, xLm, appM, xIr1, xRaiseI, xXf]) (Nat.le_refl _)⟩
    have s0 : ¬ Str.ofString "read" = d := fun e => d0 e.symm
    have s1 : ¬ Str.ofString "write" = d := fun e => d1 e.symm
    have s2 : ¬ Str.ofString "add" = d := fun e => d2 e.symm
    exact .inr ⟨gk0_n d0 d1 d2, selfF_ok rfl (by simp [atI_0, atI_1, atI_2, atI_3, d0, d1, d2, s0, s1, s2, hd, ne_kind_add, ne_kind_count, ne_kind_end, ne_kind_hear, ne_kind_pull, ne_kind_push, ne_kind_read, ne_kind_send, ne_kind_state, ne_kind_write, ne_add_kind, ne_add_count, ne_add_end, ne_add_hear, ne_add_pull, ne_add_push, ne_add_read, ne_add_send, ne_add_state, ne_add_write, ne_count_kind, ne_count_add, ne_count_end, ne_count_hear, ne_count_pull, ne_count_push, ne_count_read, ne_count_send, ne_count_state, ne_count_write, ne_end_kind, ne_end_add, ne_end_count, ne_end_hear, ne_end_pull, ne_end_push, ne_end_read, ne_end_send, ne_end_state, ne_end_write, ne_hear_kind, ne_hear_add, ne_hear_count, ne_hear_end, ne_hear_pull, ne_hear_push, ne_hear_read, ne_hear_send, ne_hear_state, ne_hear_write, ne_pull_kind, ne_pull_add, ne_pull_count, ne_pull_end, ne_pull_hear, ne_pull_push, ne_pull_read, ne_pull_send, ne_pull_state, ne_pull_write, ne_push_kind, ne_push_add, ne_push_count, ne_push_end, ne_push_hear, ne_push_pull, ne_push_read, ne_push_send, ne_push_state, ne_push_write, ne_read_kind, ne_read_add, ne_read_count, ne_read_end, ne_read_hear, ne_read_pull, ne_read_push, ne_read_send, ne_read_state, ne_read_write, ne_send_kind, ne_send_add, ne_send_count, ne_send_end, ne_send_hear, ne_send_pull, ne_send_push, ne_send_read, ne_send_state, ne_send_write, ne_state_kind, ne_state_add, ne_state_count, ne_state_end, ne_state_hear, ne_state_pull, ne_state_push, ne_state_read, ne_state_send, ne_state_write, ne_write_kind, ne_write_add, ne_write_count, ne_write_end, ne_write_hear, ne_write_pull, ne_write_push, ne_write_read, ne_write_send, ne_write_state, nb_kind_add, nb_kind_count, nb_kind_end, nb_kind_hear, nb_kind_pull, nb_kind_push, nb_kind_read, nb_kind_send, nb_kind_state, nb_kind_write, nb_add_kind, nb_add_count, nb_add_end, nb_add_hear, nb_add_pull, nb_add_push, nb_add_read, nb_add_send, nb_add_state, nb_add_write, nb_count_kind, nb_count_add, nb_count_end, nb_count_hear, nb_count_pull, nb_count_push, nb_count_read, nb_count_send, nb_count_state, nb_count_write, nb_end_kind, nb_end_add, nb_end_count, nb_end_hear, nb_end_pull, nb_end_push, nb_end_read, nb_end_send, nb_end_state, nb_end_write, nb_hear_kind, nb_hear_add, nb_hear_count, nb_hear_end, nb_hear_pull, nb_hear_push, nb_hear_read, nb_hear_send, nb_hear_state, nb_hear_write, nb_pull_kind, nb_pull_add, nb_pull_count, nb_pull_end, nb_pull_hear, nb_pull_push, nb_pull_read, nb_pull_send, nb_pull_state, nb_pull_write, nb_push_kind, nb_push_add, nb_push_count, nb_push_end, nb_push_hear, nb_push_pull, nb_push_read, nb_push_send, nb_push_state, nb_push_write, nb_read_kind, nb_read_add, nb_read_count, nb_read_end, nb_read_hear, nb_read_pull, nb_read_push, nb_read_send, nb_read_state, nb_read_write, nb_send_kind, nb_send_add, nb_send_count, nb_send_end, nb_send_hear, nb_send_pull, nb_send_push, nb_send_read, nb_send_state, nb_send_write, nb_state_kind, nb_state_add, nb_state_count, nb_state_end, nb_state_hear, nb_state_pull, nb_state_push, nb_state_read, nb_state_send, nb_state_write, nb_write_kind, nb_write_add, nb_write_count, nb_write_end, nb_write_hear, nb_write_pull, nb_write_push, nb_write_read, nb_write_send, nb_write_state, kg_0, kg_1, kg_2, kg_3, kg_4, kg_5, kg_6, kg_7, kg_8, kg_9, kg_10, kg_11, kg_12, kg_13, kg_14, kg_15, kg_16, kg_17, kg_18, kg_19, kg_20, kg_21, kg_22, kg_23, kg_24, kg_25, kg_26, kg_27, kg_28, kg_29, kg_30, kg_31, kg_32, kg_33, kg_34, runB, startW, Out.res, xSeq, xIfS, xRet, xRetN, xDrop, xAsg, gN, xNext, xVar, xC, xNil, xCons, xBin, xUn, xCb, xBm, xAnd, xOr, xNot, xIf, xChain, xTup, xLst, xCall0, xNo, Res.bind, Res.of, iop, iopC, subM, divM, modM, mulM, powM, bandM, borM, ltM, gtM, geM, leM, negM, invM, addM, items, ixM, seqs, eqO, neO, eqM, flatW, eqFl, isiM, tyN, absM, sizeLine_eq, xFor, xLoop, xIl, xIt, xSl, xPn, xPs, slM, lenM, truM, intW, sumM, intM, maxM, minM, ordM, listM, isNonW, isNM, notNM, isBM, isnotBM, strW, joinM, xBmS, xIs, allBM, bolW, inM, keyW, dicts, ρC, splitM, gT2, xCallX, xMethX, xRaise, xTry, endX, fgt, xBmL, countM, slTM, isiX, tyX, kitA, clTy, catTM, tupleM, xLstN, countSM, indexSM, xLm, appM, xIr1, xRaiseI, xXf]) (Nat.le_refl _)⟩
  | 1, _ =>
    show (∃ i, getK dic1 (.inr d) = some (.int i) ∧ selfF _ _ _ [.int 1, .str d] h = .ok (.int i) h) ∨ (getK dic1 (.inr d) = none ∧ selfF _ _ _ [.int 1, .str d] h = .ok .non h)
    by_cases d0 : d = Str.ofString "push"
    · subst d0
      exact .inl ⟨2, gk1_0, selfF_ok rfl (by simp [atI_0, atI_1, atI_2, atI_3, List.idxOf_cons, ne_kind_add, ne_kind_count, ne_kind_end, ne_kind_hear, ne_kind_pull, ne_kind_push, ne_kind_read, ne_kind_send, ne_kind_state, ne_kind_write, ne_add_kind, ne_add_count, ne_add_end, ne_add_hear, ne_add_pull, ne_add_push, ne_add_read, ne_add_send, ne_add_state, ne_add_write, ne_count_kind, ne_count_add, ne_count_end, ne_count_hear, ne_count_pull, ne_count_push, ne_count_read, ne_count_send, ne_count_state, ne_count_write, ne_end_kind, ne_end_add, ne_end_count, ne_end_hear, ne_end_pull, ne_end_push, ne_end_read, ne_end_send, ne_end_state, ne_end_write, ne_hear_kind, ne_hear_add, ne_hear_count, ne_hear_end, ne_hear_pull, ne_hear_push, ne_hear_read, ne_hear_send, ne_hear_state, ne_hear_write, ne_pull_kind, ne_pull_add, ne_pull_count, ne_pull_end, ne_pull_hear, ne_pull_push, ne_pull_read, ne_pull_send, ne_pull_state, ne_pull_write, ne_push_kind, ne_push_add, ne_push_count, ne_push_end, ne_push_hear, ne_push_pull, ne_push_read, ne_push_send, ne_push_state, ne_push_write, ne_read_kind, ne_read_add, ne_read_count, ne_read_end, ne_read_hear, ne_read_pull, ne_read_push, ne_read_send, ne_read_state, ne_read_write, ne_send_kind, ne_send_add, ne_send_count, ne_send_end, ne_send_hear, ne_send_pull, ne_send_push, ne_send_read, ne_send_state, ne_send_write, ne_state_kind, ne_state_add, ne_state_count, ne_state_end, ne_state_hear, ne_state_pull, ne_state_push, ne_state_read, ne_state_send, ne_state_write, ne_write_kind, ne_write_add, ne_write_count, ne_write_end, ne_write_hear, ne_write_pull, ne_write_push, ne_write_read, ne_write_send, ne_write_state, nb_kind_add, nb_kind_count, nb_kind_end, nb_kind_hear, nb_kind_pull, nb_kind_push, nb_kind_read, nb_kind_send, nb_kind_state, nb_kind_write, nb_add_kind, nb_add_count, nb_add_end, nb_add_hear, nb_add_pull, nb_add_push, nb_add_read, nb_add_send, nb_add_state, nb_add_write, nb_count_kind, nb_count_add, nb_count_end, nb_count_hear, nb_count_pull, nb_count_push, nb_count_read, nb_count_send, nb_count_state, nb_count_write, nb_end_kind, nb_end_add, nb_end_count, nb_end_hear, nb_end_pull, nb_end_push, nb_end_read, nb_end_send, nb_end_state, nb_end_write, nb_hear_kind, nb_hear_add, nb_hear_count, nb_hear_end, nb_hear_pull, nb_hear_push, nb_hear_read, nb_hear_send, nb_hear_state, nb_hear_write, nb_pull_kind, nb_pull_add, nb_pull_count, nb_pull_end, nb_pull_hear, nb_pull_push, nb_pull_read, nb_pull_send, nb_pull_state, nb_pull_write, nb_push_kind, nb_push_add, nb_push_count, nb_push_end, nb_push_hear, nb_push_pull, nb_push_read, nb_push_send, nb_push_state, nb_push_write, nb_read_kind, nb_read_add, nb_read_count, nb_read_end, nb_read_hear, nb_read_pull, nb_read_push, nb_read_send, nb_read_state, nb_read_write, nb_send_kind, nb_send_add, nb_send_count, nb_send_end, nb_send_hear, nb_send_pull, nb_send_push, nb_send_read, nb_send_state, nb_send_write, nb_state_kind, nb_state_add, nb_state_count, nb_state_end, nb_state_hear, nb_state_pull, nb_state_push, nb_state_read, nb_state_send, nb_state_write, nb_write_kind, nb_write_add, nb_write_count, nb_write_end, nb_write_hear, nb_write_pull, nb_write_push, nb_write_read, nb_write_send, nb_write_state, kg_0, kg_1, kg_2, kg_3, kg_4, kg_5, kg_6, kg_7, kg_8, kg_9, kg_10, kg_11, kg_12, kg_13, kg_14, kg_15, kg_16, kg_17, kg_18, kg_19, kg_20, kg_21, kg_22, kg_23, kg_24, kg_25, kg_26, kg_27, kg_28, kg_29, kg_30, kg_31, kg_32, kg_33, kg_34, runB, startW, Out.res, xSeq, xIfS, xRet, xRetN, xDrop, xAsg, gN, xNext, xVar, xC, xNil, xCons, xBin, xUn, xCb, xBm, xAnd, xOr, xNot, xIf, xChain, xTup, xLst, xCall0, xNo, Res.bind, Res.of, iop, iopC, subM, divM, modM, mulM, powM, bandM, borM, ltM, gtM, geM, leM, negM, invM, addM, items, ixM, seqs, eqO, neO, eqM, flatW, eqFl, isiM, tyN, absM, sizeLine_eq, xFor, xLoop, xIl, xIt, xSl, xPn, xPs, slM, lenM, truM, intW, sumM, intM, maxM, minM, ordM, listM, isNonW, isNM, notNM, isBM, isnotBM, strW, joinM, xBmS, xIs, allBM, bolW, inM, keyW, dicts, ρC, splitM, gT2, xCallX, xMethX, xRaise, xTry, endX, fgt, xBmL, countM, slTM, isiX, tyX, kitA, clTy, catTM, tupleM, xLstN, countSM, indexSM, xLm, appM, xIr1, xRaiseI, xXf]) (Nat.le_refl _)⟩
    by_cases d1 : d = Str.ofString "pull"
    · subst d1
      exact .inl ⟨3, gk1_1, selfF_ok rfl (by simp [atI_0, atI_1, atI_2, atI_3, List.idxOf_cons, ne_kind_add, ne_kind_count, ne_kind_end, ne_kind_hear, ne_kind_pull, ne_kind_push, ne_kind_read, ne_kind_send, ne_kind_state, ne_kind_write, ne_add_kind, ne_add_count, ne_add_end, ne_add_hear, ne_add_pull, ne_add_push, ne_add_read, ne_add_send, ne_add_state, ne_add_write, ne_count_kind, ne_count_add, ne_count_end, ne_count_hear, ne_count_pull, ne_count_push, ne_count_read, ne_count_send, ne_count_state, ne_count_write, ne_end_kind, ne_end_add, ne_end_count, ne_end_hear, ne_end_pull, ne_end_push, ne_end_read, ne_end_send, ne_end_state, ne_end_write, ne_hear_kind, ne_hear_add, ne_hear_count, ne_hear_end, ne_hear_pull, ne_hear_push, ne_hear_read, ne_hear_send, ne_hear_state, ne_hear_write, ne_pull_kind, ne_pull_add, ne_pull_count, ne_pull_end, ne_pull_hear, ne_pull_push, ne_pull_read, ne_pull_send, ne_pull_state, ne_pull_write, ne_push_kind, ne_push_add, ne_push_count, ne_push_end, ne_push_hear, ne_push_pull, ne_push_read, ne_push_send, ne_push_state, ne_push_write, ne_read_kind, ne_read_add, ne_read_count, ne_read_end, ne_read_hear, ne_read_pull, ne_read_push, ne_read_send, ne_read_state, ne_read_write, ne_send_kind, ne_send_add, ne_send_count, ne_send_end, ne_send_hear, ne_send_pull, ne_send_push, ne_send_read, ne_send_state, ne_send_write, ne_state_kind, ne_state_add, ne_state_count, ne_state_end, ne_state_hear, ne_state_pull, ne_state_push, ne_state_read, ne_state_send, ne_state_write, ne_write_kind, ne_write_add, ne_write_count, ne_write_end, ne_write_hear, ne_write_pull, ne_write_push, ne_write_read, ne_write_send, ne_write_state, nb_kind_add, nb_kind_count, nb_kind_end, nb_kind_hear, nb_kind_pull, nb_kind_push, nb_kind_read, nb_kind_send, nb_kind_state, nb_kind_write, nb_add_kind, nb_add_count, nb_add_end, nb_add_hear, nb_add_pull, nb_add_push, nb_add_read, nb_add_send, nb_add_state, nb_add_write, nb_count_kind, nb_count_add, nb_count_end, nb_count_hear, nb_count_pull, nb_count_push, nb_count_read, nb_count_send, nb_count_state, nb_count_write, nb_end_kind, nb_end_add, nb_end_count, nb_end_hear, nb_end_pull, nb_end_push, nb_end_read, nb_end_send, nb_end_state, nb_end_write, nb_hear_kind, nb_hear_add, nb_hear_count, nb_hear_end, nb_hear_pull, nb_hear_push, nb_hear_read, nb_hear_send, nb_hear_state, nb_hear_write, nb_pull_kind, nb_pull_add, nb_pull_count, nb_pull_end, nb_pull_hear, nb_pull_push, nb_pull_read, nb_pull_send, nb_pull_state, nb_pull_write, nb_push_kind, nb_push_add, nb_push_count, nb_push_end, nb_push_hear, nb_push_pull, nb_push_read, nb_push_send, nb_push_state, nb_push_write, nb_read_kind, nb_read_add, nb_read_count, nb_read_end, nb_read_hear, nb_read_pull, nb_read_push, nb_read_send, nb_read_state, nb_read_write, nb_send_kind, nb_send_add, nb_send_count, nb_send_end, nb_send_hear, nb_send_pull, nb_send_push, nb_send_read, nb_send_state, nb_send_write, nb_state_kind, nb_state_add, nb_state_count, nb_state_end, nb_state_hear, nb_state_pull, nb_state_push, nb_state_read, nb_state_send, nb_state_write, nb_write_kind, nb_write_add, nb_write_count, nb_write_end, nb_write_hear, nb_write_pull, nb_write_push, nb_write_read, nb_write_send, nb_write_state, kg_0, kg_1, kg_2, kg_3, kg_4, kg_5, kg_6, kg_7, kg_8, kg_9, kg_10, kg_11, kg_12, kg_13, kg_14, kg_15, kg_16, kg_17, kg_18, kg_19, kg_20, kg_21, kg_22, kg_23, kg_24, kg_25, kg_26, kg_27, kg_28, kg_29, kg_30, kg_31, kg_32, kg_33, kg_34, runB, startW, Out.res, xSeq, xIfS, xRet, xRetN, xDrop, xAsg, gN, xNext, xVar, xC, xNil, xCons, xBin, xUn, xCb, xBm, xAnd, xOr, xNot, xIf, xChain, xTup, xLst, xCall0, xNo, Res.bind, Res.of, iop, iopC, subM, divM, modM, mulM, powM, bandM, borM, ltM, gtM, geM, leM, negM, invM, addM, items, ixM, seqs, eqO, neO, eqM, flatW, eqFl, isiM, tyN, absM, sizeLine_eq, xFor, xLoop, xIl, xIt, xSl, xPn, xPs, slM, lenM, truM, intW, sumM, intM, maxM, minM, ordM, listM, isNonW, isNM, notNM, isBM, isnotBM, strW, joinM, xBmS, xIs, allBM, bolW, inM, keyW, dicts, ρC, splitM, gT2, xCallX, xMethX, xRaise, xTry, endX, fgt, xBmL, countM, slTM, isiX, tyX, kitA, clTy, catTM, tupleM, xLstN, countSM, indexSM, xLm, appM, xIr1, xRaiseI, xXf]) (Nat.le_refl _)⟩
    by_cases d2 : d = Str.ofString "count"
    · subst d2
      exact .inl ⟨1, gk1_2, selfF_ok rfl (by simp [atI_0, atI_1, atI_2, atI_3, List.idxOf_cons, ne_kind_add, ne_kind_count, ne_kind_end, ne_kind_hear, ne_kind_pull, ne_kind_push, ne_kind_read, ne_kind_send, ne_kind_state, ne_kind_write, ne_add_kind, ne_add_count, ne_add_end, ne_add_hear, ne_add_pull, ne_add_push, ne_add_read, ne_add_send, ne_add_state, ne_add_write, ne_count_kind, ne_count_add, ne_count_end, ne_count_hear, ne_count_pull, ne_count_push, ne_count_read, ne_count_send, ne_count_state, ne_count_write, ne_end_kind, ne_end_add, ne_end_count, ne_end_hear, ne_end_pull, ne_end_push, ne_end_read, ne_end_send, ne_end_state, ne_end_write, ne_hear_kind, ne_hear_add, ne_hear_count, ne_hear_end, ne_hear_pull, ne_hear_push, ne_hear_read, ne_hear_send, ne_hear_state, ne_hear_write, ne_pull_kind, ne_pull_add, ne_pull_count, ne_pull_end, ne_pull_hear, ne_pull_push, ne_pull_read, ne_pull_send, ne_pull_state, ne_pull_write, ne_push_kind, ne_push_add, ne_push_count, ne_push_end, ne_push_hear, ne_push_pull, ne_push_read, ne_push_send, ne_push_state, ne_push_write, ne_read_kind, ne_read_add, ne_read_count, ne_read_end, ne_read_hear, ne_read_pull, ne_read_push, ne_read_send, ne_read_state, ne_read_write, ne_send_kind, ne_send_add, ne_send_count, ne_send_end, ne_send_hear, ne_send_pull, ne_send_push, ne_send_read, ne_send_state, ne_send_write, ne_state_kind, ne_state_add, ne_state_count, ne_state_end, ne_state_hear, ne_state_pull, ne_state_push, ne_state_read, ne_state_send, ne_state_write, ne_write_kind, ne_write_add, ne_write_count, ne_write_end, ne_write_hear, ne_write_pull, ne_write_push, ne_write_read, ne_write_send, ne_write_state, nb_kind_add, nb_kind_count, nb_kind_end, nb_kind_hear, nb_kind_pull, nb_kind_push, nb_kind_read, nb_kind_send, nb_kind_state, nb_kind_write, nb_add_kind, nb_add_count, nb_add_end, nb_add_hear, nb_add_pull, nb_add_push, nb_add_read, nb_add_send, nb_add_state, nb_add_write, nb_count_kind, nb_count_add, nb_count_end, nb_count_hear, nb_count_pull, nb_count_push, nb_count_read, nb_count_send, nb_count_state, nb_count_write, nb_end_kind, nb_end_add, nb_end_count, nb_end_hear, nb_end_pull, nb_end_push, nb_end_read, nb_end_send, nb_end_state, nb_end_write, nb_hear_kind, nb_hear_add, nb_hear_count, nb_hear_end, nb_hear_pull, nb_hear_push, nb_hear_read, nb_hear_send, nb_hear_state, nb_hear_write, nb_pull_kind, nb_pull_add, nb_pull_count, nb_pull_end, nb_pull_hear, nb_pull_push, nb_pull_read, nb_pull_send, nb_pull_state, nb_pull_write, nb_push_kind, nb_push_add, nb_push_count, nb_push_end, nb_push_hear, nb_push_pull, nb_push_read, nb_push_send, nb_push_state, nb_push_write, nb_read_kind, nb_read_add, nb_read_count, nb_read_end, nb_read_hear, nb_read_pull, nb_read_push, nb_read_send, nb_read_state, nb_read_write, nb_send_kind, nb_send_add, nb_send_count, nb_send_end, nb_send_hear, nb_send_pull, nb_send_push, nb_send_read, nb_send_state, nb_send_write, nb_state_kind, nb_state_add, nb_state_count, nb_state_end, nb_state_hear, nb_state_pull, nb_state_push, nb_state_read, nb_state_send, nb_state_write, nb_write_kind, nb_write_add, nb_write_count, nb_write_end, nb_write_hear, nb_write_pull, nb_write_push, nb_write_read, nb_write_send, nb_write_state, kg_0, kg_1, kg_2, kg_3, kg_4, kg_5, kg_6, kg_7, kg_8, kg_9, kg_10, kg_11, kg_12, kg_13, kg_14, kg_15, kg_16, kg_17, kg_18, kg_19, kg_20, kg_21, kg_22, kg_23, kg_24, kg_25, kg_26, kg_27, kg_28, kg_29, kg_30, kg_31, kg_32, kg_33, kg_34, runB, startW, Out.res, xSeq, xIfS, xRet, xRetN, xDrop, xAsg, gN, xNext, xVar, xC, xNil, xCons, xBin, xUn, xCb, xBm, xAnd, xOr, xNot, xIf, xChain, xTup, xLst, xCall0, xNo, Res.bind, Res.of, iop, iopC, subM, divM, modM, mulM, powM, bandM, borM, ltM, gtM, geM, leM, negM, invM, addM, items, ixM, seqs, eqO, neO, eqM, flatW, eqFl, isiM, tyN, absM, sizeLine_eq, xFor, xLoop, xIl, xIt, xSl, xPn, xPs, slM, lenM, truM, intW, sumM, intM, maxM, minM, ordM, listM, isNonW, isNM, notNM, isBM, isnotBM, strW, joinM, xBmS, xIs, allBM, bolW, inM, keyW, dicts, ρC, splitM, gT2, xCallX, xMethX, xRaise, xTry, endX, fgt, xBmL, countM, slTM, isiX, tyX, kitA, clTy, catTM, tupleM, xLstN, countSM, indexSM, xLm, appM, xIr1, xRaiseI, xXf]) (Nat.le_refl _)⟩
    have s0 : ¬ Str.ofString "push" = d := fun e => d0 e.symm
    have s1 : ¬ Str.ofString "pull" = d := fun e => d1 e.symm
    have s2 : ¬ Str.ofString "count" = d := fun e => d2 e.symm
    exact .inr ⟨gk1_n d0 d1 d2, selfF_ok rfl (by simp [atI_0, atI_1, atI_2, atI_3, d0, d1, d2, s0, s1, s2, hd, ne_kind_add, ne_kind_count, ne_kind_end, ne_kind_hear, ne_kind_pull, ne_kind_push, ne_kind_read, ne_kind_send, ne_kind_state, ne_kind_write, ne_add_kind, ne_add_count, ne_add_end, ne_add_hear, ne_add_pull, ne_add_push, ne_add_read, ne_add_send, ne_add_state, ne_add_write, ne_count_kind, ne_count_add, ne_count_end, ne_count_hear, ne_count_pull, ne_count_push, ne_count_read, ne_count_send, ne_count_state, ne_count_write, ne_end_kind, ne_end_add, ne_end_count, ne_end_hear, ne_end_pull, ne_end_push, ne_end_read, ne_end_send, ne_end_state, ne_end_write, ne_hear_kind, ne_hear_add, ne_hear_count, ne_hear_end, ne_hear_pull, ne_hear_push, ne_hear_read, ne_hear_send, ne_hear_state, ne_hear_write, ne_pull_kind, ne_pull_add, ne_pull_count, ne_pull_end, ne_pull_hear, ne_pull_push, ne_pull_read, ne_pull_send, ne_pull_state, ne_pull_write, ne_push_kind, ne_push_add, ne_push_count, ne_push_end, ne_push_hear, ne_push_pull, ne_push_read, ne_push_send, ne_push_state, ne_push_write, ne_read_kind, ne_read_add, ne_read_count, ne_read_end, ne_read_hear, ne_read_pull, ne_read_push, ne_read_send, ne_read_state, ne_read_write, ne_send_kind, ne_send_add, ne_send_count, ne_send_end, ne_send_hear, ne_send_pull, ne_send_push, ne_send_read, ne_send_state, ne_send_write, ne_state_kind, ne_state_add, ne_state_count, ne_state_end, ne_state_hear, ne_state_pull, ne_state_push, ne_state_read, ne_state_send, ne_state_write, ne_write_kind, ne_write_add, ne_write_count, ne_write_end, ne_write_hear, ne_write_pull, ne_write_push, ne_write_read, ne_write_send, ne_write_state, nb_kind_add, nb_kind_count, nb_kind_end, nb_kind_hear, nb_kind_pull, nb_kind_push, nb_kind_read, nb_kind_send, nb_kind_state, nb_kind_write, nb_add_kind, nb_add_count, nb_add_end, nb_add_hear, nb_add_pull, nb_add_push, nb_add_read, nb_add_send, nb_add_state, nb_add_write, nb_count_kind, nb_count_add, nb_count_end, nb_count_hear, nb_count_pull, nb_count_push, nb_count_read, nb_count_send, nb_count_state, nb_count_write, nb_end_kind, nb_end_add, nb_end_count, nb_end_hear, nb_end_pull, nb_end_push, nb_end_read, nb_end_send, nb_end_state, nb_end_write, nb_hear_kind, nb_hear_add, nb_hear_count, nb_hear_end, nb_hear_pull, nb_hear_push, nb_hear_read, nb_hear_send, nb_hear_state, nb_hear_write, nb_pull_kind, nb_pull_add, nb_pull_count, nb_pull_end, nb_pull_hear, nb_pull_push, nb_pull_read, nb_pull_send, nb_pull_state, nb_pull_write, nb_push_kind, nb_push_add, nb_push_count, nb_push_end, nb_push_hear, nb_push_pull, nb_push_read, nb_push_send, nb_push_state, nb_push_write, nb_read_kind, nb_read_add, nb_read_count, nb_read_end, nb_read_hear, nb_read_pull, nb_read_push, nb_read_send, nb_read_state, nb_read_write, nb_send_kind, nb_send_add, nb_send_count, nb_send_end, nb_send_hear, nb_send_pull, nb_send_push, nb_send_read, nb_send_state, nb_send_write, nb_state_kind, nb_state_add, nb_state_count, nb_state_end, nb_state_hear, nb_state_pull, nb_state_push, nb_state_read, nb_state_send, nb_state_write, nb_write_kind, nb_write_add, nb_write_count, nb_write_end, nb_write_hear, nb_write_pull, nb_write_push, nb_write_read, nb_write_send, nb_write_state, kg_0, kg_1, kg_2, kg_3, kg_4, kg_5, kg_6, kg_7, kg_8, kg_9, kg_10, kg_11, kg_12, kg_13, kg_14, kg_15, kg_16, kg_17, kg_18, kg_19, kg_20, kg_21, kg_22, kg_23, kg_24, kg_25, kg_26, kg_27, kg_28, kg_29, kg_30, kg_31, kg_32, kg_33, kg_34, runB, startW, Out.res, xSeq, xIfS, xRet, xRetN, xDrop, xAsg, gN, xNext, xVar, xC, xNil, xCons, xBin, xUn, xCb, xBm, xAnd, xOr, xNot, xIf, xChain, xTup, xLst, xCall0, xNo, Res.bind, Res.of, iop, iopC, subM, divM, modM, mulM, powM, bandM, borM, ltM, gtM, geM, leM, negM, invM, addM, items, ixM, seqs, eqO, neO, eqM, flatW, eqFl, isiM, tyN, absM, sizeLine_eq, xFor, xLoop, xIl, xIt, xSl, xPn, xPs, slM, lenM, truM, intW, sumM, intM, maxM, minM, ordM, listM, isNonW, isNM, notNM, isBM, isnotBM, strW, joinM, xBmS, xIs, allBM, bolW, inM, keyW, dicts, ρC, splitM, gT2, xCallX, xMethX, xRaise, xTry, endX, fgt, xBmL, countM, slTM, isiX, tyX, kitA, clTy, catTM, tupleM, xLstN, countSM, indexSM, xLm, appM, xIr1, xRaiseI, xXf]) (Nat.le_refl _)⟩
  | 2, _ =>
    show (∃ i, getK dic2 (.inr d) = some (.int i) ∧ selfF _ _ _ [.int 2, .str d] h = .ok (.int i) h) ∨ (getK dic2 (.inr d) = none ∧ selfF _ _ _ [.int 2, .str d] h = .ok .non h)
    by_cases d0 : d = Str.ofString "count"
    · subst d0
      exact .inl ⟨1, gk2_0, selfF_ok rfl (by simp [atI_0, atI_1, atI_2, atI_3, List.idxOf_cons, ne_kind_add, ne_kind_count, ne_kind_end, ne_kind_hear, ne_kind_pull, ne_kind_push, ne_kind_read, ne_kind_send, ne_kind_state, ne_kind_write, ne_add_kind, ne_add_count, ne_add_end, ne_add_hear, ne_add_pull, ne_add_push, ne_add_read, ne_add_send, ne_add_state, ne_add_write, ne_count_kind, ne_count_add, ne_count_end, ne_count_hear, ne_count_pull, ne_count_push, ne_count_read, ne_count_send, ne_count_state, ne_count_write, ne_end_kind, ne_end_add, ne_end_count, ne_end_hear, ne_end_pull, ne_end_push, ne_end_read, ne_end_send, ne_end_state, ne_end_write, ne_hear_kind, ne_hear_add, ne_hear_count, ne_hear_end, ne_hear_pull, ne_hear_push, ne_hear_read, ne_hear_send, ne_hear_state, ne_hear_write, ne_pull_kind, ne_pull_add, ne_pull_count, ne_pull_end, ne_pull_hear, ne_pull_push, ne_pull_read, ne_pull_send, ne_pull_state, ne_pull_write, ne_push_kind, ne_push_add, ne_push_count, ne_push_end, ne_push_hear, ne_push_pull, ne_push_read, ne_push_send, ne_push_state, ne_push_write, ne_read_kind, ne_read_add, ne_read_count, ne_read_end, ne_read_hear, ne_read_pull, ne_read_push, ne_read_send, ne_read_state, ne_read_write, ne_send_kind, ne_send_add, ne_send_count, ne_send_end, ne_send_hear, ne_send_pull, ne_send_push, ne_send_read, ne_send_state, ne_send_write, ne_state_kind, ne_state_add, ne_state_count, ne_state_end, ne_state_hear, ne_state_pull, ne_state_push, ne_state_read, ne_state_send, ne_state_write, ne_write_kind, ne_write_add, ne_write_count, ne_write_end, ne_write_hear, ne_write_pull, ne_write_push, ne_write_read, ne_write_send, ne_write_state, nb_kind_add, nb_kind_count, nb_kind_end, nb_kind_hear, nb_kind_pull, nb_kind_push, nb_kind_read, nb_kind_send, nb_kind_state, nb_kind_write, nb_add_kind, nb_add_count, nb_add_end, nb_add_hear, nb_add_pull, nb_add_push, nb_add_read, nb_add_send, nb_add_state, nb_add_write, nb_count_kind, nb_count_add, nb_count_end, nb_count_hear, nb_count_pull, nb_count_push, nb_count_read, nb_count_send, nb_count_state, nb_count_write, nb_end_kind, nb_end_add, nb_end_count, nb_end_hear, nb_end_pull, nb_end_push, nb_end_read, nb_end_send, nb_end_state, nb_end_write, nb_hear_kind, nb_hear_add, nb_hear_count, nb_hear_end, nb_hear_pull, nb_hear_push, nb_hear_read, nb_hear_send, nb_hear_state, nb_hear_write, nb_pull_kind, nb_pull_add, nb_pull_count, nb_pull_end, nb_pull_hear, nb_pull_push, nb_pull_read, nb_pull_send, nb_pull_state, nb_pull_write, nb_push_kind, nb_push_add, nb_push_count, nb_push_end, nb_push_hear, nb_push_pull, nb_push_read, nb_push_send, nb_push_state, nb_push_write, nb_read_kind, nb_read_add, nb_read_count, nb_read_end, nb_read_hear, nb_read_pull, nb_read_push, nb_read_send, nb_read_state, nb_read_write, nb_send_kind, nb_send_add, nb_send_count, nb_send_end, nb_send_hear, nb_send_pull, nb_send_push, nb_send_read, nb_send_state, nb_send_write, nb_state_kind, nb_state_add, nb_state_count, nb_state_end, nb_state_hear, nb_state_pull, nb_state_push, nb_state_read, nb_state_send, nb_state_write, nb_write_kind, nb_write_add, nb_write_count, nb_write_end, nb_write_hear, nb_write_pull, nb_write_push, nb_write_read, nb_write_send, nb_write_state, kg_0, kg_1, kg_2, kg_3, kg_4, kg_5, kg_6, kg_7, kg_8, kg_9, kg_10, kg_11, kg_12, kg_13, kg_14, kg_15, kg_16, kg_17, kg_18, kg_19, kg_20, kg_21, kg_22, kg_23, kg_24, kg_25, kg_26, kg_27, kg_28, kg_29, kg_30, kg_31, kg_32, kg_33, kg_34, runB, startW, Out.res, xSeq, xIfS, xRet, xRetN, xDrop, xAsg, gN, xNext, xVar, xC, xNil, xCons, xBin, xUn, xCb, xBm, xAnd, xOr, xNot, xIf, xChain, xTup, xLst, xCall0, xNo, Res.bind, Res.of, iop, iopC, subM, divM, modM, mulM, powM, bandM, borM, ltM, gtM, geM, leM, negM, invM, addM, items, ixM, seqs, eqO, neO, eqM, flatW, eqFl, isiM, tyN, absM, sizeLine_eq, xFor, xLoop, xIl, xIt, xSl, xPn, xPs, slM, lenM, truM, intW, sumM, intM, maxM, minM, ordM, listM, isNonW, isNM, notNM, isBM, isnotBM, strW, joinM, xBmS, xIs, allBM, bolW, inM, keyW, dicts, ρC, splitM, gT2, xCallX, xMethX, xRaise, xTry, endX, fgt, xBmL, countM, slTM, isiX, tyX, kitA, clTy, catTM, tupleM, xLstN, countSM, indexSM, xLm, appM, xIr1, xRaiseI, xXf]) (Nat.le_refl _)⟩
    by_cases d1 : d = Str.ofString "send"
    · subst d1
      exact .inl ⟨4, gk2_1, selfF_ok rfl (by simp [atI_0, atI_1, atI_2, atI_3, List.idxOf_cons, ne_kind_add, ne_kind_count, ne_kind_end, ne_kind_hear, ne_kind_pull, ne_kind_push, ne_kind_read, ne_kind_send, ne_kind_state, ne_kind_write, ne_add_kind, ne_add_count, ne_add_end, ne_add_hear, ne_add_pull, ne_add_push, ne_add_read, ne_add_send, ne_add_state, ne_add_write, ne_count_kind, ne_count_add, ne_count_end, ne_count_hear, ne_count_pull, ne_count_push, ne_count_read, ne_count_send, ne_count_state, ne_count_write, ne_end_kind, ne_end_add, ne_end_count, ne_end_hear, ne_end_pull, ne_end_push, ne_end_read, ne_end_send, ne_end_state, ne_end_write, ne_hear_kind, ne_hear_add, ne_hear_count, ne_hear_end, ne_hear_pull, ne_hear_push, ne_hear_read, ne_hear_send, ne_hear_state, ne_hear_write, ne_pull_kind, ne_pull_add, ne_pull_count, ne_pull_end, ne_pull_hear, ne_pull_push, ne_pull_read, ne_pull_send, ne_pull_state, ne_pull_write, ne_push_kind, ne_push_add, ne_push_count, ne_push_end, ne_push_hear, ne_push_pull, ne_push_read, ne_push_send, ne_push_state, ne_push_write, ne_read_kind, ne_read_add, ne_read_count, ne_read_end, ne_read_hear, ne_read_pull, ne_read_push, ne_read_send, ne_read_state, ne_read_write, ne_send_kind, ne_send_add, ne_send_count, ne_send_end, ne_send_hear, ne_send_pull, ne_send_push, ne_send_read, ne_send_state, ne_send_write, ne_state_kind, ne_state_add, ne_state_count, ne_state_end, ne_state_hear, ne_state_pull, ne_state_push, ne_state_read, ne_state_send, ne_state_write, ne_write_kind, ne_write_add, ne_write_count, ne_write_end, ne_write_hear, ne_write_pull, ne_write_push, ne_write_read, ne_write_send, ne_write_state, nb_kind_add, nb_kind_count, nb_kind_end, nb_kind_hear, nb_kind_pull, nb_kind_push, nb_kind_read, nb_kind_send, nb_kind_state, nb_kind_write, nb_add_kind, nb_add_count, nb_add_end, nb_add_hear, nb_add_pull, nb_add_push, nb_add_read, nb_add_send, nb_add_state, nb_add_write, nb_count_kind, nb_count_add, nb_count_end, nb_count_hear, nb_count_pull, nb_count_push, nb_count_read, nb_count_send, nb_count_state, nb_count_write, nb_end_kind, nb_end_add, nb_end_count, nb_end_hear, nb_end_pull, nb_end_push, nb_end_read, nb_end_send, nb_end_state, nb_end_write, nb_hear_kind, nb_hear_add, nb_hear_count, nb_hear_end, nb_hear_pull, nb_hear_push, nb_hear_read, nb_hear_send, nb_hear_state, nb_hear_write, nb_pull_kind, nb_pull_add, nb_pull_count, nb_pull_end, nb_pull_hear, nb_pull_push, nb_pull_read, nb_pull_send, nb_pull_state, nb_pull_write, nb_push_kind, nb_push_add, nb_push_count, nb_push_end, nb_push_hear, nb_push_pull, nb_push_read, nb_push_send, nb_push_state, nb_push_write, nb_read_kind, nb_read_add, nb_read_count, nb_read_end, nb_read_hear, nb_read_pull, nb_read_push, nb_read_send, nb_read_state, nb_read_write, nb_send_kind, nb_send_add, nb_send_count, nb_send_end, nb_send_hear, nb_send_pull, nb_send_push, nb_send_read, nb_send_state, nb_send_write, nb_state_kind, nb_state_add, nb_state_count, nb_state_end, nb_state_hear, nb_state_pull, nb_state_push, nb_state_read, nb_state_send, nb_state_write, nb_write_kind, nb_write_add, nb_write_count, nb_write_end, nb_write_hear, nb_write_pull, nb_write_push, nb_write_read, nb_write_send, nb_write_state, kg_0, kg_1, kg_2, kg_3, kg_4, kg_5, kg_6, kg_7, kg_8, kg_9, kg_10, kg_11, kg_12, kg_13, kg_14, kg_15, kg_16, kg_17, kg_18, kg_19, kg_20, kg_21, kg_22, kg_23, kg_24, kg_25, kg_26, kg_27, kg_28, kg_29, kg_30, kg_31, kg_32, kg_33, kg_34, runB, startW, Out.res, xSeq, xIfS, xRet, xRetN, xDrop, xAsg, gN, xNext, xVar, xC, xNil, xCons, xBin, xUn, xCb, xBm, xAnd, xOr, xNot, xIf, xChain, xTup, xLst, xCall0, xNo, Res.bind, Res.of, iop, iopC, subM, divM, modM, mulM, powM, bandM, borM, ltM, gtM, geM, leM, negM, invM, addM, items, ixM, seqs, eqO, neO, eqM, flatW, eqFl, isiM, tyN, absM, sizeLine_eq, xFor, xLoop, xIl, xIt, xSl, xPn, xPs, slM, lenM, truM, intW, sumM, intM, maxM, minM, ordM, listM, isNonW, isNM, notNM, isBM, isnotBM, strW, joinM, xBmS, xIs, allBM, bolW, inM, keyW, dicts, ρC, splitM, gT2, xCallX, xMethX, xRaise, xTry, endX, fgt, xBmL, countM, slTM, isiX, tyX, kitA, clTy, catTM, tupleM, xLstN, countSM, indexSM, xLm, appM, xIr1, xRaiseI, xXf]) (Nat.le_refl _)⟩
    by_cases d2 : d = Str.ofString "hear"
    · subst d2
      exact .inl ⟨8, gk2_2, selfF_ok rfl (by simp [atI_0, atI_1, atI_2, atI_3, List.idxOf_cons, ne_kind_add, ne_kind_count, ne_kind_end, ne_kind_hear, ne_kind_pull, ne_kind_push, ne_kind_read, ne_kind_send, ne_kind_state, ne_kind_write, ne_add_kind, ne_add_count, ne_add_end, ne_add_hear, ne_add_pull, ne_add_push, ne_add_read, ne_add_send, ne_add_state, ne_add_write, ne_count_kind, ne_count_add, ne_count_end, ne_count_hear, ne_count_pull, ne_count_push, ne_count_read, ne_count_send, ne_count_state, ne_count_write, ne_end_kind, ne_end_add, ne_end_count, ne_end_hear, ne_end_pull, ne_end_push, ne_end_read, ne_end_send, ne_end_state, ne_end_write, ne_hear_kind, ne_hear_add, ne_hear_count, ne_hear_end, ne_hear_pull, ne_hear_push, ne_hear_read, ne_hear_send, ne_hear_state, ne_hear_write, ne_pull_kind, ne_pull_add, ne_pull_count, ne_pull_end, ne_pull_hear, ne_pull_push, ne_pull_read, ne_pull_send, ne_pull_state, ne_pull_write, ne_push_kind, ne_push_add, ne_push_count, ne_push_end, ne_push_hear, ne_push_pull, ne_push_read, ne_push_send, ne_push_state, ne_push_write, ne_read_kind, ne_read_add, ne_read_count, ne_read_end, ne_read_hear, ne_read_pull, ne_read_push, ne_read_send, ne_read_state, ne_read_write, ne_send_kind, ne_send_add, ne_send_count, ne_send_end, ne_send_hear, ne_send_pull, ne_send_push, ne_send_read, ne_send_state, ne_send_write, ne_state_kind, ne_state_add, ne_state_count, ne_state_end, ne_state_hear, ne_state_pull, ne_state_push, ne_state_read, ne_state_send, ne_state_write, ne_write_kind, ne_write_add, ne_write_count, ne_write_end, ne_write_hear, ne_write_pull, ne_write_push, ne_write_read, ne_write_send, ne_write_state, nb_kind_add, nb_kind_count, nb_kind_end, nb_kind_hear, nb_kind_pull, nb_kind_push, nb_kind_read, nb_kind_send, nb_kind_state, nb_kind_write, nb_add_kind, nb_add_count, nb_add_end, nb_add_hear, nb_add_pull, nb_add_push, nb_add_read, nb_add_send, nb_add_state, nb_add_write, nb_count_kind, nb_count_add, nb_count_end, nb_count_hear, nb_count_pull, nb_count_push, nb_count_read, nb_count_send, nb_count_state, nb_count_write, nb_end_kind, nb_end_add, nb_end_count, nb_end_hear, nb_end_pull, nb_end_push, nb_end_read, nb_end_send, nb_end_state, nb_end_write, nb_hear_kind, nb_hear_add, nb_hear_count, nb_hear_end, nb_hear_pull, nb_hear_push, nb_hear_read, nb_hear_send, nb_hear_state, nb_hear_write, nb_pull_kind, nb_pull_add, nb_pull_count, nb_pull_end, nb_pull_hear, nb_pull_push, nb_pull_read, nb_pull_send, nb_pull_state, nb_pull_write, nb_push_kind, nb_push_add, nb_push_count, nb_push_end, nb_push_hear, nb_push_pull, nb_push_read, nb_push_send, nb_push_state, nb_push_write, nb_read_kind, nb_read_add, nb_read_count, nb_read_end, nb_read_hear, nb_read_pull, nb_read_push, nb_read_send, nb_read_state, nb_read_write, nb_send_kind, nb_send_add, nb_send_count, nb_send_end, nb_send_hear, nb_send_pull, nb_send_push, nb_send_read, nb_send_state, nb_send_write, nb_state_kind, nb_state_add, nb_state_count, nb_state_end, nb_state_hear, nb_state_pull, nb_state_push, nb_state_read, nb_state_send, nb_state_write, nb_write_kind, nb_write_add, nb_write_count, nb_write_end, nb_write_hear, nb_write_pull, nb_write_push, nb_write_read, nb_write_send, nb_write_state, kg_0, kg_1, kg_2, kg_3, kg_4, kg_5, kg_6, kg_7, kg_8, kg_9, kg_10, kg_11, kg_12, kg_13, kg_14, kg_15, kg_16, kg_17, kg_18, kg_19, kg_20, kg_21, kg_22, kg_23, kg_24, kg_25, kg_26, kg_27, kg_28, kg_29, kg_30, kg_31, kg_32, kg_33, kg_34, runB, startW, Out.res, xSeq, xIfS, xRet, xRetN, xDrop, xAsg, gN, xNext, xVar, xC, xNil, xCons, xBin, xUn, xCb, xBm, xAnd, xOr, xNot, xIf, xChain, xTup, xLst, xCall0, xNo, Res.bind, Res.of, iop, iopC, subM, divM, modM, mulM, powM, bandM, borM, ltM, gtM, geM, leM, negM, invM, addM, items, ixM, seqs, eqO, neO, eqM, flatW, eqFl, isiM, tyN, absM, sizeLine_eq, xFor, xLoop, xIl, xIt, xSl, xPn, xPs, slM, lenM, truM, intW, sumM, intM, maxM, minM, ordM, listM, isNonW, isNM, notNM, isBM, isnotBM, strW, joinM, xBmS, xIs, allBM, bolW, inM, keyW, dicts, ρC, splitM, gT2, xCallX, xMethX, xRaise, xTry, endX, fgt, xBmL, countM, slTM, isiX, tyX, kitA, clTy, catTM, tupleM, xLstN, countSM, indexSM, xLm, appM, xIr1, xRaiseI, xXf]) (Nat.le_refl _)⟩
    have s0 : ¬ Str.ofString "count" = d := fun e => d0 e.symm
    have s1 : ¬ Str.ofString "send" = d := fun e => d1 e.symm
    have s2 : ¬ Str.ofString "hear" = d := fun e => d2 e.symm
    exact .inr ⟨gk2_n d0 d1 d2, selfF_ok rfl (by simp [atI_0, atI_1, atI_2, atI_3, d0, d1, d2, s0, s1, s2, hd, ne_kind_add, ne_kind_count, ne_kind_end, ne_kind_hear, ne_kind_pull, ne_kind_push, ne_kind_read, ne_kind_send, ne_kind_state, ne_kind_write, ne_add_kind, ne_add_count, ne_add_end, ne_add_hear, ne_add_pull, ne_add_push, ne_add_read, ne_add_send, ne_add_state, ne_add_write, ne_count_kind, ne_count_add, ne_count_end, ne_count_hear, ne_count_pull, ne_count_push, ne_count_read, ne_count_send, ne_count_state, ne_count_write, ne_end_kind, ne_end_add, ne_end_count, ne_end_hear, ne_end_pull, ne_end_push, ne_end_read, ne_end_send, ne_end_state, ne_end_write, ne_hear_kind, ne_hear_add, ne_hear_count, ne_hear_end, ne_hear_pull, ne_hear_push, ne_hear_read, ne_hear_send, ne_hear_state, ne_hear_write, ne_pull_kind, ne_pull_add, ne_pull_count, ne_pull_end, ne_pull_hear, ne_pull_push, ne_pull_read, ne_pull_send, ne_pull_state, ne_pull_write, ne_push_kind, ne_push_add, ne_push_count, ne_push_end, ne_push_hear, ne_push_pull, ne_push_read, ne_push_send, ne_push_state, ne_push_write, ne_read_kind, ne_read_add, ne_read_count, ne_read_end, ne_read_hear, ne_read_pull, ne_read_push, ne_read_send, ne_read_state, ne_read_write, ne_send_kind, ne_send_add, ne_send_count, ne_send_end, ne_send_hear, ne_send_pull, ne_send_push, ne_send_read, ne_send_state, ne_send_write, ne_state_kind, ne_state_add, ne_state_count, ne_state_end, ne_state_hear, ne_state_pull, ne_state_push, ne_state_read, ne_state_send, ne_state_write, ne_write_kind, ne_write_add, ne_write_count, ne_write_end, ne_write_hear, ne_write_pull, ne_write_push, ne_write_read, ne_write_send, ne_write_state, nb_kind_add, nb_kind_count, nb_kind_end, nb_kind_hear, nb_kind_pull, nb_kind_push, nb_kind_read, nb_kind_send, nb_kind_state, nb_kind_write, nb_add_kind, nb_add_count, nb_add_end, nb_add_hear, nb_add_pull, nb_add_push, nb_add_read, nb_add_send, nb_add_state, nb_add_write, nb_count_kind, nb_count_add, nb_count_end, nb_count_hear, nb_count_pull, nb_count_push, nb_count_read, nb_count_send, nb_count_state, nb_count_write, nb_end_kind, nb_end_add, nb_end_count, nb_end_hear, nb_end_pull, nb_end_push, nb_end_read, nb_end_send, nb_end_state, nb_end_write, nb_hear_kind, nb_hear_add, nb_hear_count, nb_hear_end, nb_hear_pull, nb_hear_push, nb_hear_read, nb_hear_send, nb_hear_state, nb_hear_write, nb_pull_kind, nb_pull_add, nb_pull_count, nb_pull_end, nb_pull_hear, nb_pull_push, nb_pull_read, nb_pull_send, nb_pull_state, nb_pull_write, nb_push_kind, nb_push_add, nb_push_count, nb_push_end, nb_push_hear, nb_push_pull, nb_push_read, nb_push_send, nb_push_state, nb_push_write, nb_read_kind, nb_read_add, nb_read_count, nb_read_end, nb_read_hear, nb_read_pull, nb_read_push, nb_read_send, nb_read_state, nb_read_write, nb_send_kind, nb_send_add, nb_send_count, nb_send_end, nb_send_hear, nb_send_pull, nb_send_push, nb_send_read, nb_send_state, nb_send_write, nb_state_kind, nb_state_add, nb_state_count, nb_state_end, nb_state_hear, nb_state_pull, nb_state_push, nb_state_read, nb_state_send, nb_state_write, nb_write_kind, nb_write_add, nb_write_count, nb_write_end, nb_write_hear, nb_write_pull, nb_write_push, nb_write_read, nb_write_send, nb_write_state, kg_0, kg_1, kg_2, kg_3, kg_4, kg_5, kg_6, kg_7, kg_8, kg_9, kg_10, kg_11, kg_12, kg_13, kg_14, kg_15, kg_16, kg_17, kg_18, kg_19, kg_20, kg_21, kg_22, kg_23, kg_24, kg_25, kg_26, kg_27, kg_28, kg_29, kg_30, kg_31, kg_32, kg_33, kg_34, runB, startW, Out.res, xSeq, xIfS, xRet, xRetN, xDrop, xAsg, gN, xNext, xVar, xC, xNil, xCons, xBin, xUn, xCb, xBm, xAnd, xOr, xNot, xIf, xChain, xTup, xLst, xCall0, xNo, Res.bind, Res.of, iop, iopC, subM, divM, modM, mulM, powM, bandM, borM, ltM, gtM, geM, leM, negM, invM, addM, items, ixM, seqs, eqO, neO, eqM, flatW, eqFl, isiM, tyN, absM, sizeLine_eq, xFor, xLoop, xIl, xIt, xSl, xPn, xPs, slM, lenM, truM, intW, sumM, intM, maxM, minM, ordM, listM, isNonW, isNM, notNM, isBM, isnotBM, strW, joinM, xBmS, xIs, allBM, bolW, inM, keyW, dicts, ρC, splitM, gT2, xCallX, xMethX, xRaise, xTry, endX, fgt, xBmL, countM, slTM, isiX, tyX, kitA, clTy, catTM, tupleM, xLstN, countSM, indexSM, xLm, appM, xIr1, xRaiseI, xXf]) (Nat.le_refl _)⟩
  | 3, _ =>
    show (∃ i, getK dic3 (.inr d) = some (.int i) ∧ selfF _ _ _ [.int 3, .str d] h = .ok (.int i) h) ∨ (getK dic3 (.inr d) = none ∧ selfF _ _ _ [.int 3, .str d] h = .ok .non h)
    by_cases d0 : d = Str.ofString "state"
    · subst d0
      exact .inl ⟨1, gk3_0, selfF_ok rfl (by simp [atI_0, atI_1, atI_2, atI_3, List.idxOf_cons, ne_kind_add, ne_kind_count, ne_kind_end, ne_kind_hear, ne_kind_pull, ne_kind_push, ne_kind_read, ne_kind_send, ne_kind_state, ne_kind_write, ne_add_kind, ne_add_count, ne_add_end, ne_add_hear, ne_add_pull, ne_add_push, ne_add_read, ne_add_send, ne_add_state, ne_add_write, ne_count_kind, ne_count_add, ne_count_end, ne_count_hear, ne_count_pull, ne_count_push, ne_count_read, ne_count_send, ne_count_state, ne_count_write, ne_end_kind, ne_end_add, ne_end_count, ne_end_hear, ne_end_pull, ne_end_push, ne_end_read, ne_end_send, ne_end_state, ne_end_write, ne_hear_kind, ne_hear_add, ne_hear_count, ne_hear_end, ne_hear_pull, ne_hear_push, ne_hear_read, ne_hear_send, ne_hear_state, ne_hear_write, ne_pull_kind, ne_pull_add, ne_pull_count, ne_pull_end, ne_pull_hear, ne_pull_push, ne_pull_read, ne_pull_send, ne_pull_state, ne_pull_write, ne_push_kind, ne_push_add, ne_push_count, ne_push_end, ne_push_hear, ne_push_pull, ne_push_read, ne_push_send, ne_push_state, ne_push_write, ne_read_kind, ne_read_add, ne_read_count, ne_read_end, ne_read_hear, ne_read_pull, ne_read_push, ne_read_send, ne_read_state, ne_read_write, ne_send_kind, ne_send_add, ne_send_count, ne_send_end, ne_send_hear, ne_send_pull, ne_send_push, ne_send_read, ne_send_state, ne_send_write, ne_state_kind, ne_state_add, ne_state_count, ne_state_end, ne_state_hear, ne_state_pull, ne_state_push, ne_state_read, ne_state_send, ne_state_write, ne_write_kind, ne_write_add, ne_write_count, ne_write_end, ne_write_hear, ne_write_pull, ne_write_push, ne_write_read, ne_write_send, ne_write_state, nb_kind_add, nb_kind_count, nb_kind_end, nb_kind_hear, nb_kind_pull, nb_kind_push, nb_kind_read, nb_kind_send, nb_kind_state, nb_kind_write, nb_add_kind, nb_add_count, nb_add_end, nb_add_hear, nb_add_pull, nb_add_push, nb_add_read, nb_add_send, nb_add_state, nb_add_write, nb_count_kind, nb_count_add, nb_count_end, nb_count_hear, nb_count_pull, nb_count_push, nb_count_read, nb_count_send, nb_count_state, nb_count_write, nb_end_kind, nb_end_add, nb_end_count, nb_end_hear, nb_end_pull, nb_end_push, nb_end_read, nb_end_send, nb_end_state, nb_end_write, nb_hear_kind, nb_hear_add, nb_hear_count, nb_hear_end, nb_hear_pull, nb_hear_push, nb_hear_read, nb_hear_send, nb_hear_state, nb_hear_write, nb_pull_kind, nb_pull_add, nb_pull_count, nb_pull_end, nb_pull_hear, nb_pull_push, nb_pull_read, nb_pull_send, nb_pull_state, nb_pull_write, nb_push_kind, nb_push_add, nb_push_count, nb_push_end, nb_push_hear, nb_push_pull, nb_push_read, nb_push_send, nb_push_state, nb_push_write, nb_read_kind, nb_read_add, nb_read_count, nb_read_end, nb_read_hear, nb_read_pull, nb_read_push, nb_read_send, nb_read_state, nb_read_write, nb_send_kind, nb_send_add, nb_send_count, nb_send_end, nb_send_hear, nb_send_pull, nb_send_push, nb_send_read, nb_send_state, nb_send_write, nb_state_kind, nb_state_add, nb_state_count, nb_state_end, nb_state_hear, nb_state_pull, nb_state_push, nb_state_read, nb_state_send, nb_state_write, nb_write_kind, nb_write_add, nb_write_count, nb_write_end, nb_write_hear, nb_write_pull, nb_write_push, nb_write_read, nb_write_send, nb_write_state, kg_0, kg_1, kg_2, kg_3, kg_4, kg_5, kg_6, kg_7, kg_8, kg_9, kg_10, kg_11, kg_12, kg_13, kg_14, kg_15, kg_16, kg_17, kg_18, kg_19, kg_20, kg_21, kg_22, kg_23, kg_24, kg_25, kg_26, kg_27, kg_28, kg_29, kg_30, kg_31, kg_32, kg_33, kg_34, runB, startW, Out.res, xSeq, xIfS, xRet, xRetN, xDrop, xAsg, gN, xNext, xVar, xC, xNil, xCons, xBin, xUn, xCb, xBm, xAnd, xOr, xNot, xIf, xChain, xTup, xLst, xCall0, xNo, Res.bind, Res.of, iop, iopC, subM, divM, modM, mulM, powM, bandM, borM, ltM, gtM, geM, leM, negM, invM, addM, items, ixM, seqs, eqO, neO, eqM, flatW, eqFl, isiM, tyN, absM, sizeLine_eq, xFor, xLoop, xIl, xIt, xSl, xPn, xPs, slM, lenM, truM, intW, sumM, intM, maxM, minM, ordM, listM, isNonW, isNM, notNM, isBM, isnotBM, strW, joinM, xBmS, xIs, allBM, bolW, inM, keyW, dicts, ρC, splitM, gT2, xCallX, xMethX, xRaise, xTry, endX, fgt, xBmL, countM, slTM, isiX, tyX, kitA, clTy, catTM, tupleM, xLstN, countSM, indexSM, xLm, appM, xIr1, xRaiseI, xXf]) (Nat.le_refl _)⟩
    by_cases d1 : d = Str.ofString "end"
    · subst d1
      exact .inl ⟨16, gk3_1, selfF_ok rfl (by simp [atI_0, atI_1, atI_2, atI_3, List.idxOf_cons, ne_kind_add, ne_kind_count, ne_kind_end, ne_kind_hear, ne_kind_pull, ne_kind_push, ne_kind_read, ne_kind_send, ne_kind_state, ne_kind_write, ne_add_kind, ne_add_count, ne_add_end, ne_add_hear, ne_add_pull, ne_add_push, ne_add_read, ne_add_send, ne_add_state, ne_add_write, ne_count_kind, ne_count_add, ne_count_end, ne_count_hear, ne_count_pull, ne_count_push, ne_count_read, ne_count_send, ne_count_state, ne_count_write, ne_end_kind, ne_end_add, ne_end_count, ne_end_hear, ne_end_pull, ne_end_push, ne_end_read, ne_end_send, ne_end_state, ne_end_write, ne_hear_kind, ne_hear_add, ne_hear_count, ne_hear_end, ne_hear_pull, ne_hear_push, ne_hear_read, ne_hear_send, ne_hear_state, ne_hear_write, ne_pull_kind, ne_pull_add, ne_pull_count, ne_pull_end, ne_pull_hear, ne_pull_push, ne_pull_read, ne_pull_send, ne_pull_state, ne_pull_write, ne_push_kind, ne_push_add, ne_push_count, ne_push_end, ne_push_hear, ne_push_pull, ne_push_read, ne_push_send, ne_push_state, ne_push_write, ne_read_kind, ne_read_add, ne_read_count, ne_read_end, ne_read_hear, ne_read_pull, ne_read_push, ne_read_send, ne_read_state, ne_read_write, ne_send_kind, ne_send_add, ne_send_count, ne_send_end, ne_send_hear, ne_send_pull, ne_send_push, ne_send_read, ne_send_state, ne_send_write, ne_state_kind, ne_state_add, ne_state_count, ne_state_end, ne_state_hear, ne_state_pull, ne_state_push, ne_state_read, ne_state_send, ne_state_write, ne_write_kind, ne_write_add, ne_write_count, ne_write_end, ne_write_hear, ne_write_pull, ne_write_push, ne_write_read, ne_write_send, ne_write_state, nb_kind_add, nb_kind_count, nb_kind_end, nb_kind_hear, nb_kind_pull, nb_kind_push, nb_kind_read, nb_kind_send, nb_kind_state, nb_kind_write, nb_add_kind, nb_add_count, nb_add_end, nb_add_hear, nb_add_pull, nb_add_push, nb_add_read, nb_add_send, nb_add_state, nb_add_write, nb_count_kind, nb_count_add, nb_count_end, nb_count_hear, nb_count_pull, nb_count_push, nb_count_read, nb_count_send, nb_count_state, nb_count_write, nb_end_kind, nb_end_add, nb_end_count, nb_end_hear, nb_end_pull, nb_end_push, nb_end_read, nb_end_send, nb_end_state, nb_end_write, nb_hear_kind, nb_hear_add, nb_hear_count, nb_hear_end, nb_hear_pull, nb_hear_push, nb_hear_read, nb_hear_send, nb_hear_state, nb_hear_write, nb_pull_kind, nb_pull_add, nb_pull_count, nb_pull_end, nb_pull_hear, nb_pull_push, nb_pull_read, nb_pull_send, nb_pull_state, nb_pull_write, nb_push_kind, nb_push_add, nb_push_count, nb_push_end, nb_push_hear, nb_push_pull, nb_push_read, nb_push_send, nb_push_state, nb_push_write, nb_read_kind, nb_read_add, nb_read_count, nb_read_end, nb_read_hear, nb_read_pull, nb_read_push, nb_read_send, nb_read_state, nb_read_write, nb_send_kind, nb_send_add, nb_send_count, nb_send_end, nb_send_hear, nb_send_pull, nb_send_push, nb_send_read, nb_send_state, nb_send_write, nb_state_kind, nb_state_add, nb_state_count, nb_state_end, nb_state_hear, nb_state_pull, nb_state_push, nb_state_read, nb_state_send, nb_state_write, nb_write_kind, nb_write_add, nb_write_count, nb_write_end, nb_write_hear, nb_write_pull, nb_write_push, nb_write_read, nb_write_send, nb_write_state, kg_0, kg_1, kg_2, kg_3, kg_4, kg_5, kg_6, kg_7, kg_8, kg_9, kg_10, kg_11, kg_12, kg_13, kg_14, kg_15, kg_16, kg_17, kg_18, kg_19, kg_20, kg_21, kg_22, kg_23, kg_24, kg_25, kg_26, kg_27, kg_28, kg_29, kg_30, kg_31, kg_32, kg_33, kg_34, runB, startW, Out.res, xSeq, xIfS, xRet, xRetN, xDrop, xAsg, gN, xNext, xVar, xC, xNil, xCons, xBin, xUn, xCb, xBm, xAnd, xOr, xNot, xIf, xChain, xTup, xLst, xCall0, xNo, Res.bind, Res.of, iop, iopC, subM, divM, modM, mulM, powM, bandM, borM, ltM, gtM, geM, leM, negM, invM, addM, items, ixM, seqs, eqO, neO, eqM, flatW, eqFl, isiM, tyN, absM, sizeLine_eq, xFor, xLoop, xIl, xIt, xSl, xPn, xPs, slM, lenM, truM, intW, sumM, intM, maxM, minM, ordM, listM, isNonW, isNM, notNM, isBM, isnotBM, strW, joinM, xBmS, xIs, allBM, bolW, inM, keyW, dicts, ρC, splitM, gT2, xCallX, xMethX, xRaise, xTry, endX, fgt, xBmL, countM, slTM, isiX, tyX, kitA, clTy, catTM, tupleM, xLstN, countSM, indexSM, xLm, appM, xIr1, xRaiseI, xXf]) (Nat.le_refl _)⟩
    have s0 : ¬ Str.ofString "state" = d := fun e => d0 e.symm
    have s1 : ¬ Str.ofString "end" = d := fun e => d1 e.symm
    exact .inr ⟨gk3_n d0 d1, selfF_ok rfl (by simp [atI_0, atI_1, atI_2, atI_3, d0, d1, s0, s1, hd, ne_kind_add, ne_kind_count, ne_kind_end, ne_kind_hear, ne_kind_pull, ne_kind_push, ne_kind_read, ne_kind_send, ne_kind_state, ne_kind_write, ne_add_kind, ne_add_count, ne_add_end, ne_add_hear, ne_add_pull, ne_add_push, ne_add_read, ne_add_send, ne_add_state, ne_add_write, ne_count_kind, ne_count_add, ne_count_end, ne_count_hear, ne_count_pull, ne_count_push, ne_count_read, ne_count_send, ne_count_state, ne_count_write, ne_end_kind, ne_end_add, ne_end_count, ne_end_hear, ne_end_pull, ne_end_push, ne_end_read, ne_end_send, ne_end_state, ne_end_write, ne_hear_kind, ne_hear_add, ne_hear_count, ne_hear_end, ne_hear_pull, ne_hear_push, ne_hear_read, ne_hear_send, ne_hear_state, ne_hear_write, ne_pull_kind, ne_pull_add, ne_pull_count, ne_pull_end, ne_pull_hear, ne_pull_push, ne_pull_read, ne_pull_send, ne_pull_state, ne_pull_write, ne_push_kind, ne_push_add, ne_push_count, ne_push_end, ne_push_hear, ne_push_pull, ne_push_read, ne_push_send, ne_push_state, ne_push_write, ne_read_kind, ne_read_add, ne_read_count, ne_read_end, ne_read_hear, ne_read_pull, ne_read_push, ne_read_send, ne_read_state, ne_read_write, ne_send_kind, ne_send_add, ne_send_count, ne_send_end, ne_send_hear, ne_send_pull, ne_send_push, ne_send_read, ne_send_state, ne_send_write, ne_state_kind, ne_state_add, ne_state_count, ne_state_end, ne_state_hear, ne_state_pull, ne_state_push, ne_state_read, ne_state_send, ne_state_write, ne_write_kind, ne_write_add, ne_write_count, ne_write_end, ne_write_hear, ne_write_pull, ne_write_push, ne_write_read, ne_write_send, ne_write_state, nb_kind_add, nb_kind_count, nb_kind_end, nb_kind_hear, nb_kind_pull, nb_kind_push, nb_kind_read, nb_kind_send, nb_kind_state, nb_kind_write, nb_add_kind, nb_add_count, nb_add_end, nb_add_hear, nb_add_pull, nb_add_push, nb_add_read, nb_add_send, nb_add_state, nb_add_write, nb_count_kind, nb_count_add, nb_count_end, nb_count_hear, nb_count_pull, nb_count_push, nb_count_read, nb_count_send, nb_count_state, nb_count_write, nb_end_kind, nb_end_add, nb_end_count, nb_end_hear, nb_end_pull, nb_end_push, nb_end_read, nb_end_send, nb_end_state, nb_end_write, nb_hear_kind, nb_hear_add, nb_hear_count, nb_hear_end, nb_hear_pull, nb_hear_push, nb_hear_read, nb_hear_send, nb_hear_state, nb_hear_write, nb_pull_kind, nb_pull_add, nb_pull_count, nb_pull_end, nb_pull_hear, nb_pull_push, nb_pull_read, nb_pull_send, nb_pull_state, nb_pull_write, nb_push_kind, nb_push_add, nb_push_count, nb_push_end, nb_push_hear, nb_push_pull, nb_push_read, nb_push_send, nb_push_state, nb_push_write, nb_read_kind, nb_read_add, nb_read_count, nb_read_end, nb_read_hear, nb_read_pull, nb_read_push, nb_read_send, nb_read_state, nb_read_write, nb_send_kind, nb_send_add, nb_send_count, nb_send_end, nb_send_hear, nb_send_pull, nb_send_push, nb_send_read, nb_send_state, nb_send_write, nb_state_kind, nb_state_add, nb_state_count, nb_state_end, nb_state_hear, nb_state_pull, nb_state_push, nb_state_read, nb_state_send, nb_state_write, nb_write_kind, nb_write_add, nb_write_count, nb_write_end, nb_write_hear, nb_write_pull, nb_write_push, nb_write_read, nb_write_send, nb_write_state, kg_0, kg_1, kg_2, kg_3, kg_4, kg_5, kg_6, kg_7, kg_8, kg_9, kg_10, kg_11, kg_12, kg_13, kg_14, kg_15, kg_16, kg_17, kg_18, kg_19, kg_20, kg_21, kg_22, kg_23, kg_24, kg_25, kg_26, kg_27, kg_28, kg_29, kg_30, kg_31, kg_32, kg_33, kg_34, runB, startW, Out.res, xSeq, xIfS, xRet, xRetN, xDrop, xAsg, gN, xNext, xVar, xC, xNil, xCons, xBin, xUn, xCb, xBm, xAnd, xOr, xNot, xIf, xChain, xTup, xLst, xCall0, xNo, Res.bind, Res.of, iop, iopC, subM, divM, modM, mulM, powM, bandM, borM, ltM, gtM, geM, leM, negM, invM, addM, items, ixM, seqs, eqO, neO, eqM, flatW, eqFl, isiM, tyN, absM, sizeLine_eq, xFor, xLoop, xIl, xIt, xSl, xPn, xPs, slM, lenM, truM, intW, sumM, intM, maxM, minM, ordM, listM, isNonW, isNM, notNM, isBM, isnotBM, strW, joinM, xBmS, xIs, allBM, bolW, inM, keyW, dicts, ρC, splitM, gT2, xCallX, xMethX, xRaise, xTry, endX, fgt, xBmL, countM, slTM, isiX, tyX, kitA, clTy, catTM, tupleM, xLstN, countSM, indexSM, xLm, appM, xIr1, xRaiseI, xXf]) (Nat.le_refl _)⟩
def SOME : List Str := ["kind", "read", "write", "add", "push", "pull", "count", "send", "hear", "state", "end", "look", "put"]
def S_by (F : Fm) : Prop := ∀ h c, ∃ w, good w ∧ F [.int c] h = .ok w h
theorem ok_by (T : Tx K mg C) (R : DefAt K mg "_law_deed_by" s_l_deed_by) : ∃ F, FnAt P w K mg base CX0 1 "_law_deed_by" (spH (T0 C) F) ∧ S_by F := by
  refine ⟨_, (def0s R sc_l_deed_by bd_l_deed_by (hB := fun f cdv A outer s H E φ0 H0 hr => (qb_cons (qs_if (qt_cmp (op_eqF hr) eqO_ok (q_bin op_mod modM_ok (q_var 0) q_int) q_int (nomark _)) (qb_one (qs_ret (q_ix ix_any ixM_ok (q_lst (qa_cons q_non (qa_cons q_bl (qa_cons q_bl (qa_cons q_int (qa_cons q_int (qa_cons (q_lst (qa_cons q_str qa_nil)) (qa_cons (q_tup (qa_cons q_str qa_nil)) (qa_cons q_dnil (qa_cons q_str qa_nil)))))))))) (q_bin op_mod modM_ok (q_bin op_fdiv divM_ok (q_var 0) q_int) q_int) (fun _ _ => rfl)))) qb_nil)
      (qb_cons (qs_set (i := 1) sc_l_deed_by.nd rfl (Or.inl rfl) (fun _ _ _ => trivial) (q_lst (qa_cons q_str (qa_cons q_str (qa_cons q_str (qa_cons q_str (qa_cons q_str (qa_cons q_str (qa_cons q_str (qa_cons q_str (qa_cons q_str (qa_cons q_str (qa_cons q_str (qa_cons q_str (qa_cons q_str qa_nil)))))))))))))))
      (qb_cons (qs_set (i := 2) sc_l_deed_by.nd rfl (Or.inl rfl) (fun _ _ _ => trivial) (q_ix ix_any ixM_ok (q_var 1) (q_bin op_mod modM_ok (q_bin op_fdiv divM_ok (q_var 0) q_int) q_int) (fun _ _ => rfl)))
      (qb_cons (qs_set (i := 3) sc_l_deed_by.nd rfl (Or.inl rfl) (fun _ _ _ => trivial) (q_bin op_mod modM_ok (q_bin op_fdiv divM_ok (q_var 0) q_int) (q_cb lenM_ok call_lenV rfl T.b_len (by first | exact boot_b_len | rfl) (qa_cons (q_var 2) qa_nil))))
      (qb_cons (qs_if (qt_cmp (op_eqF hr) eqO_ok (q_bin op_mod modM_ok (q_var 0) q_int) q_int (nomark _)) (qb_one (qs_ret (q_bin op_addV addM_ok (q_sl sl_any slM_ok (q_var 2) qo_none (qo_some (q_var 3))) (q_sl sl_any slM_ok (q_var 2) (qo_some (q_bin op_addV addM_ok (q_var 3) q_int)) qo_none)))) qb_nil)
      (qb_cons (qs_if (qt_cmp (op_eqF hr) eqO_ok (q_bin op_mod modM_ok (q_var 0) q_int) q_int (nomark _)) (qb_cons (qs_set (i := 3) sc_l_deed_by.nd rfl (Or.inl rfl) (fun _ _ _ => trivial) (q_bin op_mod modM_ok (q_bin op_fdiv divM_ok (q_var 0) q_int) (q_bin op_addV addM_ok (q_cb lenM_ok call_lenV rfl T.b_len (by first | exact boot_b_len | rfl) (qa_cons (q_var 2) qa_nil)) q_int)))
      (qb_one (qs_ret (q_bin op_addV addM_ok (q_bin op_addV addM_ok (q_sl sl_any slM_ok (q_var 2) qo_none (qo_some (q_var 3))) (q_ix ix_any ixM_ok (q_lst (qa_cons q_str (qa_cons q_str (qa_cons q_str (qa_cons q_str qa_nil))))) (q_bin op_mod modM_ok (q_bin op_fdiv divM_ok (q_var 0) q_int) q_int) (fun _ _ => rfl))) (q_sl sl_any slM_ok (q_var 2) (qo_some (q_var 3)) qo_none))))) qb_nil)
      (qb_cons (qs_if (qt_cmp (op_eqF hr) eqO_ok (q_bin op_mod modM_ok (q_var 0) q_int) q_int (nomark _)) (qb_one (qs_ret (q_bin op_addV addM_ok (q_bin op_addV addM_ok (q_sl sl_any slM_ok (q_var 2) qo_none (qo_some (q_var 3))) (q_ix ix_any ixM_ok (q_lst (qa_cons q_str (qa_cons q_str (qa_cons q_str (qa_cons q_str qa_nil))))) (q_bin op_mod modM_ok (q_bin op_fdiv divM_ok (q_var 0) q_int) q_int) (fun _ _ => rfl))) (q_sl sl_any slM_ok (q_var 2) (qo_some (q_bin op_addV addM_ok (q_var 3) q_int)) qo_none)))) qb_nil)
      (qb_one (qs_ret (q_var 2)))))))))))), fun h c => ?_⟩
  refine (fun (q : ∃ z, good z ∧ runB _ _ [.int c] h = .ok z h) => let ⟨u, g, e⟩ := q; ⟨u, g, selfF_ok rfl e (Nat.le_refl _)⟩) ?_
  by_cases c0 : c % 9 = 0
  · obtain ⟨y, hy, ey⟩ := pickW (l := [.non, .bl true, .bl false, .int 0, .int 1, .tl [.str "read"], .tup [.str "kind"], .td [] [], .str ""]) (i := c / 9 % 9) (by omega) (by show _ < (9 : Int); omega)
    refine ⟨y, ?_, by simp [c0, ey, runB, startW, Out.res, xSeq, xIfS, xRet, xRetN, xDrop, xAsg, gN, xNext, xVar, xC, xNil, xCons, xBin, xUn, xCb, xBm, xAnd, xOr, xNot, xIf, xChain, xTup, xLst, xCall0, xNo, Res.bind, Res.of, iop, iopC, subM, divM, modM, mulM, powM, bandM, borM, ltM, gtM, geM, leM, negM, invM, addM, items, ixM, seqs, eqO, neO, eqM, flatW, eqFl, isiM, tyN, Kit.get, absM, sizeLine_eq, xFor, xLoop, xIl, xIt, xSl, xPn, xPs, slM, lenM, truM, intW, sumM, intM, maxM, minM, ordM, listM, isNonW, isNM, notNM, isBM, isnotBM, strW, joinM, xBmS, xIs, allBM, bolW, inM, keyW, dicts, ρC, splitM, gT2, xCallX, xMethX, xRaise, xTry, endX, fgt, xBmL, countM, slTM, isiX, tyX, kitA, clTy, catTM, tupleM, xLstN, countSM, indexSM, xLm, appM, xIr1, xRaiseI, xXf]⟩
    simp only [List.mem_cons, List.not_mem_nil, or_false] at hy
    rcases hy with rfl | rfl | rfl | rfl | rfl | rfl | rfl | rfl | rfl
    · exact .inl (.inl rfl)
    · exact .inl (.inr (.inl rfl))
    · exact .inl (.inr (.inr (.inl rfl)))
    · exact .inl (.inr (.inr (.inr (.inl rfl))))
    · exact .inl (.inr (.inr (.inr (.inr (.inl rfl)))))
    · exact .inl (.inr (.inr (.inr (.inr (.inr (.inl rfl))))))
    · exact .inl (.inr (.inr (.inr (.inr (.inr (.inr (.inl rfl)))))))
    · exact .inl (.inr (.inr (.inr (.inr (.inr (.inr (.inr rfl)))))))
    · exact .inr ⟨_, rfl⟩
  obtain ⟨L, hL, eL⟩ := pick (l := SOME) (i := c / 9 % 13) (by omega) (by show _ < (13 : Int); omega)
  simp only [SOME, List.map_cons, List.map_nil] at eL
  have bL := (by decide +kernel : ∀ y ∈ SOME, 0 < y.length ∧ y.length ≤ 5) L hL
  have hp : 0 < L.length := bL.1
  have hL1 : L.length ≤ 16777216 := by omega
  have l0 : (0 : Int) < (L.length : Int) := by omega
  have l1 : (0 : Int) < (L.length : Int) + 1 := by omega
  obtain ⟨a, ha⟩ : ∃ a : Int, c / 117 % (L.length : Int) = a := ⟨_, rfl⟩
  obtain ⟨b, hb⟩ : ∃ b : Int, c / 117 % ((L.length : Int) + 1) = b := ⟨_, rfl⟩
  have ha0 : 0 ≤ a ∧ a < 5 := ha ▸ ⟨Int.emod_nonneg _ (by omega), Int.lt_of_lt_of_le (Int.emod_lt_of_pos _ l0) (by omega)⟩
  have hb0 : 0 ≤ b ∧ b < 6 := hb ▸ ⟨Int.emod_nonneg _ (by omega), Int.lt_of_lt_of_le (Int.emod_lt_of_pos _ l1) (by omega)⟩
  have t1 := Txt.slice_le L none (some a)
  have t2 := Txt.slice_le L (some (a + 1)) none
  have t3 := Txt.slice_le L none (some b)
  have t4 := Txt.slice_le L (some b) none
  by_cases c1 : c % 9 = 1
  · have k1 : (Txt.slice L none (some a)).length + (Txt.slice L (some (a + 1)) none).length ≤ 16777216 := by omega
    exact ⟨.str (Txt.slice L none (some a) ++ Txt.slice L (some (a + 1)) none), .inr ⟨_, rfl⟩, by simp [c0, c1, eL, hL1, l0, hp, ha, k1, runB, startW, Out.res, xSeq, xIfS, xRet, xRetN, xDrop, xAsg, gN, xNext, xVar, xC, xNil, xCons, xBin, xUn, xCb, xBm, xAnd, xOr, xNot, xIf, xChain, xTup, xLst, xCall0, xNo, Res.bind, Res.of, iop, iopC, subM, divM, modM, mulM, powM, bandM, borM, ltM, gtM, geM, leM, negM, invM, addM, items, ixM, seqs, eqO, neO, eqM, flatW, eqFl, isiM, tyN, Kit.get, absM, sizeLine_eq, xFor, xLoop, xIl, xIt, xSl, xPn, xPs, slM, lenM, truM, intW, sumM, intM, maxM, minM, ordM, listM, isNonW, isNM, notNM, isBM, isnotBM, strW, joinM, xBmS, xIs, allBM, bolW, inM, keyW, dicts, ρC, splitM, gT2, xCallX, xMethX, xRaise, xTry, endX, fgt, xBmL, countM, slTM, isiX, tyX, kitA, clTy, catTM, tupleM, xLstN, countSM, indexSM, xLm, appM, xIr1, xRaiseI, xXf]⟩
  by_cases c2 : c % 9 = 2
  · obtain ⟨y, hy, ey⟩ := pick (l := ["x", " ", "A", "s"]) (i := c / 1000 % 4) (by omega) (by show _ < (4 : Int); omega)
    have ly : y.length ≤ 1 := (by decide +kernel : ∀ y ∈ (["x", " ", "A", "s"] : List Str), y.length ≤ 1) y hy
    simp only [List.map_cons, List.map_nil] at ey
    have k1 : (Txt.slice L none (some b)).length + y.length ≤ 16777216 := by omega
    have k2 : (Txt.slice L none (some b) ++ y).length + (Txt.slice L (some b) none).length ≤ 16777216 := by rw [len_add]; omega
    exact ⟨.str (Txt.slice L none (some b) ++ y ++ Txt.slice L (some b) none), .inr ⟨_, rfl⟩, by simp [c0, c1, c2, eL, hL1, l0, hp, l1, ha, hb, ey, k1, k2, runB, startW, Out.res, xSeq, xIfS, xRet, xRetN, xDrop, xAsg, gN, xNext, xVar, xC, xNil, xCons, xBin, xUn, xCb, xBm, xAnd, xOr, xNot, xIf, xChain, xTup, xLst, xCall0, xNo, Res.bind, Res.of, iop, iopC, subM, divM, modM, mulM, powM, bandM, borM, ltM, gtM, geM, leM, negM, invM, addM, items, ixM, seqs, eqO, neO, eqM, flatW, eqFl, isiM, tyN, Kit.get, absM, sizeLine_eq, xFor, xLoop, xIl, xIt, xSl, xPn, xPs, slM, lenM, truM, intW, sumM, intM, maxM, minM, ordM, listM, isNonW, isNM, notNM, isBM, isnotBM, strW, joinM, xBmS, xIs, allBM, bolW, inM, keyW, dicts, ρC, splitM, gT2, xCallX, xMethX, xRaise, xTry, endX, fgt, xBmL, countM, slTM, isiX, tyX, kitA, clTy, catTM, tupleM, xLstN, countSM, indexSM, xLm, appM, xIr1, xRaiseI, xXf]⟩
  by_cases c3 : c % 9 = 3
  · obtain ⟨y, hy, ey⟩ := pick (l := ["x", "E", "o", " "]) (i := c / 1000 % 4) (by omega) (by show _ < (4 : Int); omega)
    have ly : y.length ≤ 1 := (by decide +kernel : ∀ y ∈ (["x", "E", "o", " "] : List Str), y.length ≤ 1) y hy
    simp only [List.map_cons, List.map_nil] at ey
    have k1 : (Txt.slice L none (some a)).length + y.length ≤ 16777216 := by omega
    have k2 : (Txt.slice L none (some a) ++ y).length + (Txt.slice L (some (a + 1)) none).length ≤ 16777216 := by rw [len_add]; omega
    exact ⟨.str (Txt.slice L none (some a) ++ y ++ Txt.slice L (some (a + 1)) none), .inr ⟨_, rfl⟩, by simp [c0, c1, c2, c3, eL, hL1, l0, hp, ha, ey, k1, k2, runB, startW, Out.res, xSeq, xIfS, xRet, xRetN, xDrop, xAsg, gN, xNext, xVar, xC, xNil, xCons, xBin, xUn, xCb, xBm, xAnd, xOr, xNot, xIf, xChain, xTup, xLst, xCall0, xNo, Res.bind, Res.of, iop, iopC, subM, divM, modM, mulM, powM, bandM, borM, ltM, gtM, geM, leM, negM, invM, addM, items, ixM, seqs, eqO, neO, eqM, flatW, eqFl, isiM, tyN, Kit.get, absM, sizeLine_eq, xFor, xLoop, xIl, xIt, xSl, xPn, xPs, slM, lenM, truM, intW, sumM, intM, maxM, minM, ordM, listM, isNonW, isNM, notNM, isBM, isnotBM, strW, joinM, xBmS, xIs, allBM, bolW, inM, keyW, dicts, ρC, splitM, gT2, xCallX, xMethX, xRaise, xTry, endX, fgt, xBmL, countM, slTM, isiX, tyX, kitA, clTy, catTM, tupleM, xLstN, countSM, indexSM, xLm, appM, xIr1, xRaiseI, xXf]⟩
  · exact ⟨.str L, .inr ⟨_, rfl⟩, by simp [c0, c1, c2, c3, eL, hL1, l0, hp, ha, runB, startW, Out.res, xSeq, xIfS, xRet, xRetN, xDrop, xAsg, gN, xNext, xVar, xC, xNil, xCons, xBin, xUn, xCb, xBm, xAnd, xOr, xNot, xIf, xChain, xTup, xLst, xCall0, xNo, Res.bind, Res.of, iop, iopC, subM, divM, modM, mulM, powM, bandM, borM, ltM, gtM, geM, leM, negM, invM, addM, items, ixM, seqs, eqO, neO, eqM, flatW, eqFl, isiM, tyN, Kit.get, absM, sizeLine_eq, xFor, xLoop, xIl, xIt, xSl, xPn, xPs, slM, lenM, truM, intW, sumM, intM, maxM, minM, ordM, listM, isNonW, isNM, notNM, isBM, isnotBM, strW, joinM, xBmS, xIs, allBM, bolW, inM, keyW, dicts, ρC, splitM, gT2, xCallX, xMethX, xRaise, xTry, endX, fgt, xBmL, countM, slTM, isiX, tyX, kitA, clTy, catTM, tupleM, xLstN, countSM, indexSM, xLm, appM, xIr1, xRaiseI, xXf]⟩
def Lm (g : Mem) : Mem := [cellO 0, lineO 1, doorO 2, postO 3 "a"] ++ g
def S_right (F : Fm) : Prop := ∀ k, k < 4 → ∀ g w, good w → ∃ g', F [.ref k, .int (k : Nat), w] (Lm g) = .ok (.bl true) (Lm g')
theorem ok_right (T : Tx K mg C) {Fn Ft : Fm} (hn : S_need Fn) (ht : S_told Ft) (G_l_need : FnAt P w K mg base CX0 1 "_law_need" (spH (T0 C) Fn)) (G_l_told : FnAt P w K mg base CX0 4 "_law_told" (spH (T0 C) Ft)) (R : DefAt K mg "_law_right" s_l_right) : ∃ F, FnAt P w K mg base CX0 5 "_law_right" (spH (T0 C) F) ∧ S_right F := by
  refine ⟨_, (def0s R sc_l_right bd_l_right (hB := fun f cdv A outer s H E φ0 H0 hr => (qb_cons (qs_if (qt_not (qt_val (q_cb (isiX_ok T.ins T.exo T.kit) (call_isiX K rfl) rfl T.b_isinstance (by first | exact boot_b_isinstance | rfl) (qa_cons (q_var 0) (qa_cons (q_cls rfl T.g_Thing T.t_Thing) qa_nil))))) (qb_one (qs_ret q_bl)) qb_nil)
      (qb_cons (qs_set (i := 3) sc_l_right.nd rfl (Or.inl rfl) (fun _ _ _ => trivial) (q_fn0 G_l_need hr (by decide) rfl (qa_cons (q_var 1) (qa_cons (q_var 2) qa_nil))))
      (qb_cons (qs_set (i := 4) sc_l_right.nd rfl (Or.inl rfl) (fun _ _ _ => trivial) (q_fn0 G_l_told hr (by decide) rfl (qa_cons (q_var 0) (qa_cons (q_var 2) qa_nil))))
      (qb_cons (qs_if (qt_cmp op_isN isNM_ok (q_var 3) q_non (nomark _)) (qb_one (qs_ret (q_and (q_cmp (op_eqF hr) eqO_ok (q_ix ix_any ixM_ok (q_var 4) q_int (fun _ _ => rfl)) q_str (nomark _)) (q_and (q_cmp (op_eqF hr) eqO_ok (q_cb (isiX_ok T.ins T.exo T.kit) (call_isiX K rfl) rfl T.b_isinstance (by first | exact boot_b_isinstance | rfl) (qa_cons (q_ix ix_any ixM_ok (q_var 4) q_int (fun _ _ => rfl)) (qa_cons (q_ty "bool" rfl T.b_bool (by first | exact boot_ty_bool | rfl)) qa_nil))) (q_cb (isiX_ok T.ins T.exo T.kit) (call_isiX K rfl) rfl T.b_isinstance (by first | exact boot_b_isinstance | rfl) (qa_cons (q_var 2) (qa_cons (q_ty "bool" rfl T.b_bool (by first | exact boot_ty_bool | rfl)) qa_nil))) (nomark _)) (q_one (q_cmp (op_eqD hr) eqD_ok (q_ix ix_any ixM_ok (q_var 4) q_int (fun _ _ => rfl)) (q_var 2) (nomark _))))))) qb_nil)
      (qb_one (qs_ret (q_and (q_cmp (op_eqF hr) eqO_ok (q_ix ix_any ixM_ok (q_var 4) q_int (fun _ _ => rfl)) q_str (nomark _)) (q_and (q_not (q_cb (isiX_ok T.ins T.exo T.kit) (call_isiX K rfl) rfl T.b_isinstance (by first | exact boot_b_isinstance | rfl) (qa_cons (q_ix ix_any ixM_ok (q_var 4) q_int (fun _ _ => rfl)) (qa_cons (q_ty "bool" rfl T.b_bool (by first | exact boot_ty_bool | rfl)) qa_nil)))) (q_one (q_cmp (op_eqF hr) eqO_ok (q_ix ix_any ixM_ok (q_var 4) q_int (fun _ _ => rfl)) (q_var 3) (nomark _))))))))))))), fun k hk g w gw => ?_⟩
  have e : (Lm g)[k]? = some (ob k) := by
    match k, hk with
    | 0, _ => rfl
    | 1, _ => rfl
    | 2, _ => rfl
    | 3, _ => rfl
  obtain ⟨n1, n2, n3⟩ := hn (Lm g) k hk
  obtain ⟨t1, t2, t3, t4⟩ := ht (Lm g) k k hk e
  obtain ⟨c, fs, e', kc⟩ : ∃ c fs, (Lm g)[k]? = some (.ins c fs) ∧ Kit.get kitL (.inr c) (.inr (Str.ofString "Thing")) = some true := by
    match k, hk with
    | 0, _ => exact ⟨_, _, e, kg_14⟩
    | 1, _ => exact ⟨_, _, e, kg_15⟩
    | 2, _ => exact ⟨_, _, e, kg_16⟩
    | 3, _ => exact ⟨_, _, e, kg_17⟩
  have hg : ∀ x, (Lm g ++ [x]) = Lm (g ++ [x]) := fun x => List.append_assoc _ _ _
  have neS : (Str.ofString "none" = Str.ofString "") = False := by simp; decide +kernel
  clear hk
  generalize (k : Int) = ki at *
  have q5 : eqD (Lm g) w w = some (.bl true) := eqD_nt gw
  rcases gw with hw | ⟨d, rfl⟩
  · have a1 := n1 w hw
    have a2 := t1 w hw
    refine ⟨g, selfF_ok rfl ?_ (Nat.le_refl _)⟩
    rcases hw with rfl | rfl | rfl | rfl | rfl | rfl | rfl | rfl <;> simp [e', kc, a1, a2, atI_0, atI_1, q5, kg_0, kg_1, kg_2, kg_3, kg_4, kg_5, kg_6, kg_7, kg_8, kg_9, kg_10, kg_11, kg_12, kg_13, kg_14, kg_15, kg_16, kg_17, kg_18, kg_19, kg_20, kg_21, kg_22, kg_23, kg_24, kg_25, kg_26, kg_27, kg_28, kg_29, kg_30, kg_31, kg_32, kg_33, kg_34, runB, startW, Out.res, xSeq, xIfS, xRet, xRetN, xDrop, xAsg, gN, xNext, xVar, xC, xNil, xCons, xBin, xUn, xCb, xBm, xAnd, xOr, xNot, xIf, xChain, xTup, xLst, xCall0, xNo, Res.bind, Res.of, iop, iopC, subM, divM, modM, mulM, powM, bandM, borM, ltM, gtM, geM, leM, negM, invM, addM, items, ixM, seqs, eqO, neO, eqM, flatW, eqFl, isiM, tyN, absM, sizeLine_eq, xFor, xLoop, xIl, xIt, xSl, xPn, xPs, slM, lenM, truM, intW, sumM, intM, maxM, minM, ordM, listM, isNonW, isNM, notNM, isBM, isnotBM, strW, joinM, xBmS, xIs, allBM, bolW, inM, keyW, dicts, ρC, splitM, gT2, xCallX, xMethX, xRaise, xTry, endX, fgt, xBmL, countM, slTM, isiX, tyX, kitA, clTy, catTM, tupleM, xLstN, countSM, indexSM, xLm, appM, xIr1, xRaiseI, xXf]
  · by_cases hd : d = Str.ofString "kind"
    · subst hd
      exact ⟨g, selfF_ok rfl (by simp [e', kc, n2, t2, atI_0, atI_1, kg_0, kg_1, kg_2, kg_3, kg_4, kg_5, kg_6, kg_7, kg_8, kg_9, kg_10, kg_11, kg_12, kg_13, kg_14, kg_15, kg_16, kg_17, kg_18, kg_19, kg_20, kg_21, kg_22, kg_23, kg_24, kg_25, kg_26, kg_27, kg_28, kg_29, kg_30, kg_31, kg_32, kg_33, kg_34, runB, startW, Out.res, xSeq, xIfS, xRet, xRetN, xDrop, xAsg, gN, xNext, xVar, xC, xNil, xCons, xBin, xUn, xCb, xBm, xAnd, xOr, xNot, xIf, xChain, xTup, xLst, xCall0, xNo, Res.bind, Res.of, iop, iopC, subM, divM, modM, mulM, powM, bandM, borM, ltM, gtM, geM, leM, negM, invM, addM, items, ixM, seqs, eqO, neO, eqM, flatW, eqFl, isiM, tyN, absM, sizeLine_eq, xFor, xLoop, xIl, xIt, xSl, xPn, xPs, slM, lenM, truM, intW, sumM, intM, maxM, minM, ordM, listM, isNonW, isNM, notNM, isBM, isnotBM, strW, joinM, xBmS, xIs, allBM, bolW, inM, keyW, dicts, ρC, splitM, gT2, xCallX, xMethX, xRaise, xTry, endX, fgt, xBmL, countM, slTM, isiX, tyX, kitA, clTy, catTM, tupleM, xLstN, countSM, indexSM, xLm, appM, xIr1, xRaiseI, xXf]) (Nat.le_refl _)⟩
    · rcases n3 d hd with ⟨i, g1, a1⟩ | ⟨g1, a1⟩
      · have a2 := t3 d _ hd g1
        rw [hg] at a2
        exact ⟨g ++ [.dic (dicK k)], selfF_ok rfl (by simp [e', kc, a1, a2, atI_0, atI_1, kg_0, kg_1, kg_2, kg_3, kg_4, kg_5, kg_6, kg_7, kg_8, kg_9, kg_10, kg_11, kg_12, kg_13, kg_14, kg_15, kg_16, kg_17, kg_18, kg_19, kg_20, kg_21, kg_22, kg_23, kg_24, kg_25, kg_26, kg_27, kg_28, kg_29, kg_30, kg_31, kg_32, kg_33, kg_34, runB, startW, Out.res, xSeq, xIfS, xRet, xRetN, xDrop, xAsg, gN, xNext, xVar, xC, xNil, xCons, xBin, xUn, xCb, xBm, xAnd, xOr, xNot, xIf, xChain, xTup, xLst, xCall0, xNo, Res.bind, Res.of, iop, iopC, subM, divM, modM, mulM, powM, bandM, borM, ltM, gtM, geM, leM, negM, invM, addM, items, ixM, seqs, eqO, neO, eqM, flatW, eqFl, isiM, tyN, absM, sizeLine_eq, xFor, xLoop, xIl, xIt, xSl, xPn, xPs, slM, lenM, truM, intW, sumM, intM, maxM, minM, ordM, listM, isNonW, isNM, notNM, isBM, isnotBM, strW, joinM, xBmS, xIs, allBM, bolW, inM, keyW, dicts, ρC, splitM, gT2, xCallX, xMethX, xRaise, xTry, endX, fgt, xBmL, countM, slTM, isiX, tyX, kitA, clTy, catTM, tupleM, xLstN, countSM, indexSM, xLm, appM, xIr1, xRaiseI, xXf]) (by simp [Lm])⟩
      · have a2 := t4 d hd g1
        rw [hg] at a2
        have q6 : ∀ h, eqD h (.str d) (.str d) = some (.bl true) := fun h => eqD_nt (.inr ⟨d, rfl⟩)
        exact ⟨g ++ [.dic (dicK k)], selfF_ok rfl (by simp [e', kc, a1, a2, atI_0, atI_1, q6, kg_0, kg_1, kg_2, kg_3, kg_4, kg_5, kg_6, kg_7, kg_8, kg_9, kg_10, kg_11, kg_12, kg_13, kg_14, kg_15, kg_16, kg_17, kg_18, kg_19, kg_20, kg_21, kg_22, kg_23, kg_24, kg_25, kg_26, kg_27, kg_28, kg_29, kg_30, kg_31, kg_32, kg_33, kg_34, runB, startW, Out.res, xSeq, xIfS, xRet, xRetN, xDrop, xAsg, gN, xNext, xVar, xC, xNil, xCons, xBin, xUn, xCb, xBm, xAnd, xOr, xNot, xIf, xChain, xTup, xLst, xCall0, xNo, Res.bind, Res.of, iop, iopC, subM, divM, modM, mulM, powM, bandM, borM, ltM, gtM, geM, leM, negM, invM, addM, items, ixM, seqs, eqO, neO, eqM, flatW, eqFl, isiM, tyN, absM, sizeLine_eq, xFor, xLoop, xIl, xIt, xSl, xPn, xPs, slM, lenM, truM, intW, sumM, intM, maxM, minM, ordM, listM, isNonW, isNM, notNM, isBM, isnotBM, strW, joinM, xBmS, xIs, allBM, bolW, inM, keyW, dicts, ρC, splitM, gT2, xCallX, xMethX, xRaise, xTry, endX, fgt, xBmL, countM, slTM, isiX, tyX, kitA, clTy, catTM, tupleM, xLstN, countSM, indexSM, xLm, appM, xIr1, xRaiseI, xXf]) (by simp [Lm])⟩

theorem ok_law {f : Addr} {fd : FuncData} (T : Tx K mg C) (R : Fun K "law" "law" s_law f fd) {F0 F1 F2 F3 Fb Fr : Fm} (h0 : S_i0 F0) (h1 : S_i1 F1) (h2 : S_i2 F2) (h3 : S_i3 F3) (hb : S_by Fb) (hr0 : S_right Fr) (K_Cell : MkAt P w K mg base (T0 C) 2 "Cell" F0) (K_Line : MkAt P w K mg base (T0 C) 2 "Line" F1) (K_Door : MkAt P w K mg base (T0 C) 2 "Door" F2) (K_Post : MkAt P w K mg base (T0 C) 2 "Post" F3)
    (G_l_deed_by : FnAt P w K mg base CX0 1 "_law_deed_by" (spH (T0 C) Fb)) (G_l_right : FnAt P w K mg base CX0 5 "_law_right" (spH (T0 C) Fr)) : FnOk P w K mg base CX0 6 f fd ["_law_script"] (spH (T0 C) lawF) := by
  refine fun0q R sc_law (hB := fun cdv A outer s H E φ0 H0 hr => (qb_cons (qs_set (i := 1) sc_law.nd rfl (Or.inl rfl) (fun _ _ _ => trivial) (q_lst (qa_cons (q_make K_Cell hr (by decide) rfl (qa_cons q_int qa_nil)) (qa_cons (q_make K_Line hr (by decide) rfl (qa_cons q_int qa_nil)) (qa_cons (q_make K_Door hr (by decide) rfl (qa_cons q_int qa_nil)) (qa_cons (q_make K_Post hr (by decide) rfl (qa_cons q_int (qa_cons q_str qa_nil))) qa_nil))))))
      (qb_cons (qs_for (tg_name (fun _ _ _ => trivial)) PassesOwn.never rfl (qi_list (q_var 0)) (qg_name (i := 2) sc_law.nd rfl (Or.inl rfl))
        (qb_cons (qs_set (i := 3) sc_law.nd rfl (Or.inl rfl) (fun _ _ _ => trivial) (q_bin op_mod modM_ok (q_bin op_fdiv divM_ok (q_var 2) q_int) q_int))
        (qb_cons (qs_if (qt_not (qt_val (q_fn0 G_l_right hr (by decide) rfl (qa_cons (q_ix ix_any ixM_ok (q_var 1) (q_var 3) (fun _ _ => rfl)) (qa_cons (q_var 3) (qa_cons (q_fn0 G_l_deed_by hr (by decide) rfl (qa_cons (q_var 2) qa_nil)) qa_nil)))))) (qb_one (qs_ret q_bl)) qb_nil)
        (qb_cons (qs_if (qt_not (qt_val (q_fn0 G_l_right hr (by decide) rfl (qa_cons (q_ix ix_any ixM_ok (q_var 1) (q_var 3) (fun _ _ => rfl)) (qa_cons (q_var 3) (qa_cons (q_ix ix_any ixM_ok (q_lst (qa_cons q_str (qa_cons q_str (qa_cons q_str (qa_cons q_str qa_nil))))) (q_var 3) (fun _ _ => rfl)) qa_nil)))))) (qb_one (qs_ret q_bl)) qb_nil)
        (qb_one (qs_if (qt_not (qt_val (q_fn0 G_l_right hr (by decide) rfl (qa_cons (q_ix ix_any ixM_ok (q_var 1) (q_bin op_mod modM_ok (q_bin op_addV addM_ok (q_var 3) q_int) q_int) (fun _ _ => rfl)) (qa_cons (q_bin op_mod modM_ok (q_bin op_addV addM_ok (q_var 3) q_int) q_int) (qa_cons (q_fn0 G_l_deed_by hr (by decide) rfl (qa_cons (q_var 2) qa_nil)) qa_nil)))))) (qb_one (qs_ret q_bl)) qb_nil))))))
      (qb_one (qs_ret q_bl))))) ?_ ?_
  · exact lawF_ex
  · refine lawF_told fun ns hl => ?_
    generalize hB : xSeq (xAsg (gN 3) _) _ = B
    have turn : ∀ u ∈ ns.map W.int, ∀ (ρ : Sg) (h : Mem), (∃ v2 v3 g, ρ = [some (.tl (ns.map W.int)), some (.tl [.ref 0, .ref 1, .ref 2, .ref 3]), v2, v3] ∧ h = Lm g) → ∃ ρ1, gN 2 u ρ = some ρ1 ∧ ∃ ρ' h', (B ρ1 h = .nx ρ' h' ∨ B ρ1 h = .ct ρ' h') ∧ ∃ v2 v3 g, ρ' = [some (.tl (ns.map W.int)), some (.tl [.ref 0, .ref 1, .ref 2, .ref 3]), v2, v3] ∧ h' = Lm g := by
      rintro u hu ρ h ⟨v2, v3, g, rfl, rfl⟩
      obtain ⟨c, hc, rfl⟩ := List.mem_map.mp hu
      refine ⟨_, rfl, ?_⟩
      have hx : c / 7 % 4 = 0 ∨ c / 7 % 4 = 1 ∨ c / 7 % 4 = 2 ∨ c / 7 % 4 = 3 := by omega
      obtain ⟨w1, gw1, b1⟩ := hb (Lm g) c
      rw [← hB]
      rcases hx with hx | hx | hx | hx
      · obtain ⟨g1, r1⟩ : ∃ g', Fr [.ref 0, .int 0, w1] (Lm g) = .ok (.bl true) (Lm g') := hr0 0 (by decide) g w1 gw1
        obtain ⟨g2, r2⟩ : ∃ g', Fr [.ref 0, .int 0, .str "read"] (Lm g1) = .ok (.bl true) (Lm g') := hr0 0 (by decide) g1 (.str "read") (.inr ⟨_, rfl⟩)
        obtain ⟨w2, gw2, b2⟩ := hb (Lm g2) c
        obtain ⟨g3, r3⟩ : ∃ g', Fr [.ref 1, .int 1, w2] (Lm g2) = .ok (.bl true) (Lm g') := hr0 1 (by decide) g2 w2 gw2
        refine ⟨[some (.tl (ns.map W.int)), some (.tl [.ref 0, .ref 1, .ref 2, .ref 3]), some (.int c), some (.int 0)], Lm g3, .inl ?_, _, _, _, rfl, rfl⟩
        simp [hx, b1, b2, r1, r2, r3, atI_0, atI_1, atI_2, atI_3, runB, startW, Out.res, xSeq, xIfS, xRet, xRetN, xDrop, xAsg, gN, xNext, xVar, xC, xNil, xCons, xBin, xUn, xCb, xBm, xAnd, xOr, xNot, xIf, xChain, xTup, xLst, xCall0, xNo, Res.bind, Res.of, iop, iopC, subM, divM, modM, mulM, powM, bandM, borM, ltM, gtM, geM, leM, negM, invM, addM, items, ixM, seqs, eqO, neO, eqM, flatW, eqFl, isiM, tyN, Kit.get, absM, sizeLine_eq, xFor, xLoop, xIl, xIt, xSl, xPn, xPs, slM, lenM, truM, intW, sumM, intM, maxM, minM, ordM, listM, isNonW, isNM, notNM, isBM, isnotBM, strW, joinM, xBmS, xIs, allBM, bolW, inM, keyW, dicts, ρC, splitM, gT2, xCallX, xMethX, xRaise, xTry, endX, fgt, xBmL, countM, slTM, isiX, tyX, kitA, clTy, catTM, tupleM, xLstN, countSM, indexSM, xLm, appM, xIr1, xRaiseI, xXf]
      · obtain ⟨g1, r1⟩ : ∃ g', Fr [.ref 1, .int 1, w1] (Lm g) = .ok (.bl true) (Lm g') := hr0 1 (by decide) g w1 gw1
        obtain ⟨g2, r2⟩ : ∃ g', Fr [.ref 1, .int 1, .str "push"] (Lm g1) = .ok (.bl true) (Lm g') := hr0 1 (by decide) g1 (.str "push") (.inr ⟨_, rfl⟩)
        obtain ⟨w2, gw2, b2⟩ := hb (Lm g2) c
        obtain ⟨g3, r3⟩ : ∃ g', Fr [.ref 2, .int 2, w2] (Lm g2) = .ok (.bl true) (Lm g') := hr0 2 (by decide) g2 w2 gw2
        refine ⟨[some (.tl (ns.map W.int)), some (.tl [.ref 0, .ref 1, .ref 2, .ref 3]), some (.int c), some (.int 1)], Lm g3, .inl ?_, _, _, _, rfl, rfl⟩
        simp [hx, b1, b2, r1, r2, r3, atI_0, atI_1, atI_2, atI_3, runB, startW, Out.res, xSeq, xIfS, xRet, xRetN, xDrop, xAsg, gN, xNext, xVar, xC, xNil, xCons, xBin, xUn, xCb, xBm, xAnd, xOr, xNot, xIf, xChain, xTup, xLst, xCall0, xNo, Res.bind, Res.of, iop, iopC, subM, divM, modM, mulM, powM, bandM, borM, ltM, gtM, geM, leM, negM, invM, addM, items, ixM, seqs, eqO, neO, eqM, flatW, eqFl, isiM, tyN, Kit.get, absM, sizeLine_eq, xFor, xLoop, xIl, xIt, xSl, xPn, xPs, slM, lenM, truM, intW, sumM, intM, maxM, minM, ordM, listM, isNonW, isNM, notNM, isBM, isnotBM, strW, joinM, xBmS, xIs, allBM, bolW, inM, keyW, dicts, ρC, splitM, gT2, xCallX, xMethX, xRaise, xTry, endX, fgt, xBmL, countM, slTM, isiX, tyX, kitA, clTy, catTM, tupleM, xLstN, countSM, indexSM, xLm, appM, xIr1, xRaiseI, xXf]
      · obtain ⟨g1, r1⟩ : ∃ g', Fr [.ref 2, .int 2, w1] (Lm g) = .ok (.bl true) (Lm g') := hr0 2 (by decide) g w1 gw1
        obtain ⟨g2, r2⟩ : ∃ g', Fr [.ref 2, .int 2, .str "hear"] (Lm g1) = .ok (.bl true) (Lm g') := hr0 2 (by decide) g1 (.str "hear") (.inr ⟨_, rfl⟩)
        obtain ⟨w2, gw2, b2⟩ := hb (Lm g2) c
        obtain ⟨g3, r3⟩ : ∃ g', Fr [.ref 3, .int 3, w2] (Lm g2) = .ok (.bl true) (Lm g') := hr0 3 (by decide) g2 w2 gw2
        refine ⟨[some (.tl (ns.map W.int)), some (.tl [.ref 0, .ref 1, .ref 2, .ref 3]), some (.int c), some (.int 2)], Lm g3, .inl ?_, _, _, _, rfl, rfl⟩
        simp [hx, b1, b2, r1, r2, r3, atI_0, atI_1, atI_2, atI_3, runB, startW, Out.res, xSeq, xIfS, xRet, xRetN, xDrop, xAsg, gN, xNext, xVar, xC, xNil, xCons, xBin, xUn, xCb, xBm, xAnd, xOr, xNot, xIf, xChain, xTup, xLst, xCall0, xNo, Res.bind, Res.of, iop, iopC, subM, divM, modM, mulM, powM, bandM, borM, ltM, gtM, geM, leM, negM, invM, addM, items, ixM, seqs, eqO, neO, eqM, flatW, eqFl, isiM, tyN, Kit.get, absM, sizeLine_eq, xFor, xLoop, xIl, xIt, xSl, xPn, xPs, slM, lenM, truM, intW, sumM, intM, maxM, minM, ordM, listM, isNonW, isNM, notNM, isBM, isnotBM, strW, joinM, xBmS, xIs, allBM, bolW, inM, keyW, dicts, ρC, splitM, gT2, xCallX, xMethX, xRaise, xTry, endX, fgt, xBmL, countM, slTM, isiX, tyX, kitA, clTy, catTM, tupleM, xLstN, countSM, indexSM, xLm, appM, xIr1, xRaiseI, xXf]
      · obtain ⟨g1, r1⟩ : ∃ g', Fr [.ref 3, .int 3, w1] (Lm g) = .ok (.bl true) (Lm g') := hr0 3 (by decide) g w1 gw1
        obtain ⟨g2, r2⟩ : ∃ g', Fr [.ref 3, .int 3, .str "state"] (Lm g1) = .ok (.bl true) (Lm g') := hr0 3 (by decide) g1 (.str "state") (.inr ⟨_, rfl⟩)
        obtain ⟨w2, gw2, b2⟩ := hb (Lm g2) c
        obtain ⟨g3, r3⟩ : ∃ g', Fr [.ref 0, .int 0, w2] (Lm g2) = .ok (.bl true) (Lm g') := hr0 0 (by decide) g2 w2 gw2
        refine ⟨[some (.tl (ns.map W.int)), some (.tl [.ref 0, .ref 1, .ref 2, .ref 3]), some (.int c), some (.int 3)], Lm g3, .inl ?_, _, _, _, rfl, rfl⟩
        simp [hx, b1, b2, r1, r2, r3, atI_0, atI_1, atI_2, atI_3, runB, startW, Out.res, xSeq, xIfS, xRet, xRetN, xDrop, xAsg, gN, xNext, xVar, xC, xNil, xCons, xBin, xUn, xCb, xBm, xAnd, xOr, xNot, xIf, xChain, xTup, xLst, xCall0, xNo, Res.bind, Res.of, iop, iopC, subM, divM, modM, mulM, powM, bandM, borM, ltM, gtM, geM, leM, negM, invM, addM, items, ixM, seqs, eqO, neO, eqM, flatW, eqFl, isiM, tyN, Kit.get, absM, sizeLine_eq, xFor, xLoop, xIl, xIt, xSl, xPn, xPs, slM, lenM, truM, intW, sumM, intM, maxM, minM, ordM, listM, isNonW, isNM, notNM, isBM, isnotBM, strW, joinM, xBmS, xIs, allBM, bolW, inM, keyW, dicts, ρC, splitM, gT2, xCallX, xMethX, xRaise, xTry, endX, fgt, xBmL, countM, slTM, isiX, tyX, kitA, clTy, catTM, tupleM, xLstN, countSM, indexSM, xLm, appM, xIr1, xRaiseI, xXf]
    have m0 := h0 [.ins "Cell" []] 0 0 rfl
    have m1 := h1 [cellO 0, .ins "Line" []] 1 1 rfl
    have m2 := h2 [cellO 0, lineO 1, .ins "Door" []] 2 2 rfl
    have m3 := h3 [cellO 0, lineO 1, doorO 2, .ins "Post" []] 3 3 "a" rfl
    simp only [List.set_cons_zero, List.set_cons_succ] at m0 m1 m2 m3
    obtain ⟨ρ1, h', e1, v2, v3, g, rfl, rfl⟩ := xLoop_nx _ _ [some (.tl (ns.map W.int)), some (.tl [.ref 0, .ref 1, .ref 2, .ref 3]), none, none] (Lm []) ⟨none, none, [], rfl, rfl⟩ turn
    refine ⟨Lm g, congrArg Out.res (?_ : _ = Out.rt (.bl true) (Lm g))⟩
    refine (xSeq_nx (ρ' := [some (.tl (ns.map W.int)), some (.tl [.ref 0, .ref 1, .ref 2, .ref 3]), none, none]) (h' := Lm []) (by simp [xMake, m0, m1, m2, m3, Lm, runB, startW, Out.res, xSeq, xIfS, xRet, xRetN, xDrop, xAsg, gN, xNext, xVar, xC, xNil, xCons, xBin, xUn, xCb, xBm, xAnd, xOr, xNot, xIf, xChain, xTup, xLst, xCall0, xNo, Res.bind, Res.of, iop, iopC, subM, divM, modM, mulM, powM, bandM, borM, ltM, gtM, geM, leM, negM, invM, addM, items, ixM, seqs, eqO, neO, eqM, flatW, eqFl, isiM, tyN, Kit.get, absM, sizeLine_eq, xFor, xLoop, xIl, xIt, xSl, xPn, xPs, slM, lenM, truM, intW, sumM, intM, maxM, minM, ordM, listM, isNonW, isNM, notNM, isBM, isnotBM, strW, joinM, xBmS, xIs, allBM, bolW, inM, keyW, dicts, ρC, splitM, gT2, xCallX, xMethX, xRaise, xTry, endX, fgt, xBmL, countM, slTM, isiX, tyX, kitA, clTy, catTM, tupleM, xLstN, countSM, indexSM, xLm, appM, xIr1, xRaiseI, xXf])).trans ?_
    refine (xSeq_nx ((xFor_loop (ws := ns.map W.int) (h' := Lm []) (by simp [runB, startW, Out.res, xSeq, xIfS, xRet, xRetN, xDrop, xAsg, gN, xNext, xVar, xC, xNil, xCons, xBin, xUn, xCb, xBm, xAnd, xOr, xNot, xIf, xChain, xTup, xLst, xCall0, xNo, Res.bind, Res.of, iop, iopC, subM, divM, modM, mulM, powM, bandM, borM, ltM, gtM, geM, leM, negM, invM, addM, items, ixM, seqs, eqO, neO, eqM, flatW, eqFl, isiM, tyN, Kit.get, absM, sizeLine_eq, xFor, xLoop, xIl, xIt, xSl, xPn, xPs, slM, lenM, truM, intW, sumM, intM, maxM, minM, ordM, listM, isNonW, isNM, notNM, isBM, isnotBM, strW, joinM, xBmS, xIs, allBM, bolW, inM, keyW, dicts, ρC, splitM, gT2, xCallX, xMethX, xRaise, xTry, endX, fgt, xBmL, countM, slTM, isiX, tyX, kitA, clTy, catTM, tupleM, xLstN, countSM, indexSM, xLm, appM, xIr1, xRaiseI, xXf])).trans e1)).trans ?_
    simp [runB, startW, Out.res, xSeq, xIfS, xRet, xRetN, xDrop, xAsg, gN, xNext, xVar, xC, xNil, xCons, xBin, xUn, xCb, xBm, xAnd, xOr, xNot, xIf, xChain, xTup, xLst, xCall0, xNo, Res.bind, Res.of, iop, iopC, subM, divM, modM, mulM, powM, bandM, borM, ltM, gtM, geM, leM, negM, invM, addM, items, ixM, seqs, eqO, neO, eqM, flatW, eqFl, isiM, tyN, Kit.get, absM, sizeLine_eq, xFor, xLoop, xIl, xIt, xSl, xPn, xPs, slM, lenM, truM, intW, sumM, intM, maxM, minM, ordM, listM, isNonW, isNM, notNM, isBM, isnotBM, strW, joinM, xBmS, xIs, allBM, bolW, inM, keyW, dicts, ρC, splitM, gT2, xCallX, xMethX, xRaise, xTry, endX, fgt, xBmL, countM, slTM, isiX, tyX, kitA, clTy, catTM, tupleM, xLstN, countSM, indexSM, xLm, appM, xIr1, xRaiseI, xXf]
theorem mt {c m : Str} {F : Fm} {k : Nat} {f A : Addr} {fd : FuncData} {ps : List Str} (hA : T0 C c = some A) (hm : Meth K A m f) (Fk : FnOk P w K mg base CX0 k f fd ps (spH (T0 C) F)) (hb : Binds K fd ps []) : MtAt P w K mg base (T0 C) k c m F := ⟨A, f, fd, ps, hA, hm, Fk, hb⟩
theorem mtx {c m : Str} {F : Fm} {k : Nat} {f A : Addr} {fd : FuncData} {ps : List Str} {q : Bool} (hA : T0 C c = some A) (hm : Meth K A m f) (Fk : FnOk P w K mg base (CXe q P w) k f fd ps (spH (T0 C) F)) (hb : Binds K fd ps []) : MtX P w K mg base (T0 C) q k c m F := ⟨A, f, fd, ps, hA, hm, Fk, hb⟩
theorem fin {w : World} {h : Heap} {fa C_Cell C_Line C_Door C_Post C_Thing C_PassError C_Empty C_Full C_TooGreat C_NoDeed C_Lacks C_NoHandle C_NoKind C_NoName C_NoRights C_NoRow C_NoTask C_NoThing C_NoValue C_NoWords C_Taken C_TooMany : Addr} (KX : K.In h) (G : h.Ns mainGlobals mg) (hmg : mg "law" = some (.ref fa)) (hNL : noList K = true) (D0 : DefAt K mg "_law_need" s_l_need) (D1 : DefAt K mg "_law_deed_by" s_l_deed_by) (D2 : DefAt K mg "_law_only" s_l_only) (D3 : DefAt K mg "_law_told" s_l_told) (D4 : DefAt K mg "_law_right" s_l_right) (D5 : DefAt K mg "law" s_law) (n0 : mg "isinstance" = none) (n1 : mg "str" = none) (n2 : mg "bool" = none) (n3 : mg "len" = none) (n4 : mg "ValueError" = none) (kt0 : PySem.W.kitOne K (.type "str") (.type "str") = some true) (kt1 : PySem.W.kitOne K (.type "str") (.type "bool") = some false) (kt2 : PySem.W.kitOne K (.type "NoneType") (.type "str") = some false) (kt3 : PySem.W.kitOne K (.type "NoneType") (.type "bool") = some false) (kt4 : PySem.W.kitOne K (.type "bool") (.type "str") = some false) (kt5 : PySem.W.kitOne K (.type "bool") (.type "bool") = some true) (kt6 : PySem.W.kitOne K (.type "int") (.type "str") = some false) (kt7 : PySem.W.kitOne K (.type "int") (.type "bool") = some false) (kt8 : PySem.W.kitOne K (.type "list") (.type "str") = some false) (kt9 : PySem.W.kitOne K (.type "list") (.type "bool") = some false) (kt10 : PySem.W.kitOne K (.type "tuple") (.type "str") = some false) (kt11 : PySem.W.kitOne K (.type "tuple") (.type "bool") = some false) (kt12 : PySem.W.kitOne K (.type "dict") (.type "str") = some false) (kt13 : PySem.W.kitOne K (.type "dict") (.type "bool") = some false) (c0 : GC mg "LOOK" (.int 1)) (c1 : GC mg "PUT" (.int 2)) (c2 : GC mg "SEND" (.int 4)) (c3 : GC mg "HEAR" (.int 8)) (c4 : GC mg "END" (.int 16)) (o_Cell : PySem.W.nsIn K mainGlobals "Cell" = some (some (.ref C_Cell))) (o_Line : PySem.W.nsIn K mainGlobals "Line" = some (some (.ref C_Line))) (o_Door : PySem.W.nsIn K mainGlobals "Door" = some (some (.ref C_Door))) (o_Post : PySem.W.nsIn K mainGlobals "Post" = some (some (.ref C_Post))) (o_Thing : PySem.W.nsIn K mainGlobals "Thing" = some (some (.ref C_Thing))) (o_PassError : PySem.W.nsIn K mainGlobals "PassError" = some (some (.ref C_PassError))) (o_Empty : PySem.W.nsIn K mainGlobals "Empty" = some (some (.ref C_Empty))) (o_Full : PySem.W.nsIn K mainGlobals "Full" = some (some (.ref C_Full))) (o_TooGreat : PySem.W.nsIn K mainGlobals "TooGreat" = some (some (.ref C_TooGreat))) (o_NoDeed : PySem.W.nsIn K mainGlobals "NoDeed" = some (some (.ref C_NoDeed))) (o_Lacks : PySem.W.nsIn K mainGlobals "Lacks" = some (some (.ref C_Lacks))) (o_NoHandle : PySem.W.nsIn K mainGlobals "NoHandle" = some (some (.ref C_NoHandle))) (o_NoKind : PySem.W.nsIn K mainGlobals "NoKind" = some (some (.ref C_NoKind))) (o_NoName : PySem.W.nsIn K mainGlobals "NoName" = some (some (.ref C_NoName))) (o_NoRights : PySem.W.nsIn K mainGlobals "NoRights" = some (some (.ref C_NoRights))) (o_NoRow : PySem.W.nsIn K mainGlobals "NoRow" = some (some (.ref C_NoRow))) (o_NoTask : PySem.W.nsIn K mainGlobals "NoTask" = some (some (.ref C_NoTask))) (o_NoThing : PySem.W.nsIn K mainGlobals "NoThing" = some (some (.ref C_NoThing))) (o_NoValue : PySem.W.nsIn K mainGlobals "NoValue" = some (some (.ref C_NoValue))) (o_NoWords : PySem.W.nsIn K mainGlobals "NoWords" = some (some (.ref C_NoWords))) (o_Taken : PySem.W.nsIn K mainGlobals "Taken" = some (some (.ref C_Taken))) (o_TooMany : PySem.W.nsIn K mainGlobals "TooMany" = some (some (.ref C_TooMany))) (i_Cell : InsTy K C_Cell) (i_Line : InsTy K C_Line) (i_Door : InsTy K C_Door) (i_Post : InsTy K C_Post) (i_Thing : InsTy K C_Thing) (a_Cell_number : NoAttr K C_Cell "number") (a_Cell_amount : NoAttr K C_Cell "amount") (a_Cell_numbers : NoAttr K C_Cell "numbers") (a_Cell_waiting : NoAttr K C_Cell "waiting") (a_Cell_name : NoAttr K C_Cell "name") (a_Cell_runs : NoAttr K C_Cell "runs") (a_Line_number : NoAttr K C_Line "number") (a_Line_amount : NoAttr K C_Line "amount") (a_Line_numbers : NoAttr K C_Line "numbers") (a_Line_waiting : NoAttr K C_Line "waiting") (a_Line_name : NoAttr K C_Line "name") (a_Line_runs : NoAttr K C_Line "runs") (a_Door_number : NoAttr K C_Door "number") (a_Door_amount : NoAttr K C_Door "amount") (a_Door_numbers : NoAttr K C_Door "numbers") (a_Door_waiting : NoAttr K C_Door "waiting") (a_Door_name : NoAttr K C_Door "name") (a_Door_runs : NoAttr K C_Door "runs") (a_Post_number : NoAttr K C_Post "number") (a_Post_amount : NoAttr K C_Post "amount") (a_Post_numbers : NoAttr K C_Post "numbers") (a_Post_waiting : NoAttr K C_Post "waiting") (a_Post_name : NoAttr K C_Post "name") (a_Post_runs : NoAttr K C_Post "runs") (a_Thing_number : NoAttr K C_Thing "number") (a_Thing_amount : NoAttr K C_Thing "amount") (a_Thing_numbers : NoAttr K C_Thing "numbers") (a_Thing_waiting : NoAttr K C_Thing "waiting") (a_Thing_name : NoAttr K C_Thing "name") (a_Thing_runs : NoAttr K C_Thing "runs") (kT_Cell : PySem.W.kitOne K (.ref C_Cell) (.ref C_Thing) = some true) (kT_Line : PySem.W.kitOne K (.ref C_Line) (.ref C_Thing) = some true) (kT_Door : PySem.W.kitOne K (.ref C_Door) (.ref C_Thing) = some true) (kT_Post : PySem.W.kitOne K (.ref C_Post) (.ref C_Thing) = some true) (kx_Empty : PySem.W.kitOne K (.ref C_NoDeed) (.ref C_Empty) = some false) (kx_Full : PySem.W.kitOne K (.ref C_NoDeed) (.ref C_Full) = some false) (kx_TooGreat : PySem.W.kitOne K (.ref C_NoDeed) (.ref C_TooGreat) = some false) (kx_NoDeed : PySem.W.kitOne K (.ref C_NoDeed) (.ref C_NoDeed) = some true) (kx_Lacks : PySem.W.kitOne K (.ref C_NoDeed) (.ref C_Lacks) = some false) (kx_NoHandle : PySem.W.kitOne K (.ref C_NoDeed) (.ref C_NoHandle) = some false) (kx_NoKind : PySem.W.kitOne K (.ref C_NoDeed) (.ref C_NoKind) = some false) (kx_NoName : PySem.W.kitOne K (.ref C_NoDeed) (.ref C_NoName) = some false) (kx_NoRights : PySem.W.kitOne K (.ref C_NoDeed) (.ref C_NoRights) = some false) (kx_NoRow : PySem.W.kitOne K (.ref C_NoDeed) (.ref C_NoRow) = some false) (kx_NoTask : PySem.W.kitOne K (.ref C_NoDeed) (.ref C_NoTask) = some false) (kx_NoThing : PySem.W.kitOne K (.ref C_NoDeed) (.ref C_NoThing) = some false) (kx_NoValue : PySem.W.kitOne K (.ref C_NoDeed) (.ref C_NoValue) = some false) (kx_NoWords : PySem.W.kitOne K (.ref C_NoDeed) (.ref C_NoWords) = some false) (kx_Taken : PySem.W.kitOne K (.ref C_NoDeed) (.ref C_Taken) = some false) (kx_TooMany : PySem.W.kitOne K (.ref C_NoDeed) (.ref C_TooMany) = some false) (xa : excAll K [C_NoDeed] = true) (cp : capAll K C_PassError [C_NoDeed] = true) (kv : kitTy K [C_NoDeed] (.type "ValueError") true = true) (iN : iniB K C_NoDeed "deed" = true) (bs : BaseOk K C_PassError) (xN : InX K C_NoDeed "NoDeed.__init__" s_NoDeed__init) (cl : ClX K C_Thing "__init__" "Thing.__init__" s_Thing__init) (mk_Cell : MkX K C_Cell "Cell.__init__" s_Cell__init) (mk_Line : MkX K C_Line "Line.__init__" s_Line__init) (mk_Door : MkX K C_Door "Door.__init__" s_Door__init) (mk_Post : MkX K C_Post "Post.__init__" s_Post__init) (m_Cell_own : MthX K C_Cell "own_needs" "Cell.own_needs" s_Cell_own_needs) (m_Line_own : MthX K C_Line "own_needs" "Line.own_needs" s_Line_own_needs) (m_Door_own : MthX K C_Door "own_needs" "Door.own_needs" s_Door_own_needs) (m_Post_own : MthX K C_Post "own_needs" "Post.own_needs" s_Post_own_needs) (m_Cell_needs : MthX K C_Cell "needs" "Thing.needs" s_Thing_needs) (m_Line_needs : MthX K C_Line "needs" "Thing.needs" s_Thing_needs) (m_Door_needs : MthX K C_Door "needs" "Thing.needs" s_Thing_needs) (m_Post_needs : MthX K C_Post "needs" "Thing.needs" s_Thing_needs) :
    ∃ fd : FuncData, (∀ (s : Shared) (u : Value), BindsTo s fd ⟨[u], []⟩ [("_law_script", u)]) ∧ ∀ base : Heap, K.In base → base.Ns mainGlobals mg → FnOk P w K mg base CX0 6 fa fd ["_law_script"] (sp_law K) := by
  obtain ⟨C, hC⟩ : ∃ C : Cs, C = ⟨C_Cell, C_Line, C_Door, C_Post, C_Thing, C_Empty, C_Full, C_TooGreat, C_NoDeed, C_Lacks, C_NoHandle, C_NoKind, C_NoName, C_NoRights, C_NoRow, C_NoTask, C_NoThing, C_NoValue, C_NoWords, C_Taken, C_TooMany⟩ := ⟨_, rfl⟩
  have hT : ∀ c A, T0 C c = some A → A = C_Cell ∨ A = C_Line ∨ A = C_Door ∨ A = C_Post ∨ A = C_Thing := fun c A e => by
    subst hC
    have e : (if c = "Cell" then some C_Cell else if c = "Line" then some C_Line else if c = "Door" then some C_Door else if c = "Post" then some C_Post else if c = "Thing" then some C_Thing else none) = some A := e
    split at e
    · cases e; exact .inl rfl
    · split at e
      · cases e; exact .inr (.inl rfl)
      · split at e
        · cases e; exact .inr (.inr (.inl rfl))
        · split at e
          · cases e; exact .inr (.inr (.inr (.inl rfl)))
          · split at e
            · cases e; exact .inr (.inr (.inr (.inr rfl)))
            · cases e
  have hX : ∀ c A, (T0 C).x c = some A → c = "NoDeed" ∧ A = C_NoDeed := fun c A e => by
    subst hC
    have e : (if c = "NoDeed" then some C_NoDeed else none) = some A := e
    split at e
    · rename_i hc; cases e; exact ⟨hc, rfl⟩
    · cases e
  have hE : ExcOk K (T0 C) := fun c A e => by
    obtain ⟨rfl, rfl⟩ := hX c A e
    exact ⟨by subst hC; rfl, excAll_of xa (by simp)⟩
  have hI : InsOk K (T0 C) := fun c A e => by
    rcases hT c A e with rfl | rfl | rfl | rfl | rfl
    · exact i_Cell
    · exact i_Line
    · exact i_Door
    · exact i_Post
    · exact i_Thing
  have f_number : FldOk K (T0 C) "number" := fun c A e => by
    rcases hT c A e with rfl | rfl | rfl | rfl | rfl
    · exact ⟨i_Cell.cl, a_Cell_number⟩
    · exact ⟨i_Line.cl, a_Line_number⟩
    · exact ⟨i_Door.cl, a_Door_number⟩
    · exact ⟨i_Post.cl, a_Post_number⟩
    · exact ⟨i_Thing.cl, a_Thing_number⟩
  have f_amount : FldOk K (T0 C) "amount" := fun c A e => by
    rcases hT c A e with rfl | rfl | rfl | rfl | rfl
    · exact ⟨i_Cell.cl, a_Cell_amount⟩
    · exact ⟨i_Line.cl, a_Line_amount⟩
    · exact ⟨i_Door.cl, a_Door_amount⟩
    · exact ⟨i_Post.cl, a_Post_amount⟩
    · exact ⟨i_Thing.cl, a_Thing_amount⟩
  have f_numbers : FldOk K (T0 C) "numbers" := fun c A e => by
    rcases hT c A e with rfl | rfl | rfl | rfl | rfl
    · exact ⟨i_Cell.cl, a_Cell_numbers⟩
    · exact ⟨i_Line.cl, a_Line_numbers⟩
    · exact ⟨i_Door.cl, a_Door_numbers⟩
    · exact ⟨i_Post.cl, a_Post_numbers⟩
    · exact ⟨i_Thing.cl, a_Thing_numbers⟩
  have f_waiting : FldOk K (T0 C) "waiting" := fun c A e => by
    rcases hT c A e with rfl | rfl | rfl | rfl | rfl
    · exact ⟨i_Cell.cl, a_Cell_waiting⟩
    · exact ⟨i_Line.cl, a_Line_waiting⟩
    · exact ⟨i_Door.cl, a_Door_waiting⟩
    · exact ⟨i_Post.cl, a_Post_waiting⟩
    · exact ⟨i_Thing.cl, a_Thing_waiting⟩
  have f_name : FldOk K (T0 C) "name" := fun c A e => by
    rcases hT c A e with rfl | rfl | rfl | rfl | rfl
    · exact ⟨i_Cell.cl, a_Cell_name⟩
    · exact ⟨i_Line.cl, a_Line_name⟩
    · exact ⟨i_Door.cl, a_Door_name⟩
    · exact ⟨i_Post.cl, a_Post_name⟩
    · exact ⟨i_Thing.cl, a_Thing_name⟩
  have f_runs : FldOk K (T0 C) "runs" := fun c A e => by
    rcases hT c A e with rfl | rfl | rfl | rfl | rfl
    · exact ⟨i_Cell.cl, a_Cell_runs⟩
    · exact ⟨i_Line.cl, a_Line_runs⟩
    · exact ⟨i_Door.cl, a_Door_runs⟩
    · exact ⟨i_Post.cl, a_Post_runs⟩
    · exact ⟨i_Thing.cl, a_Thing_runs⟩
  have hK : KitOk K (T0 C) kitL := by
    subst hC
    intro e he
    simp only [kitL, List.mem_cons, List.not_mem_nil, or_false] at he
    rcases he with rfl | rfl | rfl | rfl | rfl | rfl | rfl | rfl | rfl | rfl | rfl | rfl | rfl | rfl | rfl | rfl | rfl | rfl | rfl | rfl | rfl | rfl | rfl | rfl | rfl | rfl | rfl | rfl | rfl | rfl | rfl | rfl | rfl | rfl | rfl
    · exact ⟨_, _, rfl, rfl, kt0⟩
    · exact ⟨_, _, rfl, rfl, kt1⟩
    · exact ⟨_, _, rfl, rfl, kt2⟩
    · exact ⟨_, _, rfl, rfl, kt3⟩
    · exact ⟨_, _, rfl, rfl, kt4⟩
    · exact ⟨_, _, rfl, rfl, kt5⟩
    · exact ⟨_, _, rfl, rfl, kt6⟩
    · exact ⟨_, _, rfl, rfl, kt7⟩
    · exact ⟨_, _, rfl, rfl, kt8⟩
    · exact ⟨_, _, rfl, rfl, kt9⟩
    · exact ⟨_, _, rfl, rfl, kt10⟩
    · exact ⟨_, _, rfl, rfl, kt11⟩
    · exact ⟨_, _, rfl, rfl, kt12⟩
    · exact ⟨_, _, rfl, rfl, kt13⟩
    · exact ⟨_, _, ⟨C_Cell, rfl, rfl⟩, ⟨C_Thing, rfl, rfl⟩, kT_Cell⟩
    · exact ⟨_, _, ⟨C_Line, rfl, rfl⟩, ⟨C_Thing, rfl, rfl⟩, kT_Line⟩
    · exact ⟨_, _, ⟨C_Door, rfl, rfl⟩, ⟨C_Thing, rfl, rfl⟩, kT_Door⟩
    · exact ⟨_, _, ⟨C_Post, rfl, rfl⟩, ⟨C_Thing, rfl, rfl⟩, kT_Post⟩
    · exact ⟨_, _, ⟨C_NoDeed, rfl, rfl⟩, rfl, kitTy_get kv (by simp)⟩
    · exact ⟨_, _, ⟨C_NoDeed, rfl, rfl⟩, ⟨C_Empty, rfl, rfl⟩, kx_Empty⟩
    · exact ⟨_, _, ⟨C_NoDeed, rfl, rfl⟩, ⟨C_Full, rfl, rfl⟩, kx_Full⟩
    · exact ⟨_, _, ⟨C_NoDeed, rfl, rfl⟩, ⟨C_TooGreat, rfl, rfl⟩, kx_TooGreat⟩
    · exact ⟨_, _, ⟨C_NoDeed, rfl, rfl⟩, ⟨C_NoDeed, rfl, rfl⟩, kx_NoDeed⟩
    · exact ⟨_, _, ⟨C_NoDeed, rfl, rfl⟩, ⟨C_Lacks, rfl, rfl⟩, kx_Lacks⟩
    · exact ⟨_, _, ⟨C_NoDeed, rfl, rfl⟩, ⟨C_NoHandle, rfl, rfl⟩, kx_NoHandle⟩
    · exact ⟨_, _, ⟨C_NoDeed, rfl, rfl⟩, ⟨C_NoKind, rfl, rfl⟩, kx_NoKind⟩
    · exact ⟨_, _, ⟨C_NoDeed, rfl, rfl⟩, ⟨C_NoName, rfl, rfl⟩, kx_NoName⟩
    · exact ⟨_, _, ⟨C_NoDeed, rfl, rfl⟩, ⟨C_NoRights, rfl, rfl⟩, kx_NoRights⟩
    · exact ⟨_, _, ⟨C_NoDeed, rfl, rfl⟩, ⟨C_NoRow, rfl, rfl⟩, kx_NoRow⟩
    · exact ⟨_, _, ⟨C_NoDeed, rfl, rfl⟩, ⟨C_NoTask, rfl, rfl⟩, kx_NoTask⟩
    · exact ⟨_, _, ⟨C_NoDeed, rfl, rfl⟩, ⟨C_NoThing, rfl, rfl⟩, kx_NoThing⟩
    · exact ⟨_, _, ⟨C_NoDeed, rfl, rfl⟩, ⟨C_NoValue, rfl, rfl⟩, kx_NoValue⟩
    · exact ⟨_, _, ⟨C_NoDeed, rfl, rfl⟩, ⟨C_NoWords, rfl, rfl⟩, kx_NoWords⟩
    · exact ⟨_, _, ⟨C_NoDeed, rfl, rfl⟩, ⟨C_Taken, rfl, rfl⟩, kx_Taken⟩
    · exact ⟨_, _, ⟨C_NoDeed, rfl, rfl⟩, ⟨C_TooMany, rfl, rfl⟩, kx_TooMany⟩
  have gc : ∀ {x : Str} {A : Addr}, PySem.W.nsIn K mainGlobals x = some (some (.ref A)) → GC mg x (.ref A) := fun o => gc_mk KX G o rfl
  have T : Tx K mg C := ⟨n0, n1, n2, n3, n4, c0, c1, c2, c3, c4, hI, hE, hK, f_number, f_amount, f_numbers, f_waiting, f_name, f_runs, cap_of cp (PySem.W.mg_of KX G o_PassError) (fun c A _ e => by obtain ⟨_, rfl⟩ := hX c A e; simp), fun A e => by subst hC; have e : some C_NoDeed = some A := e; cases e; exact ⟨excAll_of xa (by simp), (ini_of iN).1.hd, (ini_of iN).2⟩, by subst hC; exact gc o_Thing, by subst hC; rfl, by subst hC; exact gc o_Empty, by subst hC; rfl, by subst hC; exact gc o_Full, by subst hC; rfl, by subst hC; exact gc o_TooGreat, by subst hC; rfl, by subst hC; exact gc o_NoDeed, by subst hC; rfl, by subst hC; exact gc o_Lacks, by subst hC; rfl, by subst hC; exact gc o_NoHandle, by subst hC; rfl, by subst hC; exact gc o_NoKind, by subst hC; rfl, by subst hC; exact gc o_NoName, by subst hC; rfl, by subst hC; exact gc o_NoRights, by subst hC; rfl, by subst hC; exact gc o_NoRow, by subst hC; rfl, by subst hC; exact gc o_NoTask, by subst hC; rfl, by subst hC; exact gc o_NoThing, by subst hC; rfl, by subst hC; exact gc o_NoValue, by subst hC; rfl, by subst hC; exact gc o_NoWords, by subst hC; rfl, by subst hC; exact gc o_Taken, by subst hC; rfl, by subst hC; exact gc o_TooMany, by subst hC; rfl⟩
  refine law_mk D5 hmg bd_law fun f fd F base => ?_
  obtain ⟨fN, dN, j1, j2, RN⟩ := xN
  have ZN : RzI P w K mg base (T0 C) 1 "NoDeed" "deed" := ⟨C_NoDeed, fN, dN, _, by subst hC; rfl, PySem.W.mg_of KX G o_NoDeed, (ini_of iN).1.ei, j1, j2, ok_ini (ini_of iN).1 bs (PySem.W.mg_of KX G o_PassError) RN, RN.binds bd_NoDeed__init⟩
  obtain ⟨f0, d0, x0, R0⟩ := cl
  obtain ⟨F0, G0, h0⟩ := ok_ti (P := P) (w := w) (base := base) T R0
  obtain ⟨fi0, di0, xi0, Ri0⟩ := mk_Cell
  obtain ⟨Fi0, Gi0, hi0⟩ := ok_i0 (P := P) (w := w) (base := base) T h0 ⟨C_Thing, f0, d0, _, PySem.W.mg_of KX G o_Thing, x0, G0, R0.binds bd_Thing__init⟩ Ri0
  obtain ⟨fo0, do0, xo0, Ro0⟩ := m_Cell_own
  obtain ⟨Fo0, Go0, ho0⟩ := ok_o0 (P := P) (w := w) (base := base) T Ro0
  obtain ⟨fi1, di1, xi1, Ri1⟩ := mk_Line
  obtain ⟨Fi1, Gi1, hi1⟩ := ok_i1 (P := P) (w := w) (base := base) T h0 ⟨C_Thing, f0, d0, _, PySem.W.mg_of KX G o_Thing, x0, G0, R0.binds bd_Thing__init⟩ Ri1
  obtain ⟨fo1, do1, xo1, Ro1⟩ := m_Line_own
  obtain ⟨Fo1, Go1, ho1⟩ := ok_o1 (P := P) (w := w) (base := base) T Ro1
  obtain ⟨fi2, di2, xi2, Ri2⟩ := mk_Door
  obtain ⟨Fi2, Gi2, hi2⟩ := ok_i2 (P := P) (w := w) (base := base) T h0 ⟨C_Thing, f0, d0, _, PySem.W.mg_of KX G o_Thing, x0, G0, R0.binds bd_Thing__init⟩ Ri2
  obtain ⟨fo2, do2, xo2, Ro2⟩ := m_Door_own
  obtain ⟨Fo2, Go2, ho2⟩ := ok_o2 (P := P) (w := w) (base := base) T Ro2
  obtain ⟨fi3, di3, xi3, Ri3⟩ := mk_Post
  obtain ⟨Fi3, Gi3, hi3⟩ := ok_i3 (P := P) (w := w) (base := base) T h0 ⟨C_Thing, f0, d0, _, PySem.W.mg_of KX G o_Thing, x0, G0, R0.binds bd_Thing__init⟩ Ri3
  obtain ⟨fo3, do3, xo3, Ro3⟩ := m_Post_own
  obtain ⟨Fo3, Go3, ho3⟩ := ok_o3 (P := P) (w := w) (base := base) T Ro3
  have Mo := tab4_at (P := P) (w := w) (mg := mg) (base := base) (C := C) (mt (by subst hC; rfl) xo0 Go0 (Ro0.binds bd_Cell_own_needs)) (mt (by subst hC; rfl) xo1 Go1 (Ro1.binds bd_Line_own_needs)) (mt (by subst hC; rfl) xo2 Go2 (Ro2.binds bd_Door_own_needs)) (mt (by subst hC; rfl) xo3 Go3 (Ro3.binds bd_Post_own_needs))
  obtain ⟨fn0, dn0, xn0, Rn0⟩ := m_Cell_needs
  obtain ⟨fn1, dn1, xn1, Rn1⟩ := m_Line_needs
  obtain ⟨fn2, dn2, xn2, Rn2⟩ := m_Door_needs
  obtain ⟨fn3, dn3, xn3, Rn3⟩ := m_Post_needs
  obtain ⟨Fn, Gn, hn⟩ := ok_needs (P := P) (w := w) (base := base) T ZN ho0 ho1 ho2 ho3 Mo
  have Mn : TabX P w K mg base (T0 C) true 3 "needs" (tab4 Fn Fn Fn Fn) := tab4_x (mtx (by subst hC; rfl) xn0 (Gn Rn0) (Rn0.binds bd_Thing_needs)) (mtx (by subst hC; rfl) xn1 (Gn Rn1) (Rn1.binds bd_Thing_needs)) (mtx (by subst hC; rfl) xn2 (Gn Rn2) (Rn2.binds bd_Thing_needs)) (mtx (by subst hC; rfl) xn3 (Gn Rn3) (Rn3.binds bd_Thing_needs))
  obtain ⟨Fy, Gy, hy⟩ := ok_only (P := P) (w := w) (base := base) T D2
  obtain ⟨Ft, Gt, ht⟩ := ok_told (P := P) (w := w) (base := base) T hn hy Mn Gy D3
  obtain ⟨Fe, Ge, he⟩ := ok_need (P := P) (w := w) (base := base) T D0
  obtain ⟨Fb, Gb, hb⟩ := ok_by (P := P) (w := w) (base := base) T D1
  obtain ⟨Fr, Gr, hr⟩ := ok_right (P := P) (w := w) (base := base) T he ht Ge Gt D4
  exact (ok_law T F hi0 hi1 hi2 hi3 hb hr ⟨C_Cell, fi0, di0, _, by subst hC; rfl, PySem.W.mg_of KX G o_Cell, xi0, Gi0, Ri0.binds bd_Cell__init⟩ ⟨C_Line, fi1, di1, _, by subst hC; rfl, PySem.W.mg_of KX G o_Line, xi1, Gi1, Ri1.binds bd_Line__init⟩ ⟨C_Door, fi2, di2, _, by subst hC; rfl, PySem.W.mg_of KX G o_Door, xi2, Gi2, Ri2.binds bd_Door__init⟩ ⟨C_Post, fi3, di3, _, by subst hC; rfl, PySem.W.mg_of KX G o_Post, xi3, Gi3, Ri3.binds bd_Post__init⟩ Gb Gr).imp (lawF_sp hNL)
end
end K21
-- the head makes no twins of these
def PySem.W.Fast.tw12596230614338821559 : Nat := 0
def PySem.W.Fast.tw1626951965214984794 : Nat := 0
def PySem.W.Fast.tw16437780715552009338 : Nat := 0
def PySem.W.Fast.tw2121347650360744558 : Nat := 0
def PySem.W.Fast.tw753578923255791486 : Nat := 0
def PySem.W.Fast.tw1712572134162889578 : Nat := 0
def PySem.W.Fast.tw13780425062209096344 : Nat := 0
def PySem.W.Fast.tw9875513660770666659 : Nat := 0
def PySem.W.Fast.tw9354825659136862946 : Nat := 0
def PySem.W.Fast.tw2618071683816574872 : Nat := 0
def PySem.W.Fast.tw1929497984556950986 : Nat := 0
def PySem.W.Fast.tw576989122452899935 : Nat := 0
def PySem.W.Fast.tw15597628243332626078 : Nat := 0
def PySem.W.Fast.tw17397002335353380306 : Nat := 0
def PySem.W.Fast.tw9411710249990928029 : Nat := 0
def PySem.W.Fast.tw2470514859743746238 : Nat := 0
def PySem.W.Fast.tw12211284076590006382 : Nat := 0
def PySem.W.Fast.tw7541526287216807247 : Nat := 0
def PySem.W.Fast.tw15437361703986680528 : Nat := 0
def PySem.W.Fast.tw2713447801551715539 : Nat := 0
def PySem.W.Fast.tw6244286864980639305 : Nat := 0
def PySem.W.Fast.tw13355030379792272459 : Nat := 0
def PySem.W.Fast.tw12932004450374396691 : Nat := 0
def PySem.W.Fast.tw11791143439953572605 : Nat := 0
def PySem.W.Fast.tw2528217351648900217 : Nat := 0
def PySem.W.Fast.tw8385382354798195410 : Nat := 0
def PySem.W.Fast.tw9732939838221252570 : Nat := 0
def PySem.W.Fast.tw11072143650848947269 : Nat := 0
open PySem PySem.W PyProof.Rows
set_option maxRecDepth 100000 in
set_option maxHeartbeats 0 in
theorem PySem.Challenge.cw_passkeep_k21_what_deeds_need_holds : PySem.Challenge.rw_passkeep_k21_what_deeds_need.Holds := by
  w_on; o_law; k_head; (case hw => w_witness2)
  k_fill
  refine L2.walk0 (l := PySem.Challenge.rw_passkeep_k21_what_deeds_need) (k := 6) (x := "_law_script") rfl rfl ⟨by decide, by decide⟩ (fun w h Y => PySem.W.kIn_of Y) ?F
  case F =>
    intro w mg fa h KX G hmg
    have hNL : M.noList (L2.KOf KX) = true := by dsimp only [L2.KOf]; kernel_rfl
    have D_l_need : L2.DefAt (L2.KOf KX) mg "_law_need" K21.s_l_need := by
      dsimp only [L2.KOf]; refine' L2.def_mk KX G ?a ?l ?c ?k; (case a => k_is); (case l => k_is); (case c => k_is); (case k => k_is)
    have D_l_deed_by : L2.DefAt (L2.KOf KX) mg "_law_deed_by" K21.s_l_deed_by := by
      dsimp only [L2.KOf]; refine' L2.def_mk KX G ?a ?l ?c ?k; (case a => k_is); (case l => k_is); (case c => k_is); (case k => k_is)
    have D_l_only : L2.DefAt (L2.KOf KX) mg "_law_only" K21.s_l_only := by
      dsimp only [L2.KOf]; refine' L2.def_mk KX G ?a ?l ?c ?k; (case a => k_is); (case l => k_is); (case c => k_is); (case k => k_is)
    have D_l_told : L2.DefAt (L2.KOf KX) mg "_law_told" K21.s_l_told := by
      dsimp only [L2.KOf]; refine' L2.def_mk KX G ?a ?l ?c ?k; (case a => k_is); (case l => k_is); (case c => k_is); (case k => k_is)
    have D_l_right : L2.DefAt (L2.KOf KX) mg "_law_right" K21.s_l_right := by
      dsimp only [L2.KOf]; refine' L2.def_mk KX G ?a ?l ?c ?k; (case a => k_is); (case l => k_is); (case c => k_is); (case k => k_is)
    have D_law : L2.DefAt (L2.KOf KX) mg "law" K21.s_law := by
      dsimp only [L2.KOf]; refine' L2.def_mk KX G ?a ?l ?c ?k; (case a => k_is); (case l => k_is); (case c => k_is); (case k => k_is)
    have N_isinstance : mg "isinstance" = none := PySem.W.mg_none_of KX G (by k_is)
    have N_str : mg "str" = none := PySem.W.mg_none_of KX G (by k_is)
    have N_bool : mg "bool" = none := PySem.W.mg_none_of KX G (by k_is)
    have N_len : mg "len" = none := PySem.W.mg_none_of KX G (by k_is)
    have N_ValueError : mg "ValueError" = none := PySem.W.mg_none_of KX G (by k_is)
    have k_str_str : PySem.W.kitOne (L2.KOf KX) (.type "str") (.type "str") = some true := by dsimp only [L2.KOf]; kit_is
    have k_str_bool : PySem.W.kitOne (L2.KOf KX) (.type "str") (.type "bool") = some false := by dsimp only [L2.KOf]; kit_is
    have k_NoneType_str : PySem.W.kitOne (L2.KOf KX) (.type "NoneType") (.type "str") = some false := by dsimp only [L2.KOf]; kit_is
    have k_NoneType_bool : PySem.W.kitOne (L2.KOf KX) (.type "NoneType") (.type "bool") = some false := by dsimp only [L2.KOf]; kit_is
    have k_bool_str : PySem.W.kitOne (L2.KOf KX) (.type "bool") (.type "str") = some false := by dsimp only [L2.KOf]; kit_is
    have k_bool_bool : PySem.W.kitOne (L2.KOf KX) (.type "bool") (.type "bool") = some true := by dsimp only [L2.KOf]; kit_is
    have k_int_str : PySem.W.kitOne (L2.KOf KX) (.type "int") (.type "str") = some false := by dsimp only [L2.KOf]; kit_is
    have k_int_bool : PySem.W.kitOne (L2.KOf KX) (.type "int") (.type "bool") = some false := by dsimp only [L2.KOf]; kit_is
    have k_list_str : PySem.W.kitOne (L2.KOf KX) (.type "list") (.type "str") = some false := by dsimp only [L2.KOf]; kit_is
    have k_list_bool : PySem.W.kitOne (L2.KOf KX) (.type "list") (.type "bool") = some false := by dsimp only [L2.KOf]; kit_is
    have k_tuple_str : PySem.W.kitOne (L2.KOf KX) (.type "tuple") (.type "str") = some false := by dsimp only [L2.KOf]; kit_is
    have k_tuple_bool : PySem.W.kitOne (L2.KOf KX) (.type "tuple") (.type "bool") = some false := by dsimp only [L2.KOf]; kit_is
    have k_dict_str : PySem.W.kitOne (L2.KOf KX) (.type "dict") (.type "str") = some false := by dsimp only [L2.KOf]; kit_is
    have k_dict_bool : PySem.W.kitOne (L2.KOf KX) (.type "dict") (.type "bool") = some false := by dsimp only [L2.KOf]; kit_is
    have c_LOOK : L2.GC mg "LOOK" (.int 1) := L2.gc_mk KX G (by k_is) ⟨_, rfl⟩
    have c_PUT : L2.GC mg "PUT" (.int 2) := L2.gc_mk KX G (by k_is) ⟨_, rfl⟩
    have c_SEND : L2.GC mg "SEND" (.int 4) := L2.gc_mk KX G (by k_is) ⟨_, rfl⟩
    have c_HEAR : L2.GC mg "HEAR" (.int 8) := L2.gc_mk KX G (by k_is) ⟨_, rfl⟩
    have c_END : L2.GC mg "END" (.int 16) := L2.gc_mk KX G (by k_is) ⟨_, rfl⟩

    refine' K21.fin KX G hmg hNL D_l_need D_l_deed_by D_l_only D_l_told D_l_right D_law N_isinstance N_str N_bool N_len N_ValueError k_str_str k_str_bool k_NoneType_str k_NoneType_bool k_bool_str k_bool_bool k_int_str k_int_bool k_list_str k_list_bool k_tuple_str k_tuple_bool k_dict_str k_dict_bool c_LOOK c_PUT c_SEND c_HEAR c_END ?gg30 ?gg31 ?gg32 ?gg33 ?gg34 ?gg35 ?gg36 ?gg37 ?gg38 ?gg39 ?gg40 ?gg41 ?gg42 ?gg43 ?gg44 ?gg45 ?gg46 ?gg47 ?gg48 ?gg49 ?gg50 ?gg51 ?gg52 ?gg53 ?gg54 ?gg55 ?gg56 ?gg57 ?gg58 ?gg59 ?gg60 ?gg61 ?gg62 ?gg63 ?gg64 ?gg65 ?gg66 ?gg67 ?gg68 ?gg69 ?gg70 ?gg71 ?gg72 ?gg73 ?gg74 ?gg75 ?gg76 ?gg77 ?gg78 ?gg79 ?gg80 ?gg81 ?gg82 ?gg83 ?gg84 ?gg85 ?gg86 ?gg87 ?gg88 ?gg89 ?gg90 ?gg91 ?gg92 ?gg93 ?gg94 ?gg95 ?gg96 ?gg97 ?gg98 ?gg99 ?gg100 ?gg101 ?gg102 ?gg103 ?gg104 ?gg105 ?gg106 ?gg107 ?gg108 ?gg109 ?gg110 ?gg111 ?gg112 ?gg113 ?gg114 ?gg115 ?gg116 ?gg117 ?gg118 ?gg119 ?gg120 ?gg121 ?gg122 ?gg123 ?gg124 ?gg125
    (case gg30 => k_is)
    (case gg31 => k_is)
    (case gg32 => k_is)
    (case gg33 => k_is)
    (case gg34 => k_is)
    (case gg35 => k_is)
    (case gg36 => k_is)
    (case gg37 => k_is)
    (case gg38 => k_is)
    (case gg39 => k_is)
    (case gg40 => k_is)
    (case gg41 => k_is)
    (case gg42 => k_is)
    (case gg43 => k_is)
    (case gg44 => k_is)
    (case gg45 => k_is)
    (case gg46 => k_is)
    (case gg47 => k_is)
    (case gg48 => k_is)
    (case gg49 => k_is)
    (case gg50 => k_is)
    (case gg51 => k_is)
    (case gg52 => refine' M.ins_mk ?qa_52 ?qb_52 ?qc_52 ?qd_52 ?qe_52 ?qf_52 ?qg_52 ?qh_52; (case qa_52 => k_is); (case qb_52 => k_is); (case qc_52 => k_is); (case qd_52 => k_is); (case qe_52 => k_is); (case qf_52 => k_is); (case qg_52 => k_is); (case qh_52 => k_is))
    (case gg53 => refine' M.ins_mk ?qa_53 ?qb_53 ?qc_53 ?qd_53 ?qe_53 ?qf_53 ?qg_53 ?qh_53; (case qa_53 => k_is); (case qb_53 => k_is); (case qc_53 => k_is); (case qd_53 => k_is); (case qe_53 => k_is); (case qf_53 => k_is); (case qg_53 => k_is); (case qh_53 => k_is))
    (case gg54 => refine' M.ins_mk ?qa_54 ?qb_54 ?qc_54 ?qd_54 ?qe_54 ?qf_54 ?qg_54 ?qh_54; (case qa_54 => k_is); (case qb_54 => k_is); (case qc_54 => k_is); (case qd_54 => k_is); (case qe_54 => k_is); (case qf_54 => k_is); (case qg_54 => k_is); (case qh_54 => k_is))
    (case gg55 => refine' M.ins_mk ?qa_55 ?qb_55 ?qc_55 ?qd_55 ?qe_55 ?qf_55 ?qg_55 ?qh_55; (case qa_55 => k_is); (case qb_55 => k_is); (case qc_55 => k_is); (case qd_55 => k_is); (case qe_55 => k_is); (case qf_55 => k_is); (case qg_55 => k_is); (case qh_55 => k_is))
    (case gg56 => refine' M.ins_mk ?qa_56 ?qb_56 ?qc_56 ?qd_56 ?qe_56 ?qf_56 ?qg_56 ?qh_56; (case qa_56 => k_is); (case qb_56 => k_is); (case qc_56 => k_is); (case qd_56 => k_is); (case qe_56 => k_is); (case qf_56 => k_is); (case qg_56 => k_is); (case qh_56 => k_is))
    (case gg57 => show PySem.W.findIn _ _ _ = _; k_is)
    (case gg58 => show PySem.W.findIn _ _ _ = _; k_is)
    (case gg59 => show PySem.W.findIn _ _ _ = _; k_is)
    (case gg60 => show PySem.W.findIn _ _ _ = _; k_is)
    (case gg61 => show PySem.W.findIn _ _ _ = _; k_is)
    (case gg62 => show PySem.W.findIn _ _ _ = _; k_is)
    (case gg63 => show PySem.W.findIn _ _ _ = _; k_is)
    (case gg64 => show PySem.W.findIn _ _ _ = _; k_is)
    (case gg65 => show PySem.W.findIn _ _ _ = _; k_is)
    (case gg66 => show PySem.W.findIn _ _ _ = _; k_is)
    (case gg67 => show PySem.W.findIn _ _ _ = _; k_is)
    (case gg68 => show PySem.W.findIn _ _ _ = _; k_is)
    (case gg69 => show PySem.W.findIn _ _ _ = _; k_is)
    (case gg70 => show PySem.W.findIn _ _ _ = _; k_is)
    (case gg71 => show PySem.W.findIn _ _ _ = _; k_is)
    (case gg72 => show PySem.W.findIn _ _ _ = _; k_is)
    (case gg73 => show PySem.W.findIn _ _ _ = _; k_is)
    (case gg74 => show PySem.W.findIn _ _ _ = _; k_is)
    (case gg75 => show PySem.W.findIn _ _ _ = _; k_is)
    (case gg76 => show PySem.W.findIn _ _ _ = _; k_is)
    (case gg77 => show PySem.W.findIn _ _ _ = _; k_is)
    (case gg78 => show PySem.W.findIn _ _ _ = _; k_is)
    (case gg79 => show PySem.W.findIn _ _ _ = _; k_is)
    (case gg80 => show PySem.W.findIn _ _ _ = _; k_is)
    (case gg81 => show PySem.W.findIn _ _ _ = _; k_is)
    (case gg82 => show PySem.W.findIn _ _ _ = _; k_is)
    (case gg83 => show PySem.W.findIn _ _ _ = _; k_is)
    (case gg84 => show PySem.W.findIn _ _ _ = _; k_is)
    (case gg85 => show PySem.W.findIn _ _ _ = _; k_is)
    (case gg86 => show PySem.W.findIn _ _ _ = _; k_is)
    (case gg87 => first | kit_is | k_is)
    (case gg88 => first | kit_is | k_is)
    (case gg89 => first | kit_is | k_is)
    (case gg90 => first | kit_is | k_is)
    (case gg91 => first | kit_is | k_is)
    (case gg92 => first | kit_is | k_is)
    (case gg93 => first | kit_is | k_is)
    (case gg94 => first | kit_is | k_is)
    (case gg95 => first | kit_is | k_is)
    (case gg96 => first | kit_is | k_is)
    (case gg97 => first | kit_is | k_is)
    (case gg98 => first | kit_is | k_is)
    (case gg99 => first | kit_is | k_is)
    (case gg100 => first | kit_is | k_is)
    (case gg101 => first | kit_is | k_is)
    (case gg102 => first | kit_is | k_is)
    (case gg103 => first | kit_is | k_is)
    (case gg104 => first | kit_is | k_is)
    (case gg105 => first | kit_is | k_is)
    (case gg106 => first | kit_is | k_is)
    (case gg107 => first | kernel_rfl | decide +kernel | (dsimp only [L2.KOf]; kernel_rfl) | (trace_state; k_is))
    (case gg108 => first | kernel_rfl | decide +kernel | (dsimp only [L2.KOf]; kernel_rfl) | (trace_state; k_is))
    (case gg109 => first | kernel_rfl | decide +kernel | (dsimp only [L2.KOf]; kernel_rfl) | (trace_state; k_is))
    (case gg110 => first | kernel_rfl | decide +kernel | (dsimp only [L2.KOf]; kernel_rfl) | (trace_state; k_is))
    (case gg111 => refine' M.basx ?qx_111 ?qy_111 ?qz_111 ?qw_111; (case qx_111 => k_is); (case qy_111 => k_is); (case qz_111 => k_is); (case qw_111 => k_is))
    (case gg112 => refine' M.inx ?qa_112 ?qi_112 ?ql_112 ?qc_112 ?qk_112; (case qa_112 => k_is); (case qi_112 => k_is); (case ql_112 => k_is); (case qc_112 => k_is); (case qk_112 => k_is))
    (case gg113 => refine' M.clx ?qx_113 ?qy_113 ?qz_113 ?qw_113 ?ql_113 ?qc_113 ?qk_113; (case qx_113 => k_is); (case qy_113 => k_is); (case qz_113 => k_is); (case qw_113 => k_is); (case ql_113 => k_is); (case qc_113 => k_is); (case qk_113 => k_is))
    (case gg114 => refine' M.mkx ?qm_114 ?qn_114 ?qa_114 ?qi_114 ?ql_114 ?qc_114 ?qk_114; (case qm_114 => k_is); (case qn_114 => k_is); (case qa_114 => k_is); (case qi_114 => k_is); (case ql_114 => k_is); (case qc_114 => k_is); (case qk_114 => k_is))
    (case gg115 => refine' M.mkx ?qm_115 ?qn_115 ?qa_115 ?qi_115 ?ql_115 ?qc_115 ?qk_115; (case qm_115 => k_is); (case qn_115 => k_is); (case qa_115 => k_is); (case qi_115 => k_is); (case ql_115 => k_is); (case qc_115 => k_is); (case qk_115 => k_is))
    (case gg116 => refine' M.mkx ?qm_116 ?qn_116 ?qa_116 ?qi_116 ?ql_116 ?qc_116 ?qk_116; (case qm_116 => k_is); (case qn_116 => k_is); (case qa_116 => k_is); (case qi_116 => k_is); (case ql_116 => k_is); (case qc_116 => k_is); (case qk_116 => k_is))
    (case gg117 => refine' M.mkx ?qm_117 ?qn_117 ?qa_117 ?qi_117 ?ql_117 ?qc_117 ?qk_117; (case qm_117 => k_is); (case qn_117 => k_is); (case qa_117 => k_is); (case qi_117 => k_is); (case ql_117 => k_is); (case qc_117 => k_is); (case qk_117 => k_is))
    (case gg118 => refine' M.mthx ?qa_118 ?qi_118 ?ql_118 ?qc_118 ?qk_118; (case qa_118 => k_is); (case qi_118 => k_is); (case ql_118 => k_is); (case qc_118 => k_is); (case qk_118 => k_is))
    (case gg119 => refine' M.mthx ?qa_119 ?qi_119 ?ql_119 ?qc_119 ?qk_119; (case qa_119 => k_is); (case qi_119 => k_is); (case ql_119 => k_is); (case qc_119 => k_is); (case qk_119 => k_is))
    (case gg120 => refine' M.mthx ?qa_120 ?qi_120 ?ql_120 ?qc_120 ?qk_120; (case qa_120 => k_is); (case qi_120 => k_is); (case ql_120 => k_is); (case qc_120 => k_is); (case qk_120 => k_is))
    (case gg121 => refine' M.mthx ?qa_121 ?qi_121 ?ql_121 ?qc_121 ?qk_121; (case qa_121 => k_is); (case qi_121 => k_is); (case ql_121 => k_is); (case qc_121 => k_is); (case qk_121 => k_is))
    (case gg122 => refine' M.mthx ?qa_122 ?qi_122 ?ql_122 ?qc_122 ?qk_122; (case qa_122 => k_is); (case qi_122 => k_is); (case ql_122 => k_is); (case qc_122 => k_is); (case qk_122 => k_is))
    (case gg123 => refine' M.mthx ?qa_123 ?qi_123 ?ql_123 ?qc_123 ?qk_123; (case qa_123 => k_is); (case qi_123 => k_is); (case ql_123 => k_is); (case qc_123 => k_is); (case qk_123 => k_is))
    (case gg124 => refine' M.mthx ?qa_124 ?qi_124 ?ql_124 ?qc_124 ?qk_124; (case qa_124 => k_is); (case qi_124 => k_is); (case ql_124 => k_is); (case qc_124 => k_is); (case qk_124 => k_is))
    (case gg125 => refine' M.mthx ?qa_125 ?qi_125 ?ql_125 ?qc_125 ?qk_125; (case qa_125 => k_is); (case qi_125 => k_is); (case ql_125 => k_is); (case qc_125 => k_is); (case qk_125 => k_is))
