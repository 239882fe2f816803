import PyProof.Rows.All
import Wide.All
import OpenK.AllK
import Wide.FinOn
import Lean
import PyProof.EqAt
import PyProof.EqKinds
import PyProof.TupleCall
import PySem.Challenge.RW_dealknot_k11_entered_and_left
set_option Elab.async false
set_option linter.all false
set_option maxRecDepth 100000
/-! THE HAND LAYER, for ints, bools, texts, own classes, LISTS and tuples (index, slices, in, append, pop ..), calls, loops. Paste it whole ahead of your own text; what your proof does not reach may be deleted. -/
namespace L2
open PySem PySem.Spec PyProof.Rows

/-- a key: an int or a str -/
abbrev Key := Sum Int Str
def keyIs : Key → Value → Bool
  | .inl k, v => Value.isInt k v
  | .inr x, v => Value.isStrOf x v
def keyH (w : World) : Key → Int
  | .inl k => hashInt k
  | .inr x => hashStr w x
theorem keyIs_shape : ∀ {k : Key} {v : Value}, keyIs k v = true → (∃ i t, k = Sum.inl i ∧ v = Value.int i t) ∨ (∃ x t, k = Sum.inr x ∧ v = Value.str x t)
  | .inl i, v, h => by
    obtain ⟨t, e⟩ := Value.isInt_shape (k := i) (v := v) h
    exact .inl ⟨i, t, rfl, e⟩
  | .inr x, v, h => by
    obtain ⟨t, e⟩ := Value.isStrOf_shape (x := x) (v := v) h
    exact .inr ⟨x, t, rfl, e⟩
theorem keyIs_int (i : Int) (t : Tok) : keyIs (.inl i) (.int i t) = true := by simp [keyIs, Value.isInt]
theorem keyIs_str (x : Str) (t : Tok) : keyIs (.inr x) (.str x t) = true := by simp [keyIs, Value.isStrOf]
theorem key_ll (a b : Int) : decide ((Sum.inl a : Key) = Sum.inl b) = (a == b) := by
  by_cases e : a = b
  · subst e; simp
  · have h : ¬ (Sum.inl a : Key) = Sum.inl b := fun q => e (Sum.inl.inj q)
    rw [decide_eq_false h]
    exact (beq_eq_false_iff_ne.mpr e).symm
theorem key_rr (a b : Str) : decide ((Sum.inr a : Key) = Sum.inr b) = decide (a = b) := by
  by_cases e : a = b
  · subst e; simp
  · have h : ¬ (Sum.inr a : Key) = Sum.inr b := fun q => e (Sum.inr.inj q)
    rw [decide_eq_false h, decide_eq_false e]
theorem key_lr (a : Int) (b : Str) : decide ((Sum.inl a : Key) = Sum.inr b) = false := decide_eq_false (fun q => nomatch q)
theorem key_rl (a : Str) (b : Int) : decide ((Sum.inr a : Key) = Sum.inl b) = false := decide_eq_false (fun q => nomatch q)

def mixKind (prog : Program) (w : World) : PySem.KeyKind prog w Key where
  is := keyIs
  hash := keyH w
  inj := fun v a b ha hb => by
    rcases keyIs_shape ha with ⟨i, t, rfl, rfl⟩ | ⟨x, t, rfl, rfl⟩
    · rcases keyIs_shape hb with ⟨j, u, rfl, e⟩ | ⟨y, u, rfl, e⟩
      · injection e with e1 _; rw [e1]
      · exact nomatch e
    · rcases keyIs_shape hb with ⟨j, u, rfl, e⟩ | ⟨y, u, rfl, e⟩
      · exact nomatch e
      · injection e with e1 _; rw [e1]
  byValue := fun k v h => by
    rcases keyIs_shape h with ⟨i, t, rfl, rfl⟩ | ⟨x, t, rfl, rfl⟩ <;> rfl
  pyHash := fun hv h => by
    rcases keyIs_shape hv with ⟨i, t, rfl, rfl⟩ | ⟨x, t, rfl, rfl⟩
    · exact wpAny_pyHash_int h
    · exact wpAny_pyHash_str h
  eqBool := fun hu hv h => by
    rcases keyIs_shape hu with ⟨i, t, rfl, rfl⟩ | ⟨x, t, rfl, rfl⟩
    · rcases keyIs_shape hv with ⟨j, u, rfl, rfl⟩ | ⟨y, u, rfl, rfl⟩
      · rw [key_ll] at h; exact wpAny_eqBool_int h
      · rw [key_lr] at h; exact SeqAt.EqAt.int_str i t y u _ _ _ _ h
    · rcases keyIs_shape hv with ⟨j, u, rfl, rfl⟩ | ⟨y, u, rfl, rfl⟩
      · rw [key_rl] at h; exact SeqAt.EqAt.str_int x t j u _ _ _ _ h
      · rw [key_rr] at h; exact wpAny_eqBool_str h
  «strs» := fun k x t v h => by
    rcases keyIs_shape h with ⟨i, u, rfl, e⟩ | ⟨y, u, rfl, e⟩
    · exact nomatch e
    · injection e with e1 _
      subst e1
      cases v <;> rfl

theorem mixKind_is (prog : Program) (w : World) (k : Key) (v : Value) : (mixKind prog w).is k v = keyIs k v := rfl
theorem mixKind_int (prog : Program) (w : World) (i : Int) (t : Tok) : (mixKind prog w).is (.inl i) (.int i t) = true := keyIs_int i t
theorem mixKind_str (prog : Program) (w : World) (x : Str) (t : Tok) : (mixKind prog w).is (.inr x) (.str x t) = true := keyIs_str x t
end L2

namespace L2
open PySem PySem.Spec PyProof.Rows

/-- a value, without the heap -/
inductive V where
  | non | bl (b : Bool) | int (i : Int) | str (x : Str) | byt (b : Array UInt8) | flt (b : UInt64) | ref (a : Addr) | ty (n : String)
  deriving DecidableEq

def RelV : V → Value → Prop
  | .non, u => u = Value.none
  | .bl b, u => u = Value.bool b
  | .int i, u => ∃ t, u = Value.int i t
  | .str x, u => ∃ t, u = Value.str x t
  | .byt b, u => ∃ t, u = Value.bytes b t
  | .flt b, u => ∃ t, u = Value.float b t
  | .ref a, u => u = Value.ref a
  | .ty n, u => u = Value.type n

abbrev Vals : List V → List Value → Prop := Paired RelV
theorem Vals.length {xs : List V} {us : List Value} (r : Vals xs us) : xs.length = us.length := Paired.length r
theorem Vals.get : ∀ {xs : List V} {us : List Value} {i : Nat} {x : V}, Vals xs us → xs[i]? = some x → ∃ u, us[i]? = some u ∧ RelV x u
  | _, _, _, _, .nil, e => by simp at e
  | _, _, 0, _, .cons r _, e => by simp at e; subst e; exact ⟨_, rfl, r⟩
  | _, _, i + 1, x, .cons _ t, e => by
    obtain ⟨u, h1, h2⟩ := Vals.get (i := i) (x := x) t (by simpa using e)
    exact ⟨u, by simpa using h1, h2⟩
theorem Vals.set {x : V} {u : Value} (r : RelV x u) : ∀ {xs : List V} {us : List Value} (i : Nat), Vals xs us → Vals (xs.set i x) (us.set i u)
  | _, _, _, .nil => .nil
  | _, _, 0, .cons _ t => .cons r t
  | _, _, i + 1, .cons q t => .cons q (Vals.set r i t)
theorem Vals.append : ∀ {xs ys : List V} {us ws : List Value}, Vals xs us → Vals ys ws → Vals (xs ++ ys) (us ++ ws)
  | _, _, _, _, .nil, s => s
  | _, _, _, _, .cons r t, s => .cons r (Vals.append t s)
theorem Vals.take : ∀ {xs : List V} {us : List Value} (n : Nat), Vals xs us → Vals (xs.take n) (us.take n)
  | _, _, 0, _ => .nil
  | _, _, _ + 1, .nil => .nil
  | _, _, n + 1, .cons r t => .cons r (Vals.take n t)
theorem Vals.drop : ∀ {xs : List V} {us : List Value} (n : Nat), Vals xs us → Vals (xs.drop n) (us.drop n)
  | _, _, 0, r => r
  | _, _, _ + 1, .nil => .nil
  | _, _, n + 1, .cons _ t => Vals.drop n t
theorem Vals.none_of : ∀ {xs : List V} {us : List Value} {i : Nat}, Vals xs us → xs[i]? = none → us[i]? = none := fun {xs us i} r e => by
  have h1 := r.length
  have h2 : xs.length ≤ i := List.getElem?_eq_none_iff.mp e
  exact List.getElem?_eq_none_iff.mpr (by omega)

def RelO : Option V → Option Value → Prop
  | some v, some u => RelV v u
  | none, none => True
  | _, _ => False
def KV {κ : Type} : List (κ × V) → List (κ × Value) → Prop := Paired fun (p : κ × V) (q : κ × Value) => p.1 = q.1 ∧ RelV p.2 q.2

/-- a key of a dict (00_mix): an int or a text -/
def kV : Key → V
  | .inl i => .int i
  | .inr x => .str x

/-- a key of a dict: an int, a text, or a tuple of such -/
abbrev KD := Sum Key (List Key)
def hashX (P : Program) (w : World) : KD → Int
  | .inl k => (mixKind P w).hash k
  | .inr ks => tupleKeyHash (mixKind P w) ks
def entX (P : Program) (w : World) (x : KD × Value × Value) : DictEntry := ⟨hashX P w x.1, x.2.1, x.2.2⟩
/-- what stands at a tracked address -/
inductive HO where
  /-- a list -/
  | lst (xs : List V)
  /-- a tuple (never changes) -/
  | tup (xs : List V)
  /-- a dict whose keys are ints and texts; one whose keys are tuples of ints and texts (the empty one is both) -/
  | dK (kvs : List (Key × V)) | dT (kvs : List (List Key × V))
  /-- a dict with any keys of these -/
  | dX (ep : Nat) (kvs : List (KD × V))
  /-- a set of ints: its members, its size -/
  | set (S : Int → Bool) (n : Nat)
  /-- an instance of the class at C, its dict at dx, its attributes -/
  | ins (C dx : Addr) (fs : List (Str × V))
  /-- the dict of the instance at x -/
  | own (x : Addr)
  /-- the dict of an exception -/
  | xd (fs : List (Str × V))
  /-- a bound method, f of x -/
  | met (f x : Addr)
  /-- a range object lo, lo + 1, .. below hi -/
  | rng (lo hi : Int)
  /-- a thing that is known to the object (the script; a dict while a loop walks it): read, never written while it is so -/
  | frz (o : Obj) (u : HO)
  /-- a code object's table -/
  | tbl (ps : Array Value)
  /-- any other thing, by what is true of its one object (a def of one's own: SetO a S n := HO.ext fun h => ..) -/
  | ext (φ : Heap → Prop)

abbrev Hp := Addr → Option HO
def upd (H : Hp) (a : Addr) (o : HO) : Hp := fun b => if b = a then some o else H b
theorem upd_same {H : Hp} {a : Addr} {o : HO} : upd H a o a = some o := by unfold upd; rw [if_pos rfl]
theorem upd_ne {H : Hp} {a b : Addr} {o : HO} (h : b ≠ a) : upd H a o b = H b := by unfold upd; rw [if_neg h]
theorem upd_upd {H : Hp} {a : Addr} {o u : HO} : upd (upd H a o) a u = upd H a u := by
  funext b; unfold upd; split <;> rfl
/-- two objects of different content stand apart -/
theorem ne_of {H : Hp} {a b : Addr} {o u : HO} (h : H a = some o) (h' : H b = some u) (d : o ≠ u) : a ≠ b := by
  intro e; subst e; rw [h] at h'; exact d (Option.some.inj h')
theorem ne_of_none {H : Hp} {a b : Addr} {o : HO} (h : H a = some o) (h' : H b = none) : a ≠ b := by
  intro e; subst e; rw [h] at h'; cases h'

def KeyU (H : Hp) : KD → Value → Prop
  | .inl k, u => keyIs k u = true
  | .inr ks, u => ∃ b, u = Value.ref b ∧ H b = some (.tup (ks.map kV))
abbrev KX (H : Hp) : List (KD × V) → List (KD × Value × Value) → Prop := Paired fun (p : KD × V) (q : KD × Value × Value) => p.1 = q.1 ∧ KeyU H p.1 q.2.1 ∧ RelV p.2 q.2.2
section
variable (P : Program) (w : World)
def ObjOk (H : Hp) (h : Heap) (a : Addr) : HO → Prop
  | .lst xs => xs.length ≤ sizeLine ∧ ∃ (its : List Value) (n : Nat), Vals xs its ∧ h.get? a = some { cls := .type "list", data := .seq its.toArray n }
  | .tup xs => xs.length ≤ sizeLine ∧ ∃ its : List Value, Vals xs its ∧ IsTup h a its.toArray
  | .dK kvs => kvs.length ≤ sizeLine ∧ (a == sysModules) = false ∧ ∃ vs, KV kvs vs ∧ h.DictOf (mixKind P w) a vs
  | .dT kvs => kvs.length ≤ sizeLine ∧ (a == sysModules) = false ∧ ∃ xs : List (List Key × Addr × Value),
      Paired (fun (p : List Key × V) (q : List Key × Addr × Value) => p.1 = q.1 ∧ H q.2.1 = some (.tup (p.1.map kV)) ∧ RelV p.2 q.2.2) kvs xs ∧
      ∃ o es ep, h.get? a = some o ∧ o.ExactDict ∧ o.data = .dict es ep ∧ es.toList = xs.map (entryOfKey (tupleKind (mixKind P w))) ∧ (xs.map (·.1)).Nodup
  | .dX ep kvs => kvs.length ≤ sizeLine ∧ (a == sysModules) = false ∧ ∃ xs : List (KD × Value × Value), KX H kvs xs ∧
      ∃ o es, h.get? a = some o ∧ o.ExactDict ∧ o.data = .dict es ep ∧ es.toList = xs.map (entX P w) ∧ (xs.map (·.1)).Nodup
  | .set S n => h.SetOf (intKind P w) a S n
  | .ins C dx fs => H dx = some (.own a) ∧ fs.length ≤ 1000 ∧ dx ≠ a ∧ h.get? a = some (PySem.W.instObj C dx) ∧
      ∃ mA, h.Ns1 dx mA ∧ (∀ f, RelO (fs.lookup f) (mA f)) ∧ PySem.Within mA (fs.map (·.1))
  | .own _ => ∃ o, h.get? a = some o
  | .xd fs => ∃ mA, h.Ns1 a mA ∧ ∀ f, RelO (fs.lookup f) (mA f)
  | .rng lo hi => ∃ t u v, h.get? a = some { cls := .type "range", data := .fields #[.int lo t, .int hi u, .int 1 v] }
  | .frz o u => h.get? a = some o ∧ ObjOk H h a u
  | .tbl ps => h.get? a = some { cls := .none, data := .fields ps }
  | .met f x => h.get? a = some (PySem.W.methodObj (.ref f) (.ref x))
  | .ext φ => φ h ∧ (∃ o, h.get? a = some o) ∧ ∀ h1 h2 : Heap, φ h1 → (∀ o, h1.get? a = some o → h2.get? a = some o) → φ h2
/-- the abstract heap is held -/
def HOk (H : Hp) (h : Heap) : Prop := ∀ a o, H a = some o → ObjOk P w H h a o
end

section
variable {P : Program} {w : World} {H H' : Hp} {h h' : Heap} {a : Addr} {o : HO}
theorem ObjOk.lt (x : ObjOk P w H h a o) : a < h.objs.size := by
  cases o with
  | lst xs => obtain ⟨_, _, _, _, e⟩ := x; exact Heap.lt_size e
  | tup xs => obtain ⟨_, _, _, p⟩ := x; exact p.lt
  | dK kvs => obtain ⟨_, _, _, _, o, _, _, e, _⟩ := x; exact Heap.lt_size e
  | dT kvs => obtain ⟨_, _, _, _, o, _, _, e, _⟩ := x; exact Heap.lt_size e
  | dX ep kvs => obtain ⟨_, _, _, _, o, _, e, _⟩ := x; exact Heap.lt_size e
  | set S n => obtain ⟨o, _, _, _, e, _⟩ := x; exact Heap.lt_size e
  | ins C dx fs => obtain ⟨_, _, _, e, _⟩ := x; exact Heap.lt_size e
  | own y => obtain ⟨_, e⟩ := x; exact Heap.lt_size e
  | xd fs => obtain ⟨_, ⟨_, _, _, e, _⟩, _⟩ := x; exact Heap.lt_size e
  | rng lo hi => obtain ⟨_, _, _, e⟩ := x; exact Heap.lt_size e
  | frz ob u => obtain ⟨e, _⟩ := x; exact Heap.lt_size e
  | tbl ps => exact Heap.lt_size (show h.get? a = some _ from x)
  | met f y => exact Heap.lt_size (show h.get? a = some _ from x)
  | ext φ => obtain ⟨_, ⟨_, e⟩, _⟩ := x; exact Heap.lt_size e
theorem Paired.mapP {α β : Type} {F G : α → β → Prop} : ∀ {l₁ : List α} {l₂ : List β}, Paired F l₁ l₂ → (∀ a b, F a b → G a b) → Paired G l₁ l₂
  | _, _, .nil, _ => .nil
  | _, _, .cons r t, f => .cons (f _ _ r) (Paired.mapP t f)
theorem Paired.imp' {α β : Type} {F G : α → β → Prop} (f : ∀ a b, F a b → G a b) {l₁ : List α} {l₂ : List β} (r : Paired F l₁ l₂) : Paired G l₁ l₂ := Paired.mapP r f
/-- what an object's description leans on: its own object, its own dict, the tuples -/
theorem ObjOk.stay (x : ObjOk P w H h a o) (k : ∀ b u, (b = a ∨ H b = some (.own a)) → h.get? b = some u → h'.get? b = some u)
    (ho : ∀ b, H b = some (.own a) → H' b = some (.own a)) (ht : ∀ b xs, H b = some (.tup xs) → H' b = some (.tup xs)) : ObjOk P w H' h' a o := by
  induction o with
  | lst xs => obtain ⟨z, its, n, r, e⟩ := x; exact ⟨z, its, n, r, k _ _ (.inl rfl) e⟩
  | tup xs => obtain ⟨z, its, r, ob, e, c⟩ := x; exact ⟨z, its, r, ob, k _ _ (.inl rfl) e, c⟩
  | dK kvs => obtain ⟨z, y, vs, r, ob, es, ep, e, c⟩ := x; exact ⟨z, y, vs, r, ob, es, ep, k _ _ (.inl rfl) e, c⟩
  | dT kvs =>
    obtain ⟨z, y, xs, r, ob, es, ep, e, c⟩ := x
    exact ⟨z, y, xs, Paired.mapP r fun p q z => ⟨z.1, ht _ _ z.2.1, z.2.2⟩, ob, es, ep, k _ _ (.inl rfl) e, c⟩
  | dX ep kvs =>
    obtain ⟨z, y, xs, r, ob, es, e, c⟩ := x
    refine ⟨z, y, xs, Paired.mapP r fun p q z => ⟨z.1, ?_, z.2.2⟩, ob, es, k _ _ (.inl rfl) e, c⟩
    have z2 := z.2.1
    cases hp : p.1 with
    | inl k => rw [hp] at z2; exact z2
    | inr ks => rw [hp] at z2; obtain ⟨b, e1, e2⟩ := z2; exact ⟨b, e1, ht _ _ e2⟩
  | set S n => obtain ⟨ob, es, ep, t, e, c⟩ := x; exact ⟨ob, es, ep, t, k _ _ (.inl rfl) e, c⟩
  | ins C dx fs =>
    obtain ⟨d, z, ne, e, mA, ⟨od, es, ep, e2, c⟩, r⟩ := x
    exact ⟨ho _ d, z, ne, k _ _ (.inl rfl) e, mA, ⟨od, es, ep, k _ _ (.inr d) e2, c⟩, r⟩
  | own y => obtain ⟨ob, e⟩ := x; exact ⟨ob, k _ _ (.inl rfl) e⟩
  | xd fs => obtain ⟨mA, ⟨od, es, ep, e, c⟩, r⟩ := x; exact ⟨mA, ⟨od, es, ep, k _ _ (.inl rfl) e, c⟩, r⟩
  | rng lo hi => obtain ⟨t, u, v, e⟩ := x; exact ⟨t, u, v, k _ _ (.inl rfl) e⟩
  | frz ob u ih => obtain ⟨e, q⟩ := x; exact ⟨k _ _ (.inl rfl) e, ih q⟩
  | tbl ps =>
    have e : h.get? a = some { cls := .none, data := .fields ps } := x
    show h'.get? a = some { cls := .none, data := .fields ps }
    exact k a _ (.inl rfl) e
  | met f y =>
    have e : h.get? a = some (PySem.W.methodObj (.ref f) (.ref y)) := x
    show h'.get? a = some (PySem.W.methodObj (.ref f) (.ref y))
    exact k a _ (.inl rfl) e
  | ext φ => obtain ⟨p, ⟨o, e⟩, st⟩ := x; exact ⟨st _ _ p fun o q => k _ _ (.inl rfl) q, ⟨o, k _ _ (.inl rfl) e⟩, st⟩
theorem HOk.lt (x : HOk P w H h) (e : H a = some o) : a < h.objs.size := (x a o e).lt
theorem HOk.fresh (x : HOk P w H h) (e : h.objs.size ≤ a) : H a = none := by
  cases q : H a with
  | none => rfl
  | some u => exact absurd (Nat.lt_of_lt_of_le (x.lt q) e) (Nat.lt_irrefl _)
/-- every object of the heap is kept -/
theorem HOk.kept (x : HOk P w H h) (k : ∀ b u, h.get? b = some u → h'.get? b = some u) : HOk P w H h' := fun a o e =>
  (x a o e).stay (fun b u _ q => k b u q) (fun _ q => q) fun _ _ q => q
/-- a new object is laid and tracked -/
theorem HOk.laid (x : HOk P w H h) (k : ∀ b u, h.get? b = some u → h'.get? b = some u) (hp : h.objs.size ≤ a) (new : ObjOk P w (upd H a o) h' a o) : HOk P w (upd H a o) h' := fun b u e => by
  have hn := x.fresh hp
  by_cases hb : b = a
  · subst hb; rw [upd_same] at e; cases e; exact new
  · rw [upd_ne hb] at e
    exact (x b u e).stay (fun c v _ q => k c v q) (fun c q => by rw [upd_ne (ne_of_none q hn)]; exact q) fun c xs q => by rw [upd_ne (ne_of_none q hn)]; exact q
end

/-- what may be read as u: it is u, or a known u -/
def Rd (H : Hp) (a : Addr) (u : HO) : Prop := H a = some u ∨ ∃ o, H a = some (.frz o u)
theorem Rd.of {H : Hp} {a : Addr} {u : HO} (h : H a = some u) : Rd H a u := .inl h
theorem Rd.ok {P : Program} {w : World} {H : Hp} {h : Heap} {a : Addr} {u : HO} (r : Rd H a u) (x : HOk P w H h) : ObjOk P w H h a u := by
  rcases r with r | ⟨o, r⟩
  · exact x a u r
  · obtain ⟨_, q⟩ := x a _ r
    exact q
/-- what may be written -/
def Mut : Option HO → Prop
  | some (.lst _) => True
  | some (.dK _) => True
  | some (.dT _) => True
  | some (.dX _ _) => True
  | some (.set _ _) => True
  | some (.ins _ _ _) => True
  | some (.ext _) => True
  | _ => False
section
variable {P : Program} {w : World} {H : Hp} {h h' : Heap} {x e : Addr} {o' : HO}
/-- the object at e is changed: x itself, or the dict of the instance x -/
theorem HOk.write (ok : HOk P w H h) (mu : Mut (H x)) (he : e = x ∨ H e = some (.own x)) (k : ∀ b u, b ≠ e → h.get? b = some u → h'.get? b = some u) (heo : ∃ u, h'.get? e = some u)
    (new : ObjOk P w (upd H x o') h' x o') : HOk P w (upd H x o') h' := fun b u q => by
  have nown : ∀ c y, H c = some (.own y) → c ≠ x := fun c y r z => by subst z; rw [r] at mu; exact mu
  have ntup : ∀ c xs, H c = some (.tup xs) → c ≠ x := fun c xs r z => by subst z; rw [r] at mu; exact mu
  by_cases hb : b = x
  · subst hb; rw [upd_same] at q; cases q; exact new
  · rw [upd_ne hb] at q
    by_cases hbe : b = e
    · have q' : H b = some (.own x) := by
        rcases he with z | z
        · exact absurd (hbe.trans z) hb
        · rw [hbe]; exact z
      rw [q] at q'; cases q'
      obtain ⟨v, hv⟩ := heo
      exact ⟨v, by rw [hbe]; exact hv⟩
    · refine (ok b u q).stay (fun c v hc r => k c v ?_ r) (fun c r => by rw [upd_ne (nown c b r)]; exact r) fun c xs r => by rw [upd_ne (ntup c xs r)]; exact r
      rcases hc with rfl | hc
      · exact hbe
      · rintro rfl
        rcases he with z | z
        · exact nown c b hc z
        · rw [hc] at z; cases z; exact hb rfl
end

/-! ### kept unless tracked; of the frames at fs (the callers') the slots may change (an exception that passes writes there); of the records at ex (iterators) nothing is said -/
structure Un (fs ex : List Addr) (H H' : Hp) (h h' : Heap) : Prop where
  keep : ∀ b o, h.get? b = some o → H b = none → b ∉ fs → b ∉ ex → h'.get? b = some o
  slot : ∀ b o, h.get? b = some o → H b = none → b ∈ fs → b ∉ ex → ∃ sl, h'.get? b = some { o with slots := sl }
  free : ∀ b o, h.get? b = some o → H b = none → b ∉ ex → H' b = none
  there : ∀ b o, h.get? b = some o → b ∉ ex → ∃ o', h'.get? b = some o'
  tups : ∀ b xs, H b = some (.tup xs) → H' b = some (.tup xs)
  frzs : ∀ b o u, H b = some (.frz o u) → H' b = some (.frz o u)
  tbls : ∀ b ps, H b = some (.tbl ps) → ∃ more, H' b = some (.tbl (ps ++ more))
section
variable {fs fs' ex ex' : List Addr} {H H1 H2 : Hp} {h h1 h2 h' : Heap} {a x e : Addr} {o : HO}
theorem Un.any (u : Un fs ex H H1 h h1) {b : Addr} {ob : Obj} (q : h.get? b = some ob) (n : H b = none) (hx : b ∉ ex) : ∃ sl, h1.get? b = some { ob with slots := sl } := by
  by_cases hb : b ∈ fs
  · exact u.slot b ob q n hb hx
  · exact ⟨ob.slots, u.keep b ob q n hb hx⟩
theorem Un.trans (a : Un fs ex H H1 h h1) (b : Un fs ex H1 H2 h1 h2) : Un fs ex H H2 h h2 where
  keep := fun c ob q n hc hx => b.keep c ob (a.keep c ob q n hc hx) (a.free c ob q n hx) hc hx
  slot := fun c ob q n hc hx => by
    obtain ⟨sl, e1⟩ := a.slot c ob q n hc hx
    obtain ⟨sl', e2⟩ := b.slot c _ e1 (a.free c ob q n hx) hc hx
    exact ⟨sl', e2⟩
  free := fun c ob q n hx => by
    obtain ⟨o', e1⟩ := a.there c ob q hx
    exact b.free c o' e1 (a.free c ob q n hx) hx
  there := fun c ob q hx => by
    obtain ⟨o', e1⟩ := a.there c ob q hx
    exact b.there c o' e1 hx
  tups := fun c xs q => b.tups c xs (a.tups c xs q)
  frzs := fun c ob xs q => b.frzs c ob xs (a.frzs c ob xs q)
  tbls := fun c ps q => by
    obtain ⟨m1, e1⟩ := a.tbls c ps q
    obtain ⟨m2, e2⟩ := b.tbls c _ e1
    exact ⟨m1 ++ m2, by rw [e2, Array.append_assoc]⟩
theorem Un.kept (k : ∀ b u, h.get? b = some u → h'.get? b = some u) : Un fs ex H H h h' :=
  ⟨fun b ob q _ _ _ => k b ob q, fun b ob q _ _ _ => ⟨ob.slots, k b ob q⟩, fun _ _ _ n _ => n, fun b ob q _ => ⟨ob, k b ob q⟩, fun _ _ q => q, fun _ _ _ q => q, fun _ ps q => ⟨#[], by rw [q]; simp⟩⟩
theorem Un.refl : Un fs ex H H h h := Un.kept fun _ _ q => q
theorem Un.laid (k : ∀ b u, h.get? b = some u → h'.get? b = some u) (hp : h.objs.size ≤ a) (hn : H a = none) : Un fs ex H (upd H a o) h h' where
  keep := fun b u q _ _ _ => k b u q
  slot := fun b u q _ _ _ => ⟨u.slots, k b u q⟩
  free := fun b u q n _ => by rw [upd_ne (Nat.ne_of_lt (Nat.lt_of_lt_of_le (Heap.lt_size q) hp))]; exact n
  there := fun b u q _ => ⟨u, k b u q⟩
  tups := fun b xs q => by rw [upd_ne (ne_of_none q hn)]; exact q
  frzs := fun b u xs q => by rw [upd_ne (ne_of_none q hn)]; exact q
  tbls := fun b ps q => ⟨#[], by rw [upd_ne (ne_of_none q hn), q]; simp⟩
theorem Un.write (mu : Mut (H x)) (he : e = x ∨ H e = some (.own x)) (k : ∀ b u, b ≠ e → h.get? b = some u → h'.get? b = some u) (heo : ∃ u, h'.get? e = some u) : Un fs ex H (upd H x o) h h' := by
  have hx : ∀ b, H b = none → b ≠ x := fun b n z => by subst z; rw [n] at mu; exact mu
  have hb : ∀ b, H b = none → b ≠ e := fun b n z => by
    subst z
    rcases he with r | r
    · exact hx b n r
    · rw [n] at r; cases r
  have hm : ∀ b u, H b = some u → ¬ Mut (some u) → b ≠ x := fun b u q nm z => by subst z; rw [q] at mu; exact nm mu
  refine ⟨fun b u q n _ _ => k b u (hb b n) q, fun b u q n _ _ => ⟨u.slots, k b u (hb b n) q⟩, fun b u q n _ => by rw [upd_ne (hx b n)]; exact n, fun b u q _ => ?_,
    fun b xs q => by rw [upd_ne (hm b _ q fun z => z)]; exact q, fun b u xs q => by rw [upd_ne (hm b _ q fun z => z)]; exact q, fun b ps q => ⟨#[], by rw [upd_ne (hm b _ q fun z => z), q]; simp⟩⟩
  by_cases hbe : b = e
  · subst hbe; exact heo
  · exact ⟨u, k b u hbe q⟩
theorem Un.mono (u : Un fs ex H H1 h h1) (hs : ∀ b ∈ fs, b ∈ fs') (hx : ∀ b ∈ ex, b ∈ ex') : Un fs' ex' H H1 h h1 :=
  ⟨fun b ob q n hb he => u.keep b ob q n (fun z => hb (hs b z)) fun z => he (hx b z), fun _ _ q n _ he => u.any q n fun z => he (hx _ z), fun b ob q n he => u.free b ob q n fun z => he (hx b z), fun b ob q he => u.there b ob q fun z => he (hx b z), u.tups, u.frzs, u.tbls⟩
end

/-! ### the heap without what is tracked -/
def trk (h : Heap) (H : Hp) : List Addr := (List.range h.objs.size).filter fun a => (H a).isSome
def hidT (h : Heap) (H : Hp) : Heap := PySem.W.hideAll h (trk h H)
theorem hidT_size (h : Heap) (H : Hp) : (hidT h H).objs.size = h.objs.size := PySem.W.hideAll_size _ _
theorem hidT_get {h : Heap} {H : Hp} {b : Addr} {o : Obj} (e : h.get? b = some o) (n : H b = none) : (hidT h H).get? b = some o :=
  PySem.W.hideAll_get _ e fun hm => by
    have q : (H b).isSome = true := (List.mem_filter.mp hm).2
    rw [n] at q; simp at q
theorem of_hidT {h : Heap} {H : Hp} {b : Addr} {o : Obj} (e : (hidT h H).get? b = some o) : h.get? b = some o ∧ H b = none := by
  have e' : h.get? b = some o := PySem.W.of_hideAll (trk h H) e
  refine ⟨e', ?_⟩
  cases q : H b with
  | none => rfl
  | some x =>
    have hm : b ∈ trk h H := List.mem_filter.mpr ⟨List.mem_range.mpr (Heap.lt_size e'), by simp [q]⟩
    have z : (hidT h H).get? b = none := PySem.W.hideAll_none (trk h H) hm
    rw [z] at e; cases e

/-! ### OpenK's ledger, filled with every new object but one -/
def allNews (g h : Heap) (L : Addr) : List (Addr × Obj) := (List.range h.objs.size).filterMap fun a => if a = L ∨ (g.get? a).isSome = true then none else (h.get? a).map fun o => (a, o)
theorem mem_allNews {g h : Heap} {L a : Addr} {o : Obj} (h1 : a ≠ L) (h2 : g.get? a = none) (h3 : h.get? a = some o) : (a, o) ∈ allNews g h L :=
  List.mem_filterMap.mpr ⟨a, List.mem_range.mpr (Heap.lt_size h3), by simp [h1, h2, h3]⟩
theorem of_mem_allNews {g h : Heap} {L : Addr} {p : Addr × Obj} (hp : p ∈ allNews g h L) : p.1 ≠ L ∧ g.get? p.1 = none ∧ h.get? p.1 = some p.2 := by
  obtain ⟨b, _, e⟩ := List.mem_filterMap.mp hp
  split at e
  · cases e
  · rename_i hn
    cases q : h.get? b with
    | none => rw [q] at e; simp at e
    | some u =>
      rw [q] at e
      simp only [Option.map_some, Option.some.injEq] at e
      subst e
      refine ⟨fun z => hn (.inl z), ?_, q⟩
      show g.get? b = none
      cases r : g.get? b with
      | none => rfl
      | some v => exact (hn (.inr (by simp [r]))).elim
def rest (g h : Heap) (L d : Addr) : List (Addr × Obj) := (allNews g h L).filter fun p => decide (p.1 ≠ d)
theorem rest_ne {g h : Heap} {L d : Addr} : ∀ p ∈ rest g h L d, p.1 ≠ d := fun p hp => of_decide_eq_true (List.mem_filter.mp hp).2
theorem mem_rest {g h : Heap} {L d a : Addr} {o : Obj} (h1 : a ≠ L) (h2 : g.get? a = none) (h3 : h.get? a = some o) (h4 : a ≠ d) : (a, o) ∈ rest g h L d :=
  List.mem_filter.mpr ⟨mem_allNews h1 h2 h3, decide_eq_true h4⟩
theorem news_all {g h : Heap} {L : Addr} : News g L h (allNews g h L) := fun p hp => let ⟨a, b, c⟩ := of_mem_allNews hp; ⟨c, a, b⟩
theorem news_at {g h : Heap} {L d : Addr} {o : Obj} (h1 : d ≠ L) (h2 : g.get? d = none) (h3 : h.get? d = some o) : News g L h ((d, o) :: rest g h L d) := fun p hp => by
  rcases List.mem_cons.mp hp with rfl | hp
  · exact ⟨h3, h1, h2⟩
  · exact news_all p (List.mem_filter.mp hp).1
/-- behind a rule that changed d alone: all else but the frame is kept -/
theorem kept_of_news {g h h' : Heap} {L d : Addr} {m : Str → Option Value} (k : ∀ b o, g.get? b = some o → h.get? b = some o) (F : Fr g L h' m) (N : News g L h' (rest g h L d)) :
    ∀ b o, b ≠ L → b ≠ d → h.get? b = some o → h'.get? b = some o := fun b o h1 h2 e => by
  cases q : g.get? b with
  | some u =>
    have := k b u q
    rw [e] at this; cases this
    exact F.keep b _ q
  | none => exact (N (b, o) (mem_rest h1 q e h2)).1
end L2

namespace L2
open PySem PySem.Spec PyProof.Rows

/-- the module's facts, over the base: the heap at the law's entry without what is tracked there -/
structure Mod (K : PySem.W.Frag) (mg : Str → Option Value) (base : Heap) : Prop where
  kin : K.In base
  glob : base.Ns mainGlobals mg
  blt : ∃ mb, base.Ns builtinsNs mb ∧ ∀ x : Str, x ≠ "__name__" → mb x = bootBuiltins x
  nolimit : base.NoLimit

/-- the context: a def's body (or a comprehension's block) running. base: fixed through the whole law; s₀, H₀: the entry; outer: the frames whose slots others may change (a def's callers); stack: all frames that run;
   ex: iterators that were made ahead of the entry and are walked here (a comprehension's); fn: the names whose cells were made at the entry (a def: all; a comprehension's block: its own); calm: not within an except suite; pn: pins that every state bears; xe: what is wanted of an exception that leaves the code -/
structure Cx where
  prog : Program
  w : World
  K : PySem.W.Frag
  mg : Str → Option Value
  base : Heap
  A : Around
  N : List Str
  s₀ : Shared
  H₀ : Hp
  env : Env
  outer : List Env
  stack : List Env
  ex : List Addr
  fn : Str → Bool
  calm : Bool
  pn : List (Addr × Obj)
  xe : Value → Shared → Prop
/-- the callers' frames -/
def frs (l : List Env) : List Addr := l.filterMap (·.frame)
abbrev Cx.fs (X : Cx) : List Addr := frs X.outer

def Vis (sc : Scope) (x : Str) : Prop := sc.names.lookup x = some .local ∨ sc.names.lookup x = some .cell ∨ sc.names.lookup x = some .free
def Loc (sc : Scope) (x : Str) : Prop := sc.names.lookup x = some .local ∨ sc.names.lookup x = some .cell
def Look (env : Env) (h : Heap) (m : Str → Option Value) (x : Str) (u : Value) : Prop :=
  (env.kindOf x = some .local ∧ m x = some u) ∨ ((env.kindOf x = some .cell ∨ env.kindOf x = some .free) ∧ ∃ c, env.cells.lookup x = some c ∧ h.IsCell c (some u))

structure Cx.Ok (X : Cx) : Prop where
  mod : Mod X.K X.mg X.base
  kind : X.env.scope.kind = .function
  glob : X.env.globals = mainGlobals
  blt : X.env.builtins = builtinsNs
  above : X.s₀.heap.objs.size ≤ X.env.locals
  inj : ∀ x y c, X.env.cells.lookup x = some c → X.env.cells.lookup y = some c → x = y
  has : ∀ x, (X.env.kindOf x = some .cell ∨ X.env.kindOf x = some .free) → ∃ c, X.env.cells.lookup x = some c
  cab : ∀ x c, X.fn x = true → X.env.cells.lookup x = some c → X.s₀.heap.objs.size ≤ c
  hd : X.calm = true → X.A.handled = none
  frames : X.A.frames = some X.stack
  stk : X.stack = X.outer ∨ (X.stack = X.env :: X.outer ∧ X.env.frame = some X.env.locals)
  exf : ∀ b ∈ X.ex, b ≠ X.env.locals ∧ ∀ x c, X.env.cells.lookup x = some c → c ≠ b
  bs : ∀ b o, X.base.get? b = some o → X.s₀.heap.get? b = some o ∧ X.H₀ b = none
  bsz : X.base.objs.size ≤ X.s₀.heap.objs.size
  noex : ∀ b o, X.base.get? b = some o → b ∉ X.ex
  exfs : ∀ b ∈ X.ex, b ∉ X.fs
  funs : X.s₀.heap.FunFrames X.base X.outer
  frf : ∀ b ∈ X.fs, X.H₀ b = none

structure Inv (X : Cx) (pins : List (Addr × Obj)) (σ : List (Option V)) (H : Hp) (s : Shared) : Prop where
  ok : X.Ok
  os : s.os = X.s₀.os
  bare : AllBare s.gens
  base : Un X.fs X.ex X.H₀ H X.s₀.heap s.heap
  loc : ∃ m, s.heap.Ns X.env.locals m ∧ ∀ (i : Nat) (x : Str) (v : V), X.N[i]? = some x → σ[i]? = some (some v) → Vis X.env.scope x → ∃ u, RelV v u ∧ Look X.env s.heap m x u
  cell : ∀ x c, X.env.cells.lookup x = some c → ∃ v, s.heap.IsCell c v
  free : H X.env.locals = none
  freeC : ∀ x c, X.env.cells.lookup x = some c → H c = none
  pin : ∀ p ∈ X.pn ++ pins, s.heap.get? p.1 = some p.2 ∧ H p.1 = none ∧ p.1 ≠ X.env.locals ∧ p.1 ∉ X.fs ∧ ∀ v, p.2.data ≠ .cell v
  hok : HOk X.prog X.w H s.heap
  len : σ.length = X.N.length

section
variable {X : Cx} {pins : List (Addr × Obj)} {σ : List (Option V)} {H H' : Hp} {s : Shared} {h' : Heap}

theorem Cx.Ok.nofr (ok : X.Ok) {b : Addr} {o : Obj} (e : X.base.get? b = some o) : b ∉ X.fs := fun hb => by
  have := (ok.funs.mem hb).1
  rw [e] at this; cases this
theorem Inv.bs (I : Inv X pins σ H s) : ∀ b o, X.base.get? b = some o → s.heap.get? b = some o ∧ H b = none := fun b o e =>
  ⟨I.base.keep b o (I.ok.bs b o e).1 (I.ok.bs b o e).2 (I.ok.nofr e) (I.ok.noex b o e), I.base.free b o (I.ok.bs b o e).1 (I.ok.bs b o e).2 (I.ok.noex b o e)⟩
theorem Inv.bk (I : Inv X pins σ H s) : ∀ b o, X.base.get? b = some o → s.heap.get? b = some o := fun b o e => (I.bs b o e).1
theorem Inv.mod (I : Inv X pins σ H s) : Mod X.K X.mg X.base := I.ok.mod
theorem Inv.kIn (I : Inv X pins σ H s) : X.K.In s.heap := I.ok.mod.kin.keeps I.bk
theorem Inv.nolimit (I : Inv X pins σ H s) : s.heap.NoLimit := I.ok.mod.nolimit.keeps I.bk
/-- the frame over the base: for OpenK's rules (K.In X.base is I.mod.kin) -/
theorem Inv.fr (I : Inv X pins σ H s) : ∃ m, Fr X.base X.env.locals s.heap m :=
  let ⟨m, hn, _⟩ := I.loc
  ⟨m, hn, I.bk, Nat.le_trans I.ok.bsz I.ok.above⟩
theorem Inv.lt (I : Inv X pins σ H s) : X.env.locals < s.heap.objs.size := let ⟨_, hn, _⟩ := I.loc; hn.lt
theorem Inv.sz (I : Inv X pins σ H s) : X.s₀.heap.objs.size ≤ s.heap.objs.size := Nat.le_trans I.ok.above (Nat.le_of_lt I.lt)
theorem Inv.nofs (I : Inv X pins σ H s) {a : Addr} (h : s.heap.objs.size ≤ a) : a ∉ X.fs := fun hb => by
  obtain ⟨_, o, ho, _⟩ := I.ok.funs.mem hb
  exact absurd (Nat.lt_of_lt_of_le (Heap.lt_size ho) (Nat.le_trans I.sz h)) (Nat.lt_irrefl _)
theorem Inv.cne (I : Inv X pins σ H s) : ∀ x c, X.env.cells.lookup x = some c → c ≠ X.env.locals := fun x c e z => by
  obtain ⟨v, o, ho, hd⟩ := I.cell x c e
  obtain ⟨m, ⟨o', es, ep, ho', hd', _⟩, _⟩ := I.loc
  rw [z, ho'] at ho; cases ho; rw [hd'] at hd; cases hd
theorem Inv.funs (I : Inv X pins σ H s) : s.heap.FunFrames X.base X.outer := by
  have all : ∀ (l : List Env), (∀ b ∈ frs l, b ∈ X.fs) → X.s₀.heap.FunFrames X.base l → s.heap.FunFrames X.base l := by
    intro l
    induction l with
    | nil => intro _ _; trivial
    | cons env r ih =>
      intro hs hl
      obtain ⟨hk, ⟨L, o, hf, hn, ho, hd⟩, hr⟩ := hl
      have hL : L ∈ X.fs := hs L (by unfold frs; rw [List.filterMap_cons, hf]; exact List.mem_cons_self)
      obtain ⟨sl, e⟩ := I.base.slot L o ho (I.ok.frf L hL) hL fun z => I.ok.exfs L z hL
      exact ⟨hk, ⟨L, _, hf, hn, e, hd⟩, ih (fun b hb => hs b (by unfold frs; rw [List.filterMap_cons, hf]; exact List.mem_cons_of_mem _ hb)) hr⟩
  exact all X.outer (fun _ hb => hb) I.ok.funs

/-- the frames that run, for a call -/
theorem Inv.stack (I : Inv X pins σ H s) : s.heap.FunFrames X.base X.stack := by
  rcases I.ok.stk with e | ⟨e, hf⟩
  · rw [e]; exact I.funs
  · rw [e]
    obtain ⟨m, hn, _⟩ := I.loc
    refine .cons (by rw [I.ok.kind]; decide) hf hn ?_ I.funs
    exact Heap.get?_none_of_le (Nat.le_trans I.ok.bsz I.ok.above)
theorem Inv.stkSub (I : Inv X pins σ H s) : ∀ b ∈ frs X.stack, b ∈ X.env.locals :: X.fs := fun b hb => by
  rcases I.ok.stk with e | ⟨e, hf⟩
  · rw [e] at hb; exact List.mem_cons_of_mem _ hb
  · rw [e] at hb
    unfold frs at hb
    rw [List.filterMap_cons, hf] at hb
    exact hb
theorem Inv.stkFree (I : Inv X pins σ H s) : ∀ b ∈ frs X.stack, H b = none := fun b hb => by
  rcases List.mem_cons.mp (I.stkSub b hb) with e | hb
  · rw [e]; exact I.free
  · obtain ⟨_, o, ho, _⟩ := I.ok.funs.mem hb
    exact I.base.free b o ho (I.ok.frf b hb) fun z => I.ok.exfs b z hb

/-- THE STEP: the untracked objects but the frame and the records at ch are kept (the callers' frames up to slots), the frame's map is kept, the new abstract heap is held -/
theorem Inv.step {g' : Array GenState} {t' : Nat} {d' : Drawn} {ch : List Addr} (I : Inv X pins σ H s)
    (hch : ∀ b ∈ ch, (b ∈ X.ex ∨ X.s₀.heap.objs.size ≤ b) ∧ b ≠ X.env.locals ∧ (∀ x c, X.env.cells.lookup x = some c → c ≠ b) ∧ ∀ p ∈ X.pn ++ pins, p.1 ≠ b)
    (keep : ∀ b o, b ≠ X.env.locals → b ∉ X.fs → b ∉ ch → s.heap.get? b = some o → H b = none → h'.get? b = some o)
    (slot : ∀ b o, b ≠ X.env.locals → b ∈ X.fs → b ∉ ch → s.heap.get? b = some o → H b = none → ∃ sl, h'.get? b = some { o with slots := sl }) (free : ∀ b o, b ∉ ch → s.heap.get? b = some o → H b = none → H' b = none)
    (there : ∀ b o, b ∉ ch → s.heap.get? b = some o → ∃ o', h'.get? b = some o')
    (tups : ∀ b xs, H b = some (.tup xs) → H' b = some (.tup xs)) (frzs : ∀ b o u, H b = some (.frz o u) → H' b = some (.frz o u)) (tbls : ∀ b ps, H b = some (.tbl ps) → ∃ more, H' b = some (.tbl (ps ++ more)))
    (ns : ∀ m, s.heap.Ns X.env.locals m → h'.Ns X.env.locals m) (hok : HOk X.prog X.w H' h') (hg : AllBare g') :
    Inv X pins σ H' { s with heap := h', gens := g', drawn := d', toks := t' } := by
  have neL : ∀ b o, X.s₀.heap.get? b = some o → b ≠ X.env.locals := fun b o e => Nat.ne_of_lt (Nat.lt_of_lt_of_le (Heap.lt_size e) I.ok.above)
  have neC : ∀ b o, X.s₀.heap.get? b = some o → b ∉ X.ex → b ∉ ch := fun b o e hx hb => by
    rcases (hch b hb).1 with z | z
    · exact hx z
    · exact absurd (Nat.lt_of_lt_of_le (Heap.lt_size e) z) (Nat.lt_irrefl _)
  have cellK : ∀ x c, X.env.cells.lookup x = some c → ∀ v, s.heap.IsCell c v → h'.IsCell c v := fun x c e v ⟨o, ho, hd⟩ => by
    have nch : c ∉ ch := fun z => (hch c z).2.2.1 x c e rfl
    by_cases hc : c ∈ X.fs
    · obtain ⟨sl, q⟩ := slot c o (I.cne x c e) hc nch ho (I.freeC x c e)
      exact ⟨_, q, hd⟩
    · exact ⟨o, keep c o (I.cne x c e) hc nch ho (I.freeC x c e), hd⟩
  refine ⟨I.ok, I.os, hg, ⟨fun b o e n hb hx => ?_, fun b o e n hb hx => ?_, fun b o e n hx => ?_, fun b o e hx => ?_, fun b xs e => tups b xs (I.base.tups b xs e), fun b o xs e => frzs b o xs (I.base.frzs b o xs e), fun b ps e => ?_⟩, ?_, fun x c e => ?_, ?_, fun x c e => ?_, fun p hp => ?_, hok, I.len⟩
  · exact keep b o (neL b o e) hb (neC b o e hx) (I.base.keep b o e n hb hx) (I.base.free b o e n hx)
  · obtain ⟨sl, e1⟩ := I.base.slot b o e n hb hx
    obtain ⟨sl', e2⟩ := slot b _ (neL b o e) hb (neC b o e hx) e1 (I.base.free b o e n hx)
    exact ⟨sl', e2⟩
  · obtain ⟨o', e1⟩ := I.base.there b o e hx
    exact free b o' (neC b o e hx) e1 (I.base.free b o e n hx)
  · obtain ⟨o', e1⟩ := I.base.there b o e hx
    exact there b o' (neC b o e hx) e1
  · obtain ⟨m1, e1⟩ := I.base.tbls b ps e
    obtain ⟨m2, e2⟩ := tbls b _ e1
    exact ⟨m1 ++ m2, by rw [e2, Array.append_assoc]⟩
  · obtain ⟨m, hn, hl⟩ := I.loc
    refine ⟨m, ns m hn, fun i x v e1 e2 e3 => ?_⟩
    obtain ⟨u, r, l⟩ := hl i x v e1 e2 e3
    refine ⟨u, r, ?_⟩
    rcases l with l | ⟨k, c, e, z⟩
    · exact .inl l
    · exact .inr ⟨k, c, e, cellK x c e _ z⟩
  · obtain ⟨v, z⟩ := I.cell x c e
    exact ⟨v, cellK x c e v z⟩
  · obtain ⟨m, ⟨o, _, _, ho, _⟩, _⟩ := I.loc
    exact free _ o (fun z => (hch _ z).2.1 rfl) ho I.free
  · obtain ⟨v, o, ho, hd⟩ := I.cell x c e
    exact free c o (fun z => (hch c z).2.2.1 x c e rfl) ho (I.freeC x c e)
  · obtain ⟨e, n, ne, nf, d⟩ := I.pin p hp
    have nch : p.1 ∉ ch := fun z => (hch p.1 z).2.2.2 p hp rfl
    exact ⟨keep p.1 p.2 ne nf nch e n, free p.1 p.2 nch e n, ne, nf, d⟩
/-- .. where the frame's own object is kept too -/
theorem Inv.un {t' : Nat} (I : Inv X pins σ H s) (u : Un X.fs [] H H' s.heap h') (hok : HOk X.prog X.w H' h') : Inv X pins σ H' { s with heap := h', toks := t' } := by
  obtain ⟨m, ⟨o, es, ep, ho, r⟩, _⟩ := id I.loc
  obtain ⟨sl, hL⟩ := u.any ho I.free (by simp)
  exact I.step (g' := s.gens) (d' := s.drawn) (ch := []) (fun _ z => nomatch z) (fun b o _ hb _ e n => u.keep b o e n hb (by simp)) (fun b o _ hb _ e n => u.slot b o e n hb (by simp)) (fun b o _ e n => u.free b o e n (by simp)) (fun b o _ e => u.there b o e (by simp)) u.tups u.frzs u.tbls (fun m' hm => by
    obtain ⟨o', es', ep', ho', r'⟩ := hm
    rw [ho] at ho'; cases ho'
    exact ⟨_, es', ep', hL, r'⟩) hok I.bare
/-- behind a call (or a comprehension's block): the slots of this frame may have changed too, the records at ch may have turned -/
theorem Inv.call {g' : Array GenState} {t' : Nat} {d' : Drawn} {ch : List Addr} (I : Inv X pins σ H s) (u : Un (frs X.stack) ch H H' s.heap h') (hok : HOk X.prog X.w H' h') (hg : AllBare g')
    (hch : ∀ b ∈ ch, (b ∈ X.ex ∨ X.s₀.heap.objs.size ≤ b) ∧ b ≠ X.env.locals ∧ (∀ x c, X.env.cells.lookup x = some c → c ≠ b) ∧ ∀ p ∈ X.pn ++ pins, p.1 ≠ b) :
    Inv X pins σ H' { s with heap := h', gens := g', drawn := d', toks := t' } := by
  obtain ⟨m, ⟨o, es, ep, ho, r⟩, _⟩ := id I.loc
  obtain ⟨sl, hL⟩ := u.any ho I.free fun z => (hch _ z).2.1 rfl
  exact I.step (ch := ch) hch (fun b o hL hb hc e n => u.keep b o e n (fun z => (List.mem_cons.mp (I.stkSub b z)).elim hL hb) hc) (fun b o _ _ hc e n => u.any e n hc) (fun b o hc e n => u.free b o e n hc) (fun b o hc e => u.there b o e hc) u.tups u.frzs u.tbls (fun m' hm => by
    obtain ⟨o', es', ep', ho', r'⟩ := hm
    rw [ho] at ho'; cases ho'
    exact ⟨_, es', ep', hL, r'⟩) hok hg
/-- an untracked record of ours (an iterator) has turned -/
theorem Inv.turned {t' : Nat} {it : Addr} (I : Inv X pins σ H s) (k : ∀ b o, b ≠ it → s.heap.get? b = some o → h'.get? b = some o) (hn : H it = none) (hL : it ≠ X.env.locals)
    (h1 : it ∈ X.ex ∨ X.s₀.heap.objs.size ≤ it) (h2 : ∀ x c, X.env.cells.lookup x = some c → c ≠ it) (h3 : ∀ p ∈ X.pn ++ pins, p.1 ≠ it) : Inv X pins σ H { s with heap := h', toks := t' } := by
  have nit : ∀ b u, H b = some u → b ≠ it := fun b u e z => by rw [z, hn] at e; cases e
  refine I.step (g' := s.gens) (d' := s.drawn) (ch := [it]) (fun b hb => ?_) (fun b o _ _ hc e _ => k b o (fun z => hc (by simp [z])) e) (fun b o _ _ hc e _ => ⟨o.slots, k b o (fun z => hc (by simp [z])) e⟩) (fun _ _ _ _ n => n)
    (fun b o hc e => ⟨o, k b o (fun z => hc (by simp [z])) e⟩) (fun _ _ e => e) (fun _ _ _ e => e) (fun b ps e => ⟨#[], by rw [e]; simp⟩) (fun m hm => ?_) (fun b u e => ?_) I.bare
  · have e : b = it := by simpa using hb
    subst e
    exact ⟨h1, hL, h2, h3⟩
  · obtain ⟨o, es, ep, ho, r⟩ := hm
    exact ⟨o, es, ep, k _ o (Ne.symm hL) ho, r⟩
  · refine (I.hok b u e).stay (fun c v hc q => k c v ?_ q) (fun _ q => q) fun _ _ q => q
    rcases hc with z | z
    · rw [z]; exact nit b u e
    · exact nit c _ z
theorem Inv.tok (I : Inv X pins σ H s) (t : Nat) : Inv X pins σ H { s with toks := t } := I.un (h' := s.heap) (t' := t) Un.refl I.hok
/-- all objects kept -/
theorem Inv.kept {t' : Nat} (I : Inv X pins σ H s) (k : ∀ b u, s.heap.get? b = some u → h'.get? b = some u) : Inv X pins σ H { s with heap := h', toks := t' } := I.un (Un.kept k) (I.hok.kept k)
/-- a new object laid and tracked -/
theorem Inv.laid {a : Addr} {o : HO} {t' : Nat} (I : Inv X pins σ H s) (k : ∀ b u, s.heap.get? b = some u → h'.get? b = some u) (hp : s.heap.objs.size ≤ a) (new : ObjOk X.prog X.w (upd H a o) h' a o) :
    Inv X pins σ (upd H a o) { s with heap := h', toks := t' } := I.un (Un.laid k hp (I.hok.fresh hp)) (I.hok.laid k hp new)
/-- an object written -/
theorem Inv.write {x e : Addr} {o : HO} {t' : Nat} (I : Inv X pins σ H s) (mu : Mut (H x)) (he : e = x ∨ H e = some (.own x)) (k : ∀ b u, b ≠ e → s.heap.get? b = some u → h'.get? b = some u) (heo : ∃ u, h'.get? e = some u)
    (new : ObjOk X.prog X.w (upd H x o) h' x o) : Inv X pins σ (upd H x o) { s with heap := h', toks := t' } := I.un (Un.write mu he k heo) (I.hok.write mu he k heo new)
/-- forgetting slots, pins -/
theorem Inv.weak {σ' : List (Option V)} (I : Inv X pins σ H s) (hl : σ'.length = σ.length) (w : ∀ (i : Nat) v, σ'[i]? = some (some v) → σ[i]? = some (some v)) : Inv X pins σ' H s :=
  ⟨I.ok, I.os, I.bare, I.base, let ⟨m, hn, hl'⟩ := I.loc; ⟨m, hn, fun i x v e1 e2 e3 => hl' i x v e1 (w i v e2) e3⟩, I.cell, I.free, I.freeC, I.pin, I.hok, hl.trans I.len⟩
theorem Inv.pins_of {pins' : List (Addr × Obj)} (I : Inv X pins σ H s) (h : ∀ p ∈ pins', s.heap.get? p.1 = some p.2 ∧ H p.1 = none ∧ p.1 ≠ X.env.locals ∧ p.1 ∉ X.fs ∧ ∀ v, p.2.data ≠ .cell v) : Inv X pins' σ H s :=
  ⟨I.ok, I.os, I.bare, I.base, I.loc, I.cell, I.free, I.freeC, fun p hp => (List.mem_append.mp hp).elim (fun z => I.pin p (List.mem_append_left _ z)) (h p), I.hok, I.len⟩

theorem nodup_ix {N : List Str} (hN : N.Nodup) {i j : Nat} {x : Str} (a : N[i]? = some x) (b : N[j]? = some x) : i = j := by
  obtain ⟨h1, e1⟩ := List.getElem?_eq_some_iff.mp a
  obtain ⟨h2, e2⟩ := List.getElem?_eq_some_iff.mp b
  exact (List.getElem_inj hN).mp (e1.trans e2.symm)

/-- a name is stored; what changed -/
theorem store_ok2 {M : Model} {A : Around} {E : Value → Shared → Prop} {i : Nat} {x : Str} {v : V} {u : Value} {Q : Unit → Shared → Prop} (I : Inv X pins σ H s) (hN : X.N.Nodup) (hi : X.N[i]? = some x) (hx : Loc X.env.scope x) (r : RelV v u)
    (h : ∀ s', Inv X pins (σ.set i (some v)) H s' → (∃ a, Heap.SameBut a s.heap s'.heap ∧ (a = X.env.locals ∨ X.env.cells.lookup x = some a)) → Q () s') (hf : X.fn x = true ∨ X.env.scope.names.lookup x = some .local := by first | exact .inl rfl | exact .inr rfl | assumption) : wpAny M A (storeName X.env x u) Q E s := by
  obtain ⟨m, hn, hl⟩ := id I.loc
  have hcls : (X.env.scope.kind == .class || (X.env.scope.kind == .module && X.env.locals != X.env.globals)) = false := by rw [I.ok.kind]; rfl
  have hiσ : i < σ.length := by rw [I.len]; exact (List.getElem?_eq_some_iff.mp hi).1
  have cne := I.cne
  have tracked : ∀ {a : Addr} {h' : Heap}, (∃ o, s.heap.get? a = some o ∧ H a = none) → Heap.SameBut a s.heap h' → HOk X.prog X.w H h' := fun {a h'} ha hs b ob e => by
    obtain ⟨_, _, hfree⟩ := ha
    refine (I.hok b ob e).stay (fun c w' hc q => (hs.2 c ?_).trans q) (fun _ q => q) fun _ _ q => q
    rintro rfl
    rcases hc with rfl | hc
    · rw [hfree] at e; cases e
    · rw [hfree] at hc; cases hc
  rcases hx with hk | hk
  · refine wpAny_storeName_local hk hn (fun h' hn' hs => ?_) hcls
    obtain ⟨oL, _, _, hoL, _⟩ := id hn
    refine h _ ⟨I.ok, I.os, I.bare, ⟨fun b o e n hb hx => ?_, fun b o e n hb hx => ?_, I.base.free, fun b o e hx => ?_, I.base.tups, I.base.frzs, I.base.tbls⟩, ⟨_, hn', fun j y v' e1 e2 e3 => ?_⟩, fun y c e => ?_, I.free, I.freeC, fun p hp => ?_, tracked ⟨oL, hoL, I.free⟩ hs, by simpa using I.len⟩ ⟨_, hs, .inl rfl⟩
    · exact (hs.2 b (Nat.ne_of_lt (Nat.lt_of_lt_of_le (Heap.lt_size e) I.ok.above))).trans (I.base.keep b o e n hb hx)
    · obtain ⟨sl, e1⟩ := I.base.slot b o e n hb hx
      exact ⟨sl, (hs.2 b (Nat.ne_of_lt (Nat.lt_of_lt_of_le (Heap.lt_size e) I.ok.above))).trans e1⟩
    · obtain ⟨o', e1⟩ := I.base.there b o e hx
      exact ⟨o', (hs.2 b (Nat.ne_of_lt (Nat.lt_of_lt_of_le (Heap.lt_size e) I.ok.above))).trans e1⟩
    · by_cases hj : j = i
      · subst hj
        rw [hi] at e1; cases e1
        rw [List.getElem?_set_self hiσ] at e2
        cases e2
        exact ⟨u, r, .inl ⟨hk, by simp⟩⟩
      · rw [List.getElem?_set_ne (Ne.symm hj)] at e2
        obtain ⟨u', r', q⟩ := hl j y v' e1 e2 e3
        refine ⟨u', r', ?_⟩
        rcases q with ⟨k, e⟩ | ⟨k, c, e, z⟩
        · refine .inl ⟨k, ?_⟩
          have : y ≠ x := fun e => hj (nodup_ix hN e1 (e ▸ hi))
          simp [this, e]
        · exact .inr ⟨k, c, e, z.sameBut hs (cne y c e)⟩
    · obtain ⟨w', z⟩ := I.cell y c e
      exact ⟨w', z.sameBut hs (cne y c e)⟩
    · obtain ⟨e, n, ne, nf, d⟩ := I.pin p hp
      exact ⟨(hs.2 p.1 ne).trans e, n, ne, nf, d⟩
  · have hfn : X.fn x = true := by
      rcases hf with z | z
      · exact z
      · rw [z] at hk; cases hk
    obtain ⟨c, hc⟩ := I.ok.has x (.inl hk)
    obtain ⟨w', z⟩ := I.cell x c hc
    refine wpAny_storeName_cell I.ok.kind hk hc z (fun h' hc' hs => ?_)
    obtain ⟨oc, hoc, hocd⟩ := id z
    refine h { s with heap := h' } ⟨I.ok, I.os, I.bare, ⟨fun b o e n hb hx => ?_, fun b o e n hb hx => ?_, I.base.free, fun b o e hx => ?_, I.base.tups, I.base.frzs, I.base.tbls⟩, ⟨m, hn.sameBut hs (Ne.symm (cne x c hc)), fun j y v' e1 e2 e3 => ?_⟩, fun y c' e => ?_, I.free, I.freeC, fun p hp => ?_, tracked ⟨oc, hoc, I.freeC x c hc⟩ hs, by simpa using I.len⟩ ⟨c, hs, .inr hc⟩
    · exact (hs.2 b (Nat.ne_of_lt (Nat.lt_of_lt_of_le (Heap.lt_size e) (I.ok.cab x c hfn hc)))).trans (I.base.keep b o e n hb hx)
    · obtain ⟨sl, e1⟩ := I.base.slot b o e n hb hx
      exact ⟨sl, (hs.2 b (Nat.ne_of_lt (Nat.lt_of_lt_of_le (Heap.lt_size e) (I.ok.cab x c hfn hc)))).trans e1⟩
    · obtain ⟨o', e1⟩ := I.base.there b o e hx
      exact ⟨o', (hs.2 b (Nat.ne_of_lt (Nat.lt_of_lt_of_le (Heap.lt_size e) (I.ok.cab x c hfn hc)))).trans e1⟩
    · by_cases hj : j = i
      · subst hj
        rw [hi] at e1; cases e1
        rw [List.getElem?_set_self hiσ] at e2
        cases e2
        exact ⟨u, r, .inr ⟨.inl hk, c, hc, hc'⟩⟩
      · rw [List.getElem?_set_ne (Ne.symm hj)] at e2
        obtain ⟨u', r', q⟩ := hl j y v' e1 e2 e3
        refine ⟨u', r', ?_⟩
        rcases q with q | ⟨k, c', e, z'⟩
        · exact .inl q
        · refine .inr ⟨k, c', e, z'.sameBut hs ?_⟩
          rintro rfl
          exact hj (nodup_ix hN e1 (I.ok.inj _ _ _ e hc ▸ hi))
    · by_cases hcc : c' = c
      · subst hcc; exact ⟨_, hc'⟩
      · obtain ⟨w2, z2⟩ := I.cell y c' e
        exact ⟨w2, z2.sameBut hs hcc⟩
    · obtain ⟨e, n, ne, nf, d⟩ := I.pin p hp
      refine ⟨(hs.2 p.1 ?_).trans e, n, ne, nf, d⟩
      intro q
      rw [q, hoc] at e
      have q' : oc = p.2 := Option.some.inj e
      exact d w' (by rw [← q']; exact hocd)
theorem store_ok {M : Model} {A : Around} {E : Value → Shared → Prop} {i : Nat} {x : Str} {v : V} {u : Value} {Q : Unit → Shared → Prop} (I : Inv X pins σ H s) (hN : X.N.Nodup) (hi : X.N[i]? = some x) (hx : Loc X.env.scope x) (r : RelV v u)
    (h : ∀ s', Inv X pins (σ.set i (some v)) H s' → Q () s') (hf : X.fn x = true ∨ X.env.scope.names.lookup x = some .local := by first | exact .inl rfl | exact .inr rfl | assumption) : wpAny M A (storeName X.env x u) Q E s :=
  store_ok2 I hN hi hx r (fun s' I' _ => h s' I') hf
/-- behind a call or a block, the state as it is -/
theorem Inv.call' {s' : Shared} {ch : List Addr} (I : Inv X pins σ H s) (ho : s'.os = s.os) (u : Un (frs X.stack) ch H H' s.heap s'.heap) (hok : HOk X.prog X.w H' s'.heap) (hg : AllBare s'.gens)
    (hch : ∀ b ∈ ch, (b ∈ X.ex ∨ X.s₀.heap.objs.size ≤ b) ∧ b ≠ X.env.locals ∧ (∀ x c, X.env.cells.lookup x = some c → c ≠ b) ∧ ∀ p ∈ X.pn ++ pins, p.1 ≠ b) : Inv X pins σ H' s' := by
  obtain ⟨h', g', d', t', o'⟩ := s'
  have e : o' = s.os := ho
  subst e
  exact I.call (g' := g') (t' := t') (d' := d') u hok hg hch
end

/-! ### the judgements -/
/-- an exception: its class, its own dict's address (where it has one), the abstract heap behind it -/
abbrev XK := Value → Option Addr → Hp → Prop
abbrev St := List (Option V)
abbrev VK := V → Hp → Prop
/-- an expression's reading; a test's; an argument list's -/
abbrev TE := St → Hp → VK → Prop
abbrev TT := St → Hp → (Bool → Hp → Prop) → Prop
abbrev TA := St → Hp → (List V → Hp → Prop) → Prop
/-- what is wanted behind a statement -/
structure Ends where
  nx : St → Hp → Prop
  rt : VK
  bk : St → Hp → Prop := fun _ _ => False
  ct : St → Hp → Prop := fun _ _ => False
abbrev TS := Ends → St → Hp → Prop

def EP (X : Cx) (pins : List (Addr × Obj)) (σ : St) (Q : VK) (u : Value) (s' : Shared) : Prop := ∃ v H', Inv X pins σ H' s' ∧ RelV v u ∧ Q v H'
def TP (X : Cx) (pins : List (Addr × Obj)) (σ : St) (Q : Bool → Hp → Prop) (b : Bool) (s' : Shared) : Prop := ∃ H', Inv X pins σ H' s' ∧ Q b H'
def AP (X : Cx) (pins : List (Addr × Obj)) (σ : St) (Q : List V → Hp → Prop) (us : List Value) (s' : Shared) : Prop := ∃ vs H', Inv X pins σ H' s' ∧ Vals vs us ∧ Q vs H'
def SP (X : Cx) (pins : List (Addr × Obj)) (D : Ends) (f : Flow) (s' : Shared) : Prop :=
  match f with
  | .next => ∃ σ' H', Inv X pins σ' H' s' ∧ D.nx σ' H'
  | .brk => ∃ σ' H', Inv X pins σ' H' s' ∧ D.bk σ' H'
  | .cont => ∃ σ' H', Inv X pins σ' H' s' ∧ D.ct σ' H'
  | .ret u => ∃ v σ' H', Inv X pins σ' H' s' ∧ RelV v u ∧ D.rt v H'

def PE (X : Cx) (e : Expr) (t : TE) : Prop :=
  ∀ (pins : List (Addr × Obj)) (s : Shared) (σ : St) (H : Hp) (Q : VK), Inv X pins σ H s → t σ H Q → wpAny (model X.prog X.w) X.A (eval e X.env) (EP X pins σ Q) X.xe s
def PT (X : Cx) (e : Expr) (t : TT) : Prop :=
  ∀ (pins : List (Addr × Obj)) (s : Shared) (σ : St) (H : Hp) (Q : Bool → Hp → Prop), Inv X pins σ H s → t σ H Q → wpAny (model X.prog X.w) X.A (isTrue e X.env (eval e X.env)) (TP X pins σ Q) X.xe s
/-- a test whatever its 'whole' is (and, or) -/
def PW (X : Cx) (e : Expr) (t : TT) : Prop :=
  ∀ (whole : Sem Value) (pins : List (Addr × Obj)) (s : Shared) (σ : St) (H : Hp) (Q : Bool → Hp → Prop), Inv X pins σ H s → t σ H Q → wpAny (model X.prog X.w) X.A (isTrue e X.env whole) (TP X pins σ Q) X.xe s
theorem PW.pt {X : Cx} {e : Expr} {t : TT} (h : PW X e t) : PT X e t := h _
/-- an argument list (no star), from the left -/
def PA (X : Cx) (es : List Expr) (t : TA) : Prop :=
  ∀ (pos : Pos) (pins : List (Addr × Obj)) (s : Shared) (σ : St) (H : Hp) (Q : List V → Hp → Prop), Inv X pins σ H s → t σ H Q → wpAny (model X.prog X.w) X.A (spliced (backTo pos (starEach es X.env))) (AP X pins σ Q) X.xe s
def PS (X : Cx) (st : Stmt) (t : TS) : Prop :=
  ∀ (pins : List (Addr × Obj)) (s : Shared) (σ : St) (H : Hp) (D : Ends), Inv X pins σ H s → t D σ H → wpAny (model X.prog X.w) X.A (exec st X.env) (SP X pins D) X.xe s
def PSs (X : Cx) (st : List Stmt) (t : TS) : Prop :=
  ∀ (pins : List (Addr × Obj)) (s : Shared) (σ : St) (H : Hp) (D : Ends), Inv X pins σ H s → t D σ H → wpAny (model X.prog X.w) X.A (execs st X.env) (SP X pins D) X.xe s
/-- weaken the end -/
theorem thn {α : Type} {t : Sem α} {Q Q' : α → Shared → Prop} {M : Model} {A : Around} {E : Value → Shared → Prop} {s : Shared} (h : wpAny M A t Q E s) (hQ : ∀ a s, Q a s → Q' a s) : wpAny M A t Q' E s := wpAny_mono h hQ fun _ _ x => x
end L2

namespace L2
open PySem PySem.Spec PyProof.Rows
section
variable {X : Cx}

/-- two expressions in a row -/
theorem bin {a b : Expr} {ta tb : TE} (ha : PE X a ta) (hb : PE X b tb) {pins : List (Addr × Obj)} {s : Shared} {σ : St} {H : Hp} {R : V → V → Hp → Prop} (I : Inv X pins σ H s) (h : ta σ H fun x H1 => tb σ H1 fun y H2 => R x y H2)
    {α : Type} {Q : α → Shared → Prop} {f : Value → Value → Sem α}
    (hf : ∀ v u s2 x y H2, Inv X pins σ H2 s2 → RelV x v → RelV y u → R x y H2 → wpAny (model X.prog X.w) X.A (f v u) Q X.xe s2) :
    wpAny (model X.prog X.w) X.A (eval a X.env) (fun v s₁ => wpAny (model X.prog X.w) X.A (eval b X.env) (fun u s₂ => wpAny (model X.prog X.w) X.A (f v u) Q X.xe s₂) X.xe s₁) X.xe s := by
  refine thn (ha pins s σ H _ I h) fun v s1 ⟨x, H1, I1, r1, q1⟩ => ?_
  refine thn (hb pins s1 σ H1 _ I1 q1) fun u s2 ⟨y, H2, I2, r2, q2⟩ => ?_
  exact hf v u s2 x y H2 I2 r1 r2 q2

/-! ### names and constants -/
def tVar (i : Nat) : TE := fun σ H Q => ∃ v, σ[i]? = some (some v) ∧ Q v H
def tC (v : V) : TE := fun _ H Q => Q v H
theorem pe_var {i : Nat} {x : Str} {pos : Pos} (hN : X.N[i]? = some x) (hv : Vis X.env.scope x) (hd : (x == ("__debug__" : Str)) = false := by decide) (hcd : (x == ("__classdict__" : Str)) = false := by decide) : PE X (.Name x pos) (tVar i) := by
  intro pins s σ H Q I h
  obtain ⟨v, e, h⟩ := h
  obtain ⟨m, hn, hl⟩ := I.loc
  obtain ⟨u, r, l⟩ := hl i x v hN e hv
  have fin : EP X pins σ Q u s := ⟨v, H, I, r, h⟩
  rcases l with ⟨hk, hm⟩ | ⟨hk, c, hc, hcell⟩
  · exact wpAny_Name (wpAny_loadName_local I.ok.kind hk hn hm fin) hd
  · rcases hk with hk | hk
    · exact wpAny_Name (wpAny_loadName_cell I.ok.kind hk hc hcell fin) hd
    · exact wpAny_Name (wpAny_loadName_free I.ok.kind hk hc hcell fin hcd) hd
theorem pe_int {i j pos} : PE X (.Constant (.int i) j pos) (tC (.int i)) := fun _ _ _ H _ I h => wpAny_Constant_int ⟨.int i, H, I.tok _, ⟨_, rfl⟩, h⟩
theorem pe_bl {b j pos} : PE X (.Constant (.bool b) j pos) (tC (.bl b)) := fun _ _ _ H _ I h => Constant_bool ⟨.bl b, H, I, rfl, h⟩
theorem pe_non {j pos} : PE X (.Constant .none j pos) (tC .non) := fun _ _ _ H _ I h => Constant_none ⟨.non, H, I, rfl, h⟩
theorem pe_str {x j pos} : PE X (.Constant (.str x) j pos) (tC (.str x)) := fun _ _ _ H _ I h => Calls.Constant_str ⟨.str x, H, I.tok _, ⟨_, rfl⟩, h⟩

/-- a global name of the def -/
def Gl (X : Cx) (x : Str) : Prop := X.env.kindOf x = some .globalImplicit
theorem ld_glob {E : Value → Shared → Prop} {pins : List (Addr × Obj)} {s : Shared} {σ : St} {H : Hp} {x : Str} {u : Value} {pos : Pos} {Q : Value → Shared → Prop} (I : Inv X pins σ H s) (hg : Gl X x) (hm : X.mg x = some u) (h : Q u s)
    (hd : (x == ("__debug__" : Str)) = false := by decide) : wpAny (model X.prog X.w) X.A (eval (.Name x pos) X.env) Q E s :=
  Calls.Name_function_global I.ok.kind hg (Calls.loadGlobal_global (by rw [I.ok.glob]; exact I.mod.glob.keeps I.bk) hm h) hd
theorem ld_blt {E : Value → Shared → Prop} {pins : List (Addr × Obj)} {s : Shared} {σ : St} {H : Hp} {x : Str} {u : Value} {pos : Pos} {Q : Value → Shared → Prop} (I : Inv X pins σ H s) (hg : Gl X x) (hm : X.mg x = none) (hv : bootBuiltins x = some u) (h : Q u s)
    (hn : x ≠ "__name__" := by decide) (hd : (x == ("__debug__" : Str)) = false := by decide) : wpAny (model X.prog X.w) X.A (eval (.Name x pos) X.env) Q E s := by
  obtain ⟨mb, h1, h2⟩ := I.mod.blt
  exact Calls.Name_function_global I.ok.kind hg (Calls.loadGlobal_builtin (by rw [I.ok.glob]; exact I.mod.glob.keeps I.bk) hm (by rw [I.ok.blt]; exact h1.keeps I.bk) ((h2 x hn).trans hv) h) hd
/-- a module's constant, a class, a function, as a value -/
theorem pe_glob {x : Str} {v : V} {u : Value} {pos : Pos} (hg : Gl X x) (hm : X.mg x = some u) (r : RelV v u) (hd : (x == ("__debug__" : Str)) = false := by decide) : PE X (.Name x pos) (tC v) :=
  fun _ _ _ H _ I h => ld_glob I hg hm ⟨v, H, I, r, h⟩ hd
theorem pe_bltn {x : Str} {v : V} {u : Value} {pos : Pos} (hg : Gl X x) (hm : X.mg x = none) (hv : bootBuiltins x = some u) (r : RelV v u) (hn : x ≠ "__name__" := by decide) (hd : (x == ("__debug__" : Str)) = false := by decide) : PE X (.Name x pos) (tC v) :=
  fun _ _ _ H _ I h => ld_blt I hg hm hv ⟨v, H, I, r, h⟩ hn hd

/-! ### arithmetic -/
/-- two ints -/
def t2I (ta tb : TE) (k : Int → Int → Hp → Prop) : St → Hp → Prop := fun σ H => ta σ H fun x H1 => tb σ H1 fun y H2 => ∃ i j, x = .int i ∧ y = .int j ∧ k i j H2
def tAdd (ta tb : TE) : TE := fun σ H Q => t2I ta tb (fun i j H2 => Q (.int (i + j)) H2) σ H
def tSub (ta tb : TE) : TE := fun σ H Q => t2I ta tb (fun i j H2 => Q (.int (i - j)) H2) σ H
/-- the left factor below 2^64 -/
def tMul (ta tb : TE) : TE := fun σ H Q => t2I ta tb (fun i j H2 => (-(2 ^ 64) < i ∧ i < 2 ^ 64) ∧ Q (.int (i * j)) H2) σ H
variable {a b : Expr} {ta tb : TE} {pos : Pos}
theorem pe_add (ha : PE X a ta) (hb : PE X b tb) : PE X (.BinOp a .Add b pos) (tAdd ta tb) := by
  intro pins s σ H Q I h
  refine wpAny_BinOp (bin ha hb I h fun v u s2 x y H2 I2 rx ry q => ?_)
  obtain ⟨i, j, rfl, rfl, q⟩ := q
  obtain ⟨t, rfl⟩ := rx
  obtain ⟨t', rfl⟩ := ry
  exact add_int ⟨.int _, H2, I2.tok _, ⟨_, rfl⟩, q⟩
theorem pe_sub (ha : PE X a ta) (hb : PE X b tb) : PE X (.BinOp a .Sub b pos) (tSub ta tb) := by
  intro pins s σ H Q I h
  refine wpAny_BinOp (bin ha hb I h fun v u s2 x y H2 I2 rx ry q => ?_)
  obtain ⟨i, j, rfl, rfl, q⟩ := q
  obtain ⟨t, rfl⟩ := rx
  obtain ⟨t', rfl⟩ := ry
  exact sub_int ⟨.int _, H2, I2.tok _, ⟨_, rfl⟩, q⟩
theorem pe_mul (ha : PE X a ta) (hb : PE X b tb) : PE X (.BinOp a .Mult b pos) (tMul ta tb) := by
  intro pins s σ H Q I h
  refine wpAny_BinOp (bin ha hb I h fun v u s2 x y H2 I2 rx ry q => ?_)
  obtain ⟨i, j, rfl, rfl, ⟨q1, q2⟩, q⟩ := q
  obtain ⟨t, rfl⟩ := rx
  obtain ⟨t', rfl⟩ := ry
  exact mul_int ⟨.int _, H2, I2.tok _, ⟨_, rfl⟩, q⟩ (.of_left (intBits_le_64 q1 q2))

/-! ### comparisons -/
def PC (X : Cx) (op : CmpOp) (a b : Expr) (t : TE) : Prop :=
  ∀ (pins : List (Addr × Obj)) (s : Shared) (σ : St) (H : Hp) (Q : VK), Inv X pins σ H s → t σ H Q →
    wpAny (model X.prog X.w) X.A (eval a X.env) (fun v s₁ => wpAny (model X.prog X.w) X.A (eval b X.env) (fun u s₂ => wpAny (model X.prog X.w) X.A (compareOp op v u) (EP X pins σ Q) X.xe s₂) X.xe s₁) X.xe s
theorem nobehind (b : Expr) {op : CmpOp} (h : op ≠ .In) (h2 : op ≠ .NotIn) : behindInMarks op b = false := by
  have e1 : (op == CmpOp.In) = false := by cases op <;> first | rfl | exact absurd rfl h
  have e2 : (op == CmpOp.NotIn) = false := by cases op <;> first | rfl | exact absurd rfl h2
  cases b <;> simp [behindInMarks, e1, e2]
def tCmp (p : Int → Int → Bool) (ta tb : TE) : TE := fun σ H Q => t2I ta tb (fun i j H2 => Q (.bl (p i j)) H2) σ H
abbrev tLt : TE → TE → TE := tCmp fun i j => decide (i < j)
abbrev tLe : TE → TE → TE := tCmp fun i j => decide (i ≤ j)
abbrev tGt : TE → TE → TE := tCmp fun i j => decide (j < i)
abbrev tGe : TE → TE → TE := tCmp fun i j => decide (j ≤ i)
abbrev tEqI : TE → TE → TE := tCmp fun i j => decide (i = j)
abbrev tNeI : TE → TE → TE := tCmp fun i j => !decide (i = j)
/-- a comparison of two ints, by its rule -/
theorem pc_int {op : CmpOp} {p : Int → Int → Bool} (ha : PE X a ta) (hb : PE X b tb)
    (rule : ∀ (i j : Int) (t u : Tok) (Q : Value → Shared → Prop) (s : Shared), Q (.bool (p i j)) s → wpAny (model X.prog X.w) X.A (compareOp op (.int i t) (.int j u)) Q X.xe s) : PC X op a b (tCmp p ta tb) := by
  intro pins s σ H Q I h
  refine bin ha hb I h fun v u s2 x y H2 I2 rx ry q => ?_
  obtain ⟨i, j, rfl, rfl, q⟩ := q
  obtain ⟨t, rfl⟩ := rx
  obtain ⟨t', rfl⟩ := ry
  exact rule i j t t' _ s2 ⟨.bl _, H2, I2, rfl, q⟩
theorem pc_lt (ha : PE X a ta) (hb : PE X b tb) : PC X .Lt a b (tLt ta tb) := pc_int ha hb fun _ _ _ _ _ _ h => lt_int h
theorem pc_le (ha : PE X a ta) (hb : PE X b tb) : PC X .LtE a b (tLe ta tb) := pc_int ha hb fun _ _ _ _ _ _ h => le_int h
theorem pc_gt (ha : PE X a ta) (hb : PE X b tb) : PC X .Gt a b (tGt ta tb) := pc_int ha hb fun _ _ _ _ _ _ h => gt_int h
theorem pc_ge (ha : PE X a ta) (hb : PE X b tb) : PC X .GtE a b (tGe ta tb) := pc_int ha hb fun _ _ _ _ _ _ h => ge_int h
theorem pc_eqI (ha : PE X a ta) (hb : PE X b tb) : PC X .Eq a b (tEqI ta tb) := pc_int ha hb fun _ _ _ _ _ _ h => eq_int (by rw [Bool.beq_eq_decide_eq]; exact h)
theorem pc_neI (ha : PE X a ta) (hb : PE X b tb) : PC X .NotEq a b (tNeI ta tb) := pc_int ha hb fun _ _ _ _ _ _ h => ne_int (by rw [bne, Bool.beq_eq_decide_eq]; exact h)
/-- is None -/
def tIsN (ta : TE) : TE := fun σ H Q => ta σ H fun x H1 => Q (.bl (decide (x = .non))) H1
def tNotN (ta : TE) : TE := fun σ H Q => ta σ H fun x H1 => Q (.bl (!decide (x = .non))) H1
theorem RelV.none_iff {x : V} {v : Value} (r : RelV x v) : (v == Value.none) = decide (x = .non) := by
  cases x with
  | non => cases r; rfl
  | bl _ => cases r; rfl
  | int _ => obtain ⟨t, rfl⟩ := r; rfl
  | str _ => obtain ⟨t, rfl⟩ := r; rfl
  | byt _ => obtain ⟨t, rfl⟩ := r; rfl
  | flt _ => obtain ⟨t, rfl⟩ := r; rfl
  | ref _ => cases r; rfl
  | ty _ => cases r; rfl
theorem pc_isN {j pos'} (ha : PE X a ta) : PC X .Is a (.Constant .none j pos') (tIsN ta) := by
  intro pins s σ H Q I h
  refine thn (ha pins s σ H _ I h) fun v s1 ⟨x, H1, I1, r1, q1⟩ => ?_
  exact Constant_none (is_none_gen ⟨.bl _, H1, I1, by rw [r1.none_iff]; rfl, q1⟩)
theorem pc_notN {j pos'} (ha : PE X a ta) : PC X .IsNot a (.Constant .none j pos') (tNotN ta) := by
  intro pins s σ H Q I h
  refine thn (ha pins s σ H _ I h) fun v s1 ⟨x, H1, I1, r1, q1⟩ => ?_
  exact Constant_none (isnot_none_gen ⟨.bl _, H1, I1, by rw [r1.none_iff]; rfl, q1⟩)
/-- a comparison as a value, as a test -/
def tB (t : TE) : TT := fun σ H Q => t σ H fun x H1 => ∃ c, x = .bl c ∧ Q c H1
theorem pe_cmp {op : CmpOp} {t : TE} (h : PC X op a b t) (h1 : behindInMarks op b = false := by first | exact nobehind _ (by decide) (by decide) | rfl) : PE X (.Compare a [op] [b] pos) t := fun pins s σ H Q I hw => wpAny_Compare1 (h pins s σ H Q I hw) h1
theorem pt_cmp {op : CmpOp} {t : TE} (h : PC X op a b t) (h1 : behindInMarks op b = false := by first | exact nobehind _ (by decide) (by decide) | rfl) : PT X (.Compare a [op] [b] pos) (tB t) := by
  intro pins s σ H Q I hw
  refine wpAny_isTrue_Compare1 (thn (h pins s σ H _ I hw) fun v s1 h1 => thn h1 fun u s2 h2 => thn h2 fun c s3 ⟨x, H1, I1, r1, q1⟩ => ?_) h1
  obtain ⟨d, rfl, q⟩ := q1
  cases r1
  exact wpAny_truthy_bool ⟨H1, I1, q⟩
/-- an expression whose value is a bool, as a test -/
theorem pt_val {e : Expr} {t : TE} (h : PE X e t) (he : ∀ whole, isTrue e X.env whole = (do let v ← whole; standAt e.pos; holding [v] (truthy v)) := by intro _; rfl) : PT X e (tB t) := by
  intro pins s σ H Q I hw
  refine isTrue_plain (thn (h pins s σ H _ I hw) fun v s1 ⟨x, H1, I1, r1, q1⟩ => ?_) (he _)
  obtain ⟨d, rfl, q⟩ := q1
  cases r1
  exact wpAny_truthy_bool ⟨H1, I1, q⟩

/-! ### and, or, not -/
variable {tA tB' : TT} {rest : List Expr}
def tAnd (t u : TT) : TT := fun σ H Q => t σ H fun c H1 => if c = true then u σ H1 Q else Q false H1
def tOr (t u : TT) : TT := fun σ H Q => t σ H fun c H1 => if c = true then Q true H1 else u σ H1 Q
def tNot (t : TT) : TT := fun σ H Q => t σ H fun c H1 => Q (!c) H1
theorem pw_and1 (ha : PT X a tA) : PW X (.BoolOp .And [a] pos) tA := by
  intro wh pins s σ H Q I h
  refine isTrue_and (thn (ha pins s σ H Q I h) fun c s1 e => ?_)
  cases c with
  | true => exact isTrue_and_nil e
  | false => exact e
theorem pw_or1 (ha : PT X a tA) : PW X (.BoolOp .Or [a] pos) tA := by
  intro wh pins s σ H Q I h
  refine isTrue_or (thn (ha pins s σ H Q I h) fun c s1 e => ?_)
  cases c with
  | false => exact isTrue_or_nil e
  | true => exact e
theorem pw_and (ha : PT X a tA) (hb : PW X (.BoolOp .And (b :: rest) pos) tB') : PW X (.BoolOp .And (a :: b :: rest) pos) (tAnd tA tB') := by
  intro wh pins s σ H Q I h
  refine isTrue_and (thn (ha pins s σ H _ I h) fun c s1 ⟨H1, I1, q1⟩ => ?_)
  cases c with
  | true => exact hb wh pins s1 σ H1 Q I1 q1
  | false => exact ⟨H1, I1, q1⟩
theorem pw_or (ha : PT X a tA) (hb : PW X (.BoolOp .Or (b :: rest) pos) tB') : PW X (.BoolOp .Or (a :: b :: rest) pos) (tOr tA tB') := by
  intro wh pins s σ H Q I h
  refine isTrue_or (thn (ha pins s σ H _ I h) fun c s1 ⟨H1, I1, q1⟩ => ?_)
  cases c with
  | true => exact ⟨H1, I1, q1⟩
  | false => exact hb wh pins s1 σ H1 Q I1 q1
theorem pt_not (ha : PT X a tA) : PT X (.UnaryOp .Not a pos) (tNot tA) := by
  intro pins s σ H Q I h
  exact isTrue_not (ha pins s σ H (fun c H1 => Q (!c) H1) I h)
/-- .. as values (bools) -/
def tAndV (ta tb : TE) : TE := fun σ H Q => ta σ H fun x H1 => ∃ c, x = .bl c ∧ if c = true then tb σ H1 Q else Q (.bl false) H1
def tOrV (ta tb : TE) : TE := fun σ H Q => ta σ H fun x H1 => ∃ c, x = .bl c ∧ if c = true then Q (.bl true) H1 else tb σ H1 Q
def tNotV (ta : TE) : TE := fun σ H Q => ta σ H fun x H1 => ∃ c, x = .bl c ∧ Q (.bl (!c)) H1
theorem pe_one {op} {t : TE} (h : PE X a t) : PE X (.BoolOp op [a] pos) t := fun pins s σ H Q I hw => BoolOp_one (h pins s σ H Q I hw)
theorem pe_and (ha : PE X a ta) (hb : PE X (.BoolOp .And (b :: rest) pos) tb) : PE X (.BoolOp .And (a :: b :: rest) pos) (tAndV ta tb) := by
  intro pins s σ H Q I h
  refine BoolOp_and (thn (ha pins s σ H _ I h) fun v s1 ⟨x, H1, I1, r1, q1⟩ => ?_)
  obtain ⟨c, rfl, q1⟩ := q1
  cases r1
  refine wpAny_truthy_bool ?_
  cases c with
  | true => exact hb pins s1 σ H1 Q I1 q1
  | false => exact ⟨.bl false, H1, I1, rfl, q1⟩
theorem pe_or (ha : PE X a ta) (hb : PE X (.BoolOp .Or (b :: rest) pos) tb) : PE X (.BoolOp .Or (a :: b :: rest) pos) (tOrV ta tb) := by
  intro pins s σ H Q I h
  refine BoolOp_or (thn (ha pins s σ H _ I h) fun v s1 ⟨x, H1, I1, r1, q1⟩ => ?_)
  obtain ⟨c, rfl, q1⟩ := q1
  cases r1
  refine wpAny_truthy_bool ?_
  cases c with
  | false => exact hb pins s1 σ H1 Q I1 q1
  | true => exact ⟨.bl true, H1, I1, rfl, q1⟩
theorem pe_not (ha : PE X a ta) : PE X (.UnaryOp .Not a pos) (tNotV ta) := by
  intro pins s σ H Q I h
  refine UnaryOp_ (thn (ha pins s σ H _ I h) fun v s1 ⟨x, H1, I1, r1, q1⟩ => ?_)
  obtain ⟨c, rfl, q1⟩ := q1
  cases r1
  exact not_of (wpAny_truthy_bool ⟨.bl (!c), H1, I1, rfl, q1⟩)
/-- a if t else b -/
def tIf (t : TT) (ta tb : TE) : TE := fun σ H Q => t σ H fun c H1 => if c = true then ta σ H1 Q else tb σ H1 Q
theorem pe_ifExp {c : Expr} (hc : PT X c tA) (ha : PE X a ta) (hb : PE X b tb) : PE X (.IfExp c a b pos) (tIf tA ta tb) := by
  intro pins s σ H Q I h
  refine wpAny_IfExp (thn (hc pins s σ H _ I h) fun d s1 ⟨H1, I1, q1⟩ => ?_)
  cases d with
  | true => exact ha pins s1 σ H1 Q I1 q1
  | false => exact hb pins s1 σ H1 Q I1 q1
end
end L2

namespace L2
open PySem PySem.Spec PyProof.Rows

/-! ### a list, a tuple that is read: tracked, frozen, or an object of the module -/
def SqL (K : PySem.W.Frag) (H : Hp) (a : Addr) (xs : List V) : Prop :=
  Rd H a (.lst xs) ∨
    ∃ (o : Obj) (its : Array Value) (n : Nat), K.lookup a = some o ∧ o.cls = .type "list" ∧ o.dict = none ∧ o.data = .seq its n ∧ its.size ≤ sizeLine ∧ Vals xs its.toList
def SqT (K : PySem.W.Frag) (H : Hp) (a : Addr) (xs : List V) : Prop :=
  Rd H a (.tup xs) ∨
    ∃ (o : Obj) (its : Array Value) (n : Nat), K.lookup a = some o ∧ o.cls = .type "tuple" ∧ o.data = .seq its n ∧ its.size ≤ sizeLine ∧ Vals xs its.toList
def absV : Value → Option V
  | .none => some .non
  | .bool b => some (.bl b)
  | .int i _ => some (.int i)
  | .str x _ => some (.str x)
  | .bytes b _ => some (.byt b)
  | .float b _ => some (.flt b)
  | .ref a => some (.ref a)
  | .type n => some (.ty n)
  | _ => none
theorem RelV.abs {x : V} {u : Value} (r : RelV x u) : absV u = some x := by
  cases x with
  | non => cases r; rfl
  | bl _ => cases r; rfl
  | int _ => obtain ⟨t, rfl⟩ := r; rfl
  | str _ => obtain ⟨t, rfl⟩ := r; rfl
  | byt _ => obtain ⟨t, rfl⟩ := r; rfl
  | flt _ => obtain ⟨t, rfl⟩ := r; rfl
  | ref _ => cases r; rfl
  | ty _ => cases r; rfl
theorem RelV.inj {x y : V} {u : Value} (r : RelV x u) (q : RelV y u) : x = y := Option.some.inj (r.abs.symm.trans q.abs)
theorem Vals.inj : ∀ {xs ys : List V} {us : List Value}, Vals xs us → Vals ys us → xs = ys
  | _, _, _, .nil, .nil => rfl
  | _, _, _, .cons r t, .cons r' t' => by rw [r.inj r', Vals.inj t t']
section
variable {X : Cx} {pins : List (Addr × Obj)} {σ : St} {H : Hp} {s : Shared} {a : Addr} {xs ys : List V}
theorem SqL.of {K : PySem.W.Frag} (h : H a = some (.lst xs)) : SqL K H a xs := .inl (.inl h)
theorem SqT.of {K : PySem.W.Frag} (h : H a = some (.tup xs)) : SqT K H a xs := .inl (.inl h)
theorem Inv.list (I : Inv X pins σ H s) (h : SqL X.K H a xs) : ∃ its : List Value, Vals xs its ∧ PlainL s.heap a its.toArray ∧ xs.length ≤ sizeLine := by
  rcases h with h | ⟨o, its, n, hk, hc, hd, hs, hz, r⟩
  · obtain ⟨z, its, n, r, e⟩ := h.ok I.hok
    exact ⟨its, r, ⟨_, n, e, rfl, rfl, rfl⟩, z⟩
  · refine ⟨its.toList, r, ⟨o, n, I.kIn a o hk, hc, hd, by simpa using hs⟩, ?_⟩
    have e := r.length
    simp only [Array.length_toList] at e
    omega
theorem Inv.tuple (I : Inv X pins σ H s) (h : SqT X.K H a xs) : ∃ its : List Value, Vals xs its ∧ IsTup s.heap a its.toArray ∧ xs.length ≤ sizeLine := by
  rcases h with h | ⟨o, its, n, hk, hc, hs, hz, r⟩
  · obtain ⟨z, its, r, p⟩ := h.ok I.hok
    exact ⟨its, r, p, z⟩
  · refine ⟨its.toList, r, ⟨o, I.kIn a o hk, hc, n, by simpa using hs⟩, ?_⟩
    have e := r.length
    simp only [Array.length_toList] at e
    omega
theorem Inv.list_inj (I : Inv X pins σ H s) (h : SqL X.K H a xs) (h' : SqL X.K H a ys) : xs = ys := by
  obtain ⟨its, r, ⟨o, n, e, _, _, d⟩, _⟩ := I.list h
  obtain ⟨its', r', ⟨o', n', e', _, _, d'⟩, _⟩ := I.list h'
  rw [e] at e'; cases e'
  rw [d] at d'
  injection d' with d1 _
  have : its = its' := by simpa using congrArg Array.toList d1
  subst this
  exact r.inj r'
theorem Inv.tuple_inj (I : Inv X pins σ H s) (h : SqT X.K H a xs) (h' : SqT X.K H a ys) : xs = ys := by
  obtain ⟨its, r, ⟨o, e, _, n, d⟩, _⟩ := I.tuple h
  obtain ⟨its', r', ⟨o', e', _, n', d'⟩, _⟩ := I.tuple h'
  rw [e] at e'; cases e'
  rw [d] at d'
  injection d' with d1 _
  have : its = its' := by simpa using congrArg Array.toList d1
  subst this
  exact r.inj r'
end

/-! ### another wish about exceptions -/
abbrev Cx.wish (X : Cx) (E : Value → Shared → Prop) : Cx := { X with xe := E }
/-- no exception leaves -/
abbrev Cx.nox (X : Cx) : Cx := X.wish fun _ _ => False
theorem Cx.Ok.wish {X : Cx} (ok : X.Ok) (E : Value → Shared → Prop) : (X.wish E).Ok :=
  ⟨ok.mod, ok.kind, ok.glob, ok.blt, ok.above, ok.inj, ok.has, ok.cab, ok.hd, ok.frames, ok.stk, ok.exf, ok.bs, ok.bsz, ok.noex, ok.exfs, ok.funs, ok.frf⟩
theorem Cx.Ok.unwish {X : Cx} {E : Value → Shared → Prop} (ok : (X.wish E).Ok) : X.Ok :=
  ⟨ok.mod, ok.kind, ok.glob, ok.blt, ok.above, ok.inj, ok.has, ok.cab, ok.hd, ok.frames, ok.stk, ok.exf, ok.bs, ok.bsz, ok.noex, ok.exfs, ok.funs, ok.frf⟩
section
variable {X : Cx} {pins : List (Addr × Obj)} {σ : St} {H : Hp} {s : Shared} {E : Value → Shared → Prop}
theorem Inv.wish (I : Inv X pins σ H s) (E : Value → Shared → Prop) : Inv (X.wish E) pins σ H s := ⟨I.ok.wish E, I.os, I.bare, I.base, I.loc, I.cell, I.free, I.freeC, I.pin, I.hok, I.len⟩
theorem Inv.unwish (I : Inv (X.wish E) pins σ H s) : Inv X pins σ H s := ⟨I.ok.unwish, I.os, I.bare, I.base, I.loc, I.cell, I.free, I.freeC, I.pin, I.hok, I.len⟩
theorem SP.unwish {D : Ends} {f : Flow} {s' : Shared} (h : SP (X.wish E) pins D f s') : SP X pins D f s' := by
  cases f with
  | next => obtain ⟨σ', H', I, q⟩ := h; exact ⟨σ', H', I.unwish, q⟩
  | brk => obtain ⟨σ', H', I, q⟩ := h; exact ⟨σ', H', I.unwish, q⟩
  | cont => obtain ⟨σ', H', I, q⟩ := h; exact ⟨σ', H', I.unwish, q⟩
  | ret u => obtain ⟨v, σ', H', I, r, q⟩ := h; exact ⟨v, σ', H', I.unwish, r, q⟩
theorem PE.nox {e : Expr} {t : TE} (h : PE X.nox e t) : PE X e t := fun pins s σ H Q I hw =>
  wpAny_mono (h pins s σ H Q (I.wish _) hw) (fun _ _ ⟨v, H', I', r, q⟩ => ⟨v, H', I'.unwish, r, q⟩) fun _ _ z => False.elim z
theorem PT.nox {e : Expr} {t : TT} (h : PT X.nox e t) : PT X e t := fun pins s σ H Q I hw =>
  wpAny_mono (h pins s σ H Q (I.wish _) hw) (fun _ _ ⟨H', I', q⟩ => ⟨H', I'.unwish, q⟩) fun _ _ z => False.elim z
theorem PSs.nox {st : List Stmt} {t : TS} (h : PSs X.nox st t) : PSs X st t := fun pins s σ H D I hw =>
  wpAny_mono (h pins s σ H D (I.wish _) hw) (fun _ _ q => q.unwish) fun _ _ z => False.elim z
end

/-! ### blocks and small statements -/
section
variable {X : Cx} {st : Stmt} {rest : List Stmt} {t u : TS} {e : Expr} {te : TE} {pos : Pos}
def tNext : TS := fun D σ H => D.nx σ H
def tSeq (t u : TS) : TS := fun D σ H => t { D with nx := u D } σ H
theorem pss_nil : PSs X [] tNext := fun _ _ σ H _ I h => wpAny_execs_nil ⟨σ, H, I, h⟩
theorem pss_cons (h1 : PS X st t) (h2 : PSs X rest u) : PSs X (st :: rest) (tSeq t u) := by
  intro pins s σ H D I h
  refine wpAny_execs_cons (thn (h1 pins s σ H { D with nx := u D } I h) fun f s1 q => ?_)
  cases f with
  | next =>
    obtain ⟨σ', H', I', q⟩ := q
    exact h2 pins s1 σ' H' D I' q
  | ret v => exact q
  | brk => exact q
  | cont => exact q
theorem pss_one (h1 : PS X st t) : PSs X [st] t := by
  intro pins s σ H D I h
  refine wpAny_execs_cons (thn (h1 pins s σ H D I h) fun f s1 q => ?_)
  cases f with
  | next => exact wpAny_execs_nil q
  | ret v => exact q
  | brk => exact q
  | cont => exact q
def tBreak : TS := fun D σ H => D.bk σ H
def tCont : TS := fun D σ H => D.ct σ H
theorem ps_pass : PS X (.Pass pos) tNext := fun _ _ σ H _ I h => wpAny_Pass ⟨σ, H, I, h⟩
theorem ps_break : PS X (.Break pos) tBreak := fun _ _ σ H _ I h => wpAny_Break ⟨σ, H, I, h⟩
theorem ps_continue : PS X (.Continue pos) tCont := fun _ _ σ H _ I h => wpAny_Continue ⟨σ, H, I, h⟩
/-- in a def's body nothing is shown -/
theorem Inv.quiet {pins : List (Addr × Obj)} {σ : St} {H : Hp} {s : Shared} (I : Inv X pins σ H s) : interactive X.env = false := by simp [interactive, I.ok.kind]
/-- a docstring -/
theorem ps_doc {x j pos pos'} : PS X (.Expr (.Constant (.str x) j pos) pos') tNext := fun _ s σ H _ I h => wpAny_Expr (Calls.Constant_str (show SP X _ _ .next { s with toks := s.toks + 1 } from ⟨σ, H, I.tok _, h⟩)) I.quiet
/-- an expression whose value is dropped -/
def tDrop (te : TE) : TS := fun D σ H => te σ H fun _ H1 => D.nx σ H1
theorem ps_expr (he : PE X e te) (hs : swapsWith e none pos.line X.env = pure false := by rfl) : PS X (.Expr e pos) (tDrop te) := by
  intro pins s σ H D I h
  exact wpAny_Expr_any (thn (he pins s σ H _ I h) fun v s1 ⟨x, H1, I1, r1, q1⟩ => ⟨σ, H1, I1, q1⟩) I.quiet hs
def tRet (te : TE) : TS := fun D σ H => te σ H D.rt
theorem ps_ret (he : PE X e te) : PS X (.Return (some e) pos) (tRet te) := by
  intro pins s σ H D I h
  exact wpAny_Return_some (thn (he pins s σ H _ I h) fun v s1 ⟨x, H1, I1, r1, q1⟩ => ⟨x, σ, H1, I1, r1, q1⟩)
def tRetN : TS := fun D _ H => D.rt .non H
theorem ps_retN : PS X (.Return none pos) tRetN := fun _ _ σ H _ I h => wpAny_Return_none ⟨.non, σ, H, I, rfl, h⟩
def tIfS (c : TT) (t u : TS) : TS := fun D σ H => c σ H fun b H1 => if b = true then t D σ H1 else u D σ H1
theorem ps_if {c : Expr} {a b : List Stmt} {tc : TT} (hc : PT X c tc) (ha : PSs X a t) (hb : PSs X b u) : PS X (.If c a b pos) (tIfS tc t u) := by
  intro pins s σ H D I h
  refine wpAny_If (thn (hc pins s σ H _ I h) fun d s1 ⟨H1, I1, q1⟩ => ?_)
  cases d with
  | true => exact ha pins s1 σ H1 D I1 q1
  | false => exact hb pins s1 σ H1 D I1 q1
/-- code that the proof never comes to -/
def tNever : TS := fun _ _ _ => False
theorem ps_never : PS X st tNever := fun _ _ _ _ _ _ h => h.elim
theorem pss_never {sts : List Stmt} : PSs X sts tNever := fun _ _ _ _ _ _ h => h.elim
end

/-! ### targets -/
abbrev TG := V → St → Hp → (St → Hp → Prop) → Prop
abbrev TGs := List V → St → Hp → (St → Hp → Prop) → Prop
def PG (X : Cx) (target : Expr) (t : TG) : Prop :=
  ∀ (pins : List (Addr × Obj)) (s : Shared) (σ : St) (H : Hp) (v : V) (u : Value) (Q : St → Hp → Prop), Inv X pins σ H s → RelV v u → t v σ H Q →
    wpAny (model X.prog X.w) X.A (assign target X.env u) (fun _ s' => ∃ σ' H', Inv X pins σ' H' s' ∧ Q σ' H') X.xe s
/-- several targets, one after another -/
def PGs (X : Cx) (ts : List Expr) (t : TGs) : Prop :=
  ∀ (pins : List (Addr × Obj)) (s : Shared) (σ : St) (H : Hp) (vs : List V) (us : List Value) (Q : St → Hp → Prop), Inv X pins σ H s → Vals vs us → t vs σ H Q →
    wpAny (model X.prog X.w) X.A (assignInOrder ((assignEach ts X.env).map (·.2)) us) (fun _ s' => ∃ σ' H', Inv X pins σ' H' s' ∧ Q σ' H') X.xe s
/-- o[i] = v, by values -/
abbrev TSet := V → V → V → Hp → (Hp → Prop) → Prop
def PSet (X : Cx) (t : TSet) : Prop :=
  ∀ (pins : List (Addr × Obj)) (s : Shared) (σ : St) (H : Hp) (o i v : V) (ov iv u : Value) (Q : Hp → Prop), Inv X pins σ H s → RelV o ov → RelV i iv → RelV v u → t o i v H Q →
    wpAny (model X.prog X.w) X.A (setItem ov iv u) (fun _ s' => ∃ H', Inv X pins σ H' s' ∧ Q H') X.xe s
/-- a op= b, by values -/
abbrev TIp := V → V → Hp → VK → Prop
def PIp (X : Cx) (op : Operator) (t : TIp) : Prop :=
  ∀ (pins : List (Addr × Obj)) (s : Shared) (σ : St) (H : Hp) (x y : V) (v u : Value) (Q : VK), Inv X pins σ H s → RelV x v → RelV y u → t x y H Q →
    wpAny (model X.prog X.w) X.A (inplaceOp op v u) (EP X pins σ Q) X.xe s
section
variable {X : Cx} {pos : Pos}
def gName (i : Nat) : TG := fun v σ H Q => Q (σ.set i (some v)) H
theorem pg_name {i : Nat} {x : Str} (hN : X.N.Nodup) (hi : X.N[i]? = some x) (hx : Loc X.env.scope x) (hf : X.fn x = true ∨ X.env.scope.names.lookup x = some .local := by first | exact .inl rfl | exact .inr rfl | assumption) : PG X (.Name x pos) (gName i) := by
  intro pins s σ H v u Q I r h
  exact wpAny_assign_Name (store_ok I hN hi hx r (fun s' I' => ⟨_, H, I', h⟩) hf)
def gNil : TGs := fun vs σ H Q => vs = [] ∧ Q σ H
def gCons (t : TG) (u : TGs) : TGs := fun vs σ H Q => ∃ v r, vs = v :: r ∧ t v σ H fun σ' H' => u r σ' H' Q
theorem pgs_nil : PGs X [] gNil := by
  intro pins s σ H vs us Q I r h
  obtain ⟨e, h⟩ := h
  subst e
  cases r
  exact assignInOrder_nil ⟨σ, H, I, h⟩
theorem pgs_cons {e : Expr} {es : List Expr} {t : TG} {u : TGs} (h1 : PG X e t) (h2 : PGs X es u)
    (hs : (assignEach (e :: es) X.env).map (·.2) = assign e X.env :: (assignEach es X.env).map (·.2) := by rfl) : PGs X (e :: es) (gCons t u) := by
  intro pins s σ H vs us Q I r h
  obtain ⟨v, vr, e1, h⟩ := h
  subst e1
  cases r with
  | cons r rr =>
    rw [hs]
    refine assignInOrder_cons (thn (h1 pins s σ H _ _ _ I r h) fun _ s1 ⟨σ1, H1, I1, q1⟩ => ?_)
    exact h2 pins s1 σ1 H1 _ _ Q I1 rr q1
/-- (a, b, ..) = a tuple of that length -/
def gTup (K : PySem.W.Frag) (n : Nat) (t : TGs) : TG := fun v σ H Q => ∃ a xs, v = .ref a ∧ SqT K H a xs ∧ xs.length = n ∧ t xs σ H Q
theorem pg_tup {es : List Expr} {k : Nat} {t : TGs} {n : Nat} (hc : X.calm = true) (h : PGs X es t)
    (hn : (assignEach es X.env).length = n := by rfl) (hst : (assignEach es X.env).findIdx? (·.1) = none := by rfl) : PG X (.Tuple es k pos) (gTup X.K n t) := by
  intro pins s σ H v u Q I r hw
  obtain ⟨a, xs, e1, hq, hl, hw⟩ := hw
  subst e1
  cases r
  obtain ⟨its, rv, ht, hz⟩ := I.tuple hq
  refine assign_Tuple_tuple (I.ok.hd hc) ht (by simp [hn, ← hl, rv.length]) hst fun h' hx => ?_
  have I1 : Inv X pins σ H { s with heap := h' } := I.kept (t' := s.toks) fun b o e => hx b o (Nat.ne_of_lt (Heap.lt_size e)) e
  exact h pins _ σ H xs _ Q I1 (by simpa using rv) hw
/-- o[i] = .. -/
def gSub (to ti : TE) (t : TSet) : TG := fun v σ H Q => to σ H fun o H1 => ti σ H1 fun i H2 => t o i v H2 fun H3 => Q σ H3
theorem pg_sub {o i : Expr} {to ti : TE} {t : TSet} (ho : PE X o to) (hi : PE X i ti) (hs : PSet X t)
    (ha : ∀ v, assign (.Subscript o i pos) X.env v = (do
      let ov ← holding [v] (eval o X.env)
      let iv ← holding [v, ov] (eval i X.env)
      standAt pos
      holding [v, ov, iv] (setItem ov iv v)
      release [v, ov, iv] []) := by intro _; rfl) : PG X (.Subscript o i pos) (gSub to ti t) := by
  intro pins s σ H v u Q I r h
  rw [ha]
  refine wpAny_bind (wpAny_holding (thn (ho pins s σ H _ I h) fun ov s1 ⟨x, H1, I1, r1, q1⟩ => ?_))
  refine wpAny_bind (wpAny_holding (thn (hi pins s1 σ H1 _ I1 q1) fun iv s2 ⟨y, H2, I2, r2, q2⟩ => ?_))
  refine wpAny_bind (wpAny_standAt (wpAny_bind (wpAny_holding (thn (hs pins s2 σ H2 x y v ov iv u _ I2 r1 r2 r q2) fun _ s3 ⟨H3, I3, q3⟩ => ?_))))
  exact wpAny_release ⟨σ, H3, I3, q3⟩
/-- target = value -/
def tAsg (te : TE) (g : TG) : TS := fun D σ H => te σ H fun x H1 => g x σ H1 D.nx
theorem ps_asg {tg e : Expr} {te : TE} {g : TG} (he : PE X e te) (hg : PG X tg g) (hs : swapsWithSole [tg] e pos.line X.env = pure false := by rfl) (hw : swappedStores [tg] e X.env = pure none := by rfl)
    (h1 : (assignEach [tg] X.env).map (·.2) = [assign tg X.env] := by rfl) : PS X (.Assign [tg] e pos) (tAsg te g) := by
  intro pins s σ H D I h
  refine wpAny_Assign_stores (thn (he pins s σ H _ I h) fun v s1 ⟨x, H1, I1, r1, q1⟩ => ?_) hs hw
  rw [h1]
  exact thn (hg pins s1 σ H1 x v _ I1 r1 q1) fun _ s2 q => q
/-- name = value -/
theorem ps_set {i : Nat} {x : Str} {e : Expr} {te : TE} {pos' : Pos} (hN : X.N.Nodup) (hi : X.N[i]? = some x) (hx : Loc X.env.scope x) (he : PE X e te) (hs : swapsWith e (some (.Name x pos')) pos.line X.env = pure false := by rfl) (hf : X.fn x = true ∨ X.env.scope.names.lookup x = some .local := by first | exact .inl rfl | exact .inr rfl | assumption) :
    PS X (.Assign [.Name x pos'] e pos) (tAsg te (gName i)) := by
  intro pins s σ H D I h
  refine wpAny_Assign_Name (thn (he pins s σ H _ I h) fun v s1 ⟨y, H1, I1, r1, q1⟩ => ?_) hs
  exact store_ok I1 hN hi hx r1 (fun s2 I2 => ⟨_, H1, I2, q1⟩) hf
/-- a, b = x, y with plain local names: stored from the right; the pair itself is not tracked (the opening rows as in PyProof/Rows/TupAssign.lean:23) -/
def tPar (i j : Nat) (ta : TA) : TS := fun D σ H => ta σ H fun vs H1 => ∃ v w, vs = [v, w] ∧ D.nx ((σ.set i (some v)).set j (some w)) H1
theorem ps_par {i j : Nat} {x y : Str} {a b : Expr} {ta : TA} {px py pt : Pos} {kt k2 pt2} (hc : X.calm = true) (hN : X.N.Nodup) (hi : X.N[i]? = some x) (hj : X.N[j]? = some y) (hij : i ≠ j)
    (hx : X.env.scope.names.lookup x = some .local) (hy : X.env.scope.names.lookup y = some .local) (ha : PA X [a, b] ta)
    (hw : swappedStores [.Tuple [.Name x px, .Name y py] kt pt] (.Tuple [a, b] k2 pt2) X.env = pure (some [x, y]))
    (hs : swapsWithSole [.Tuple [.Name x px, .Name y py] kt pt] (.Tuple [a, b] k2 pt2) pos.line X.env = pure false := by rfl) :
    PS X (.Assign [.Tuple [.Name x px, .Name y py] kt pt] (.Tuple [a, b] k2 pt2) pos) (tPar i j ta) := by
  intro pins s σ H D I h
  rw [exec_Assign_arm]
  refine wpAny_bind (wpAny_standAt ?_)
  rw [hs]
  refine wpAny_bind (wpAny_pure ?_)
  rw [if_neg (by decide)]
  refine wpAny_bind (Tuple_ (thn (ha _ pins s σ H _ I h) fun us s1 ⟨vs, H1, I1, r1, q1⟩ => ?_))
  obtain ⟨v, w, e1, q1⟩ := q1
  subst e1
  obtain ⟨u1, u2, rfl, rv, rw'⟩ : ∃ u1 u2, us = [u1, u2] ∧ RelV v u1 ∧ RelV w u2 := by
    cases r1 with
    | cons p q =>
      cases q with
      | cons p' q' =>
        cases q'
        exact ⟨_, _, rfl, p, p'⟩
  refine wpAny_newObj_type ?_ (by show 2 ≤ sizeLine; decide)
  have I2 : Inv X pins σ H1 { s1 with heap := s1.heap.push { cls := .type "tuple", data := .seq [u1, u2].toArray } } := I1.kept (t' := s1.toks) fun b o e => Heap.get?_push_of_some _ e
  rw [hw]
  refine wpAny_bind (wpAny_pure ?_)
  show wpAny (model X.prog X.w) X.A (do rule "assign.swapped-stores"; let items ← unpackItems (.ref s1.heap.objs.size) 2 none; assignInOrder [fun v => bindName X.env y v, fun v => bindName X.env x v] items.reverse; pure Flow.next) _ _ _
  refine wpAny_bind (wpAny_rule (wpAny_bind (unpackItems_tuple (items := #[u1, u2]) (I.ok.hd hc) (IsTup.new s1.heap _) fun h' hx' => ?_)))
  have I3 := I2.kept (h' := h') (t' := s1.toks) fun b o e => hx' b o (Nat.ne_of_lt (Heap.lt_size e)) e
  show wpAny _ _ (assignInOrder [fun v => bindName X.env y v, fun v => bindName X.env x v] [u2, u1] >>= fun _ => pure Flow.next) _ _ _
  refine wpAny_bind (assignInOrder_cons (wpAny_bindName (store_ok I3 hN hj (.inl hy) rw' (fun s2 I4 => ?_) (.inr hy))))
  refine assignInOrder_cons (wpAny_bindName (store_ok I4 hN hi (.inl hx) rv (fun s3 I5 => assignInOrder_nil (wpAny_pure ?_)) (.inr hx)))
  rw [List.set_comm _ _ (Ne.symm hij)] at I5
  exact ⟨_, H1, I5, q1⟩
/-- name op= e -/
def tAug (i : Nat) (te : TE) (ti : TIp) : TS := fun D σ H => ∃ x, σ[i]? = some (some x) ∧ te σ H fun y H1 => ti x y H1 fun z H2 => D.nx (σ.set i (some z)) H2
theorem ps_aug {i : Nat} {x : Str} {e : Expr} {te : TE} {op : Operator} {ti : TIp} {pos' : Pos} (hN : X.N.Nodup) (hi : X.N[i]? = some x) (hx : Loc X.env.scope x) (he : PE X e te) (ho : PIp X op ti) (hf : X.fn x = true ∨ X.env.scope.names.lookup x = some .local := by first | exact .inl rfl | exact .inr rfl | assumption) :
    PS X (.AugAssign (.Name x pos') op e pos) (tAug i te ti) := by
  intro pins s σ H D I h
  obtain ⟨v, e1, h⟩ := h
  obtain ⟨m, hn, hl⟩ := I.loc
  have vis : Vis X.env.scope x := by rcases hx with k | k; exact .inl k; exact .inr (.inl k)
  obtain ⟨u, r, l⟩ := hl i x v hi e1 vis
  refine wpAny_AugAssign_Name ?_
  have go : wpAny (model X.prog X.w) X.A (eval e X.env) (fun w s₂ => wpAny (model X.prog X.w) X.A (inplaceOp op u w) (fun r s₃ => wpAny (model X.prog X.w) X.A (storeName X.env x r) (fun _ => SP X pins D .next) X.xe s₃) X.xe s₂) X.xe s := by
    refine thn (he pins s σ H _ I h) fun w s1 ⟨y, H1, I1, r1, q1⟩ => ?_
    refine thn (ho pins s1 σ H1 v y u w _ I1 r r1 q1) fun z s2 ⟨zv, H2, I2, r2, q2⟩ => ?_
    exact store_ok I2 hN hi hx r2 (fun s3 I3 => ⟨_, H2, I3, q2⟩) hf
  rcases l with ⟨hk, hm⟩ | ⟨hk, c, hc, hcell⟩
  · exact wpAny_loadName_local I.ok.kind hk hn hm go
  · rcases hk with hk | hk
    · exact wpAny_loadName_cell I.ok.kind hk hc hcell go
    · rcases hx with k | k
      · have : X.env.scope.names.lookup x = some .free := hk
        rw [k] at this; cases this
      · have : X.env.scope.names.lookup x = some .free := hk
        rw [k] at this; cases this
/-- o[i] op= e -/
def tAugS (to ti te : TE) (tget : V → V → Hp → VK → Prop) (tip : TIp) (tset : TSet) : TS := fun D σ H => to σ H fun o H1 => ti σ H1 fun i H2 => tget o i H2 fun x H3 => te σ H3 fun y H4 => tip x y H4 fun z H5 => tset o i z H5 fun H6 => D.nx σ H6
/-- o[i], by values -/
def PGet (X : Cx) (t : V → V → Hp → VK → Prop) : Prop :=
  ∀ (pins : List (Addr × Obj)) (s : Shared) (σ : St) (H : Hp) (o i : V) (ov iv : Value) (Q : VK), Inv X pins σ H s → RelV o ov → RelV i iv → t o i H Q →
    wpAny (model X.prog X.w) X.A (getItem ov iv) (EP X pins σ Q) X.xe s
theorem ps_augS {o i e : Expr} {to ti te : TE} {tget : V → V → Hp → VK → Prop} {tip : TIp} {tset : TSet} {op : Operator} {tpos : Pos} (ho : PE X o to) (hi : PE X i ti) (hg : PGet X tget) (he : PE X e te) (hp : PIp X op tip) (hs : PSet X tset)
    (ha : ∀ ov iv new, augStore i ov iv new = (do holding [new, ov, iv] (setItem ov iv new); release [new, ov, iv] []; pure .next) := by intros; rfl) : PS X (.AugAssign (.Subscript o i tpos) op e pos) (tAugS to ti te tget tip tset) := by
  intro pins s σ H D I h
  refine wpAny_AugAssign_SubscriptAny (thn (ho pins s σ H _ I h) fun ov s1 ⟨x1, H1, I1, r1, q1⟩ => ?_) ha
  refine thn (hi pins s1 σ H1 _ I1 q1) fun iv s2 ⟨x2, H2, I2, r2, q2⟩ => ?_
  refine thn (hg pins s2 σ H2 x1 x2 ov iv _ I2 r1 r2 q2) fun old s3 ⟨x3, H3, I3, r3, q3⟩ => ?_
  refine thn (he pins s3 σ H3 _ I3 q3) fun v s4 ⟨x4, H4, I4, r4, q4⟩ => ?_
  refine thn (hp pins s4 σ H4 x3 x4 old v _ I4 r3 r4 q4) fun new s5 ⟨x5, H5, I5, r5, q5⟩ => ?_
  exact thn (hs pins s5 σ H5 x1 x2 x5 ov iv new _ I5 r1 r2 r5 q5) fun _ s6 ⟨H6, I6, q6⟩ => ⟨σ, H6, I6, q6⟩
/-- ints -/
def ipI (f : Int → Int → Int) : TIp := fun x y H Q => ∃ i j, x = .int i ∧ y = .int j ∧ Q (.int (f i j)) H
theorem ip_add : PIp X .Add (ipI fun i j => i + j) := by
  intro pins s σ H x y v u Q I r1 r2 h
  obtain ⟨i, j, e1, e2, q⟩ := h
  subst e1; subst e2
  obtain ⟨t, rfl⟩ := r1
  obtain ⟨t', rfl⟩ := r2
  exact iadd_int ⟨.int _, H, I.tok _, ⟨_, rfl⟩, q⟩
theorem ip_sub : PIp X .Sub (ipI fun i j => i - j) := by
  intro pins s σ H x y v u Q I r1 r2 h
  obtain ⟨i, j, e1, e2, q⟩ := h
  subst e1; subst e2
  obtain ⟨t, rfl⟩ := r1
  obtain ⟨t', rfl⟩ := r2
  exact isub_int ⟨.int _, H, I.tok _, ⟨_, rfl⟩, q⟩
end

/-! ### while -/
section
variable {X : Cx} {pos : Pos}
/-- the invariant W with its measure -/
def tWhile (c : TT) (tb : TS) : TS := fun D σ H => ∃ W : Nat → St → Hp → Prop, (∃ m, W m σ H) ∧ ∀ m σ H, W m σ H →
  c σ H fun b H1 => if b = true then ∃ N : St → Hp → Prop, (∀ σ' H', N σ' H' → ∃ m', m' < m ∧ W m' σ' H') ∧ tb { D with nx := N, ct := N, bk := D.nx } σ H1 else D.nx σ H1
theorem ps_while {c : Expr} {body : List Stmt} {tc : TT} {tb : TS} (hp : PassesOwn (model X.prog X.w) X.A X.env X.xe) (hc : PT X c tc) (hb : PSs X body tb) : PS X (.While c body [] pos) (tWhile tc tb) := by
  intro pins s σ H D I h
  obtain ⟨W, ⟨m0, w0⟩, turn⟩ := h
  refine wpAny_While (codeAny_whileLoop (fun n s' => ∃ σ' H', Inv X pins σ' H' s' ∧ W n σ' H') ?_ m0 ⟨σ, H, I, w0⟩)
  rintro n s1 ⟨σ1, H1, I1, w1⟩
  refine wpAny_passesOwn hp (thn (hc pins s1 σ1 H1 _ I1 (turn n σ1 H1 w1)) fun b s2 ⟨H2, I2, q2⟩ => ?_)
  cases b with
  | true =>
    obtain ⟨N, hN, q2⟩ := q2
    rw [if_pos rfl]
    refine wpAny_passesOwn hp (thn (hb pins s2 σ1 H2 _ I2 q2) fun f s3 q3 => ?_)
    cases f with
    | next =>
      obtain ⟨σ3, H3, I3, n3⟩ := q3
      obtain ⟨m', hm, w3⟩ := hN σ3 H3 n3
      exact ⟨m', hm, σ3, H3, I3, w3⟩
    | cont =>
      obtain ⟨σ3, H3, I3, n3⟩ := q3
      obtain ⟨m', hm, w3⟩ := hN σ3 H3 n3
      exact ⟨m', hm, σ3, H3, I3, w3⟩
    | brk => exact q3
    | ret v => exact q3
  | false =>
    rw [if_neg Bool.false_ne_true]
    exact wpAny_execs_nil ⟨σ1, H2, I2, q2⟩
end

/-! ### what a loop or a comprehension walks -/
/-- at turn i: it yields x (the heap may grow), or it stops -/
structure It where
  go : Nat → Hp → Prop
  yld : Nat → Hp → V → Hp → Prop
  stop : Nat → Hp → Prop
/-- the iterator's own objects may turn: they are not the frame's, not pinned, younger than the entry (or a comprehension's own) -/
def FpOk (X : Cx) (pins : List (Addr × Obj)) (H : Hp) (b : Addr) : Prop :=
  H b = none ∧ b ≠ X.env.locals ∧ b ∉ X.fs ∧ (b ∈ X.ex ∨ X.s₀.heap.objs.size ≤ b) ∧ (∀ x c, X.env.cells.lookup x = some c → c ≠ b) ∧ ∀ p ∈ X.pn ++ pins, p.1 ≠ b
theorem Inv.fpOk {X : Cx} {pins : List (Addr × Obj)} {σ : St} {H H' : Hp} {s : Shared} {b : Addr} (I : Inv X pins σ H s) (hb : s.heap.objs.size ≤ b) (hn : H' b = none) : FpOk X pins H' b := by
  refine ⟨hn, Nat.ne_of_gt (Nat.lt_of_lt_of_le I.lt hb), I.nofs hb, .inr (Nat.le_trans I.sz hb), fun x c e z => ?_, fun p hp z => ?_⟩
  · obtain ⟨v, q⟩ := I.cell x c e
    exact absurd (Nat.lt_of_lt_of_le q.lt (by rw [z]; exact hb)) (Nat.lt_irrefl _)
  · exact absurd (Nat.lt_of_lt_of_le (Heap.lt_size (I.pin p hp).1) (by rw [z]; exact hb)) (Nat.lt_irrefl _)
structure Turn (P : Program) (w : World) (K : PySem.W.Frag) (tg : Expr) (J : It) (fp : List Addr) (it : Addr) (tn : Nat → Heap → Prop) : Prop where
  mem : it ∈ fp
  obj : ∀ i h, tn i h → ∀ b ∈ fp, ∃ o, h.get? b = some o ∧ ∀ v, o.data ≠ .cell v
  keep : ∀ i h h', tn i h → (∀ b ∈ fp, ∀ o, h.get? b = some o → h'.get? b = some o) → tn i h'
  item : ∀ (X : Cx), X.prog = P → X.w = w → X.K = K → X.calm = true → ∀ (i : Nat) (pins : List (Addr × Obj)) (s : Shared) (σ : St) (H : Hp) (E : Value → Shared → Prop), Inv X pins σ H s → (∀ b ∈ fp, FpOk X pins H b) → tn i s.heap → J.go i H →
    wpAny (model P w) X.A (pyNext (.ref it)) (fun r s1 => ∃ u, r = some u ∧
      wpAny (model P w) X.A (letOwnedTupleGo tg (.ref it) u) (fun _ s2 => ∃ x H', Inv X pins σ H' s2 ∧ RelV x u ∧ J.yld i H x H' ∧ tn (i + 1) s2.heap ∧ ∀ b ∈ fp, H' b = none) E s1) E s
  done : ∀ (X : Cx), X.prog = P → X.w = w → X.K = K → X.calm = true → ∀ (i : Nat) (pins : List (Addr × Obj)) (s : Shared) (σ : St) (H : Hp) (E : Value → Shared → Prop), Inv X pins σ H s → (∀ b ∈ fp, FpOk X pins H b) → tn i s.heap → J.stop i H →
    wpAny (model P w) X.A (pyNext (.ref it)) (fun r s1 => r = none ∧ Inv X pins σ H s1) E s
  self : ∀ (A : Around) (i : Nat) (s : Shared) (Q : Value → Shared → Prop) (E : Value → Shared → Prop), tn i s.heap → Q (.ref it) s → wpAny (model P w) A (pyIter (.ref it)) Q E s
abbrev TI := St → Hp → (It → Hp → Prop) → Prop
/-- an iterator has come -/
def PIE (X : Cx) (pins : List (Addr × Obj)) (σ : St) (tg : Expr) (R : It → Hp → Prop) (itv : Value) (s2 : Shared) : Prop :=
  ∃ (it : Addr) (fp : List Addr) (tn : Nat → Heap → Prop) (J : It) (H' : Hp), itv = .ref it ∧ Inv X pins σ H' s2 ∧ Turn X.prog X.w X.K tg J fp it tn ∧ tn 0 s2.heap ∧ (∀ b ∈ fp, FpOk X pins H' b) ∧ R J H'
def PI (X : Cx) (tg iter : Expr) (wi : TI) : Prop :=
  ∀ (pins : List (Addr × Obj)) (s : Shared) (σ : St) (H : Hp) (R : It → Hp → Prop), Inv X pins σ H s → wi σ H R →
    wpAny (model X.prog X.w) X.A (eval iter X.env) (fun v s1 => wpAny (model X.prog X.w) X.A (pyIter v) (PIE X pins σ tg R) X.xe s1) X.xe s

/-- the step ahead of the store is nothing for an iterator that keeps no tuple -/
theorem go_of {M : Model} {A : Around} {E : Value → Shared → Prop} {s : Shared} {tg : Expr} {it : Addr} {u : Value} {o : Obj} {n : String} {vs : Array Value} {Q : Unit → Shared → Prop} (ho : s.heap.get? it = some o) (hc : o.cls = .type n) (hd : o.data = .fields vs)
    (hn : ["enumerate", "zip", "dict_itemiterator", "dict_reverseitemiterator", "odict_iterator", "itertools.zip_longest", "itertools.pairwise"].contains n = false) (hQ : Q () s) : wpAny M A (letOwnedTupleGo tg (.ref it) u) Q E s := by
  unfold letOwnedTupleGo
  cases tg <;> first
    | exact wpAny_pure hQ
    | (cases u <;> first
        | exact wpAny_pure hQ
        | (refine wpAny_bind (wpAny_load ho ?_)
           rw [hc, hd]
           show wpAny M A (if (["enumerate", "zip", "dict_itemiterator", "dict_reverseitemiterator", "odict_iterator", "itertools.zip_longest", "itertools.pairwise"].contains n && vs[0]? == some (rawInt _)) = true then _ else _) Q E s
           rw [if_neg (by intro h; rw [hn, Bool.false_and] at h; cases h)]
           exact wpAny_pure hQ))

/-- the list at a, as it stands at each turn (a loop may append to it) -/
def Itl (K : PySem.W.Frag) (a : Addr) : It :=
  ⟨fun i H => ∃ xs x, SqL K H a xs ∧ xs[i]? = some x, fun i H x H' => H' = H ∧ ∀ xs, SqL K H a xs → xs[i]? = some x, fun i H => ∃ xs, SqL K H a xs ∧ xs.length ≤ i⟩
def Itt (K : PySem.W.Frag) (a : Addr) : It :=
  ⟨fun i H => ∃ xs x, SqT K H a xs ∧ xs[i]? = some x, fun i H x H' => H' = H ∧ ∀ xs, SqT K H a xs → xs[i]? = some x, fun i H => ∃ xs, SqT K H a xs ∧ xs.length ≤ i⟩
/-- lo, lo + 1, .. (n of them) -/
def Itr (lo : Int) (n : Nat) : It := ⟨fun i _ => i < n, fun i H x H' => H' = H ∧ x = .int (lo + i), fun i _ => n ≤ i⟩
theorem turn_list {P : Program} {w : World} {K : PySem.W.Frag} {tg : Expr} (a it : Addr) : Turn P w K tg (Itl K a) [it] it (fun i h => h.IsListIter it a i) where
  mem := by simp
  obj := fun i h st b hb => by
    have e : b = it := by simpa using hb
    subst e
    obtain ⟨o, e, c, d⟩ := st
    exact ⟨o, e, fun v z => by rw [d] at z; cases z⟩
  keep := fun i h h' st k => st.at fun o e => k it (by simp) o e
  item := by
    intro X hP hw hK hc i pins s σ H E I hf st hg
    subst hP hw hK
    obtain ⟨xs, x, hq, hx⟩ := hg
    obtain ⟨its, rv, p, hz⟩ := I.list hq
    obtain ⟨u, hu, ru⟩ := rv.get hx
    obtain ⟨f0, f1, f2, f3, f4, f5⟩ := hf it (by simp)
    refine wpAny_pyNext_list_item st p.isList (x := u) (by simpa using hu) fun h' st' sb => ?_
    have I1 : Inv X pins σ H { s with heap := h' } := I.turned (t' := s.toks) (fun b o hb e => (sb.2 b hb).trans e) f0 f1 f3 f4 f5
    obtain ⟨o, e, c, d⟩ := id st'
    exact ⟨u, rfl, go_of (s := { s with heap := h' }) e c d (by decide) ⟨x, H, I1, ru, ⟨rfl, fun ys hy => by rw [I.list_inj hy hq]; exact hx⟩, st', fun b hb => (hf b hb).1⟩⟩
  done := by
    intro X hP hw hK hc i pins s σ H E I hf st hg
    subst hP hw hK
    obtain ⟨xs, hq, hx⟩ := hg
    obtain ⟨its, rv, p, hz⟩ := I.list hq
    obtain ⟨f0, f1, f2, f3, f4, f5⟩ := hf it (by simp)
    have hl := rv.length
    exact wpAny_pyNext_list_end (I.ok.hd hc) st p.isList (by simp; omega) fun h' eb => ⟨rfl, I.turned (t' := s.toks) (fun b o hb e => eb b o hb e) f0 f1 f3 f4 f5⟩
  self := fun _ _ _ _ _ st h => wpAny_pyIter_listiter st h
theorem turn_tuple {P : Program} {w : World} {K : PySem.W.Frag} {tg : Expr} (a it : Addr) : Turn P w K tg (Itt K a) [it] it (fun i h => h.IsTupleIter it a i) where
  mem := by simp
  obj := fun i h st b hb => by
    have e : b = it := by simpa using hb
    subst e
    obtain ⟨o, e, c, d⟩ := st
    exact ⟨o, e, fun v z => by rw [d] at z; cases z⟩
  keep := fun i h h' st k => st.at fun o e => k it (by simp) o e
  item := by
    intro X hP hw hK hc i pins s σ H E I hf st hg
    subst hP hw hK
    obtain ⟨xs, x, hq, hx⟩ := hg
    obtain ⟨its, rv, p, hz⟩ := I.tuple hq
    obtain ⟨u, hu, ru⟩ := rv.get hx
    obtain ⟨f0, f1, f2, f3, f4, f5⟩ := hf it (by simp)
    refine wpAny_pyNext_tuple_item st (show s.heap.IsTuple a its.toArray from p) (x := u) (by simpa using hu) fun h' st' sb => ?_
    have I1 : Inv X pins σ H { s with heap := h' } := I.turned (t' := s.toks) (fun b o hb e => (sb.2 b hb).trans e) f0 f1 f3 f4 f5
    obtain ⟨o, e, c, d⟩ := id st'
    exact ⟨u, rfl, go_of (s := { s with heap := h' }) e c d (by decide) ⟨x, H, I1, ru, ⟨rfl, fun ys hy => by rw [I.tuple_inj hy hq]; exact hx⟩, st', fun b hb => (hf b hb).1⟩⟩
  done := by
    intro X hP hw hK hc i pins s σ H E I hf st hg
    subst hP hw hK
    obtain ⟨xs, hq, hx⟩ := hg
    obtain ⟨its, rv, p, hz⟩ := I.tuple hq
    obtain ⟨f0, f1, f2, f3, f4, f5⟩ := hf it (by simp)
    have hl := rv.length
    exact wpAny_pyNext_tuple_end (I.ok.hd hc) st (show s.heap.IsTuple a its.toArray from p) (by simp; omega) fun h' eb => ⟨rfl, I.turned (t' := s.toks) (fun b o hb e => eb b o hb e) f0 f1 f3 f4 f5⟩
  self := fun _ _ _ _ _ st h => wpAny_pyIter_tupleiter st h
theorem turn_range {P : Program} {w : World} {K : PySem.W.Frag} {tg : Expr} (it : Addr) (lo : Int) (n : Nat) : Turn P w K tg (Itr lo n) [it] it (fun i h => IsRangeIter h it (lo + (i : Nat) * 1) ((n : Int) - (i : Nat)) 1) where
  mem := by simp
  obj := fun i h st b hb => by
    have e : b = it := by simpa using hb
    subst e
    exact ⟨_, st, fun v z => by
      have z' : Data.fields _ = Data.cell v := z
      cases z'⟩
  keep := fun i h h' st k => k it (by simp) _ st
  item := by
    intro X hP hw hK hc i pins s σ H E I hf st hg
    subst hP hw hK
    obtain ⟨f0, f1, f2, f3, f4, f5⟩ := hf it (by simp)
    have W := Walks.range (prog := X.prog) (w := X.w) (I.ok.hd hc) it lo 1 n
    refine W.item i s _ _ hg st fun v h' tk hv st' kk => ?_
    obtain ⟨t, rfl⟩ := hv
    have I1 : Inv X pins σ H { s with heap := h', toks := tk } := I.turned (fun b o hb e => kk b o (by simpa using hb) e) f0 f1 f3 f4 f5
    refine ⟨_, rfl, go_of (s := { s with heap := h', toks := tk }) (n := "range_iterator") st' rfl rfl (by decide) ⟨.int (lo + i), H, I1, ⟨t, ?_⟩, ⟨rfl, rfl⟩, st', fun b hb => (hf b hb).1⟩⟩
    rw [Int.mul_one]
  done := by
    intro X hP hw hK hc i pins s σ H E I hf st hg
    subst hP hw hK
    obtain ⟨f0, f1, f2, f3, f4, f5⟩ := hf it (by simp)
    exact wpAny_pyNext_range_end (I.ok.hd hc) st (by have : n ≤ i := hg; omega) fun h' eb => ⟨rfl, I.turned (t' := s.toks) (fun b o hb e => eb b o hb e) f0 f1 f3 f4 f5⟩
  self := fun _ _ _ _ _ st h => wpAny_pyIter_rangeiter st h
end L2

namespace L2
open PySem PySem.Spec PyProof.Rows
section
variable {X : Cx} {tg : Expr}
def iList (K : PySem.W.Frag) (tl : TE) : TI := fun σ H R => tl σ H fun x H1 => ∃ a, x = .ref a ∧ (∃ xs, SqL K H1 a xs) ∧ R (Itl K a) H1
def iTup (K : PySem.W.Frag) (tl : TE) : TI := fun σ H R => tl σ H fun x H1 => ∃ a, x = .ref a ∧ (∃ xs, SqT K H1 a xs) ∧ R (Itt K a) H1
theorem pi_list {l : Expr} {tl : TE} (hl : PE X l tl) : PI X tg l (iList X.K tl) := by
  intro pins s σ H R I h
  refine thn (hl pins s σ H _ I h) fun v s1 ⟨x, H1, I1, r1, q1⟩ => ?_
  obtain ⟨a, e, ⟨xs, hq⟩, q⟩ := q1
  subst e
  cases r1
  obtain ⟨its, rv, p, hz⟩ := I1.list hq
  refine wpAny_pyIter_list p.isList ?_
  refine ⟨s1.heap.objs.size, [s1.heap.objs.size], _, _, H1, rfl, I1.kept (t' := s1.toks) fun b o e => Heap.get?_push_of_some _ e, turn_list a _, ⟨_, Heap.get?_push_size _ rfl, rfl, rfl⟩, fun b hb => ?_, q⟩
  have e : b = s1.heap.objs.size := by simpa using hb
  subst e
  exact I1.fpOk (Nat.le_refl _) (I1.hok.fresh (Nat.le_refl _))
theorem pi_tup {l : Expr} {tl : TE} (hl : PE X l tl) : PI X tg l (iTup X.K tl) := by
  intro pins s σ H R I h
  refine thn (hl pins s σ H _ I h) fun v s1 ⟨x, H1, I1, r1, q1⟩ => ?_
  obtain ⟨a, e, ⟨xs, hq⟩, q⟩ := q1
  subst e
  cases r1
  obtain ⟨its, rv, p, hz⟩ := I1.tuple hq
  refine wpAny_pyIter_tuple (show s1.heap.IsTuple a its.toArray from p) ?_
  refine ⟨s1.heap.objs.size, [s1.heap.objs.size], _, _, H1, rfl, I1.kept (t' := s1.toks) fun b o e => Heap.get?_push_of_some _ e, turn_tuple a _, ⟨_, Heap.get?_push_size _ rfl, rfl, rfl⟩, fun b hb => ?_, q⟩
  have e : b = s1.heap.objs.size := by simpa using hb
  subst e
  exact I1.fpOk (Nat.le_refl _) (I1.hok.fresh (Nat.le_refl _))
/-- a range object just made, walked -/
theorem range_it {pins : List (Addr × Obj)} {σ : St} {H : Hp} {s : Shared} {R : It → Hp → Prop} {E : Value → Shared → Prop} {lo hi : Int} {t u v : Tok} {tk : Nat} (I : Inv X pins σ H s) (h1 : -(2 ^ 62) ≤ lo) (h2 : lo < 2 ^ 62) (h3 : -(2 ^ 62) ≤ hi) (h4 : hi < 2 ^ 62)
    (q : R (Itr lo (hi - lo).toNat) H) : wpAny (model X.prog X.w) X.A (pyIter (.ref s.heap.objs.size)) (PIE X pins σ tg R) E { s with heap := s.heap.push { cls := .type "range", data := .fields #[.int lo t, .int hi u, .int 1 v] }, toks := tk } := by
  refine wpAny_pyIter_range (IsRange.new ..) (small_one h1 h2 h3 h4) ?_
  have I1 : Inv X pins σ H { s with heap := s.heap.push { cls := .type "range", data := .fields #[.int lo t, .int hi u, .int 1 v] }, toks := tk } := I.kept fun b o e => Heap.get?_push_of_some _ e
  refine ⟨(s.heap.push { cls := .type "range", data := .fields #[.int lo t, .int hi u, .int 1 v] }).objs.size, [(s.heap.push { cls := .type "range", data := .fields #[.int lo t, .int hi u, .int 1 v] }).objs.size], _, _, H, rfl,
    I1.kept (t' := tk) fun b o e => Heap.get?_push_of_some _ e, turn_range _ lo (hi - lo).toNat, ?_, fun b hb => ?_, q⟩
  · have e1 : lo + ((0 : Nat) : Int) * 1 = lo := by simp
    have e2 : (((hi - lo).toNat : Nat) : Int) - ((0 : Nat) : Int) = Builtin.Range.rangeSize lo hi 1 := by rw [rangeSize_one]; split <;> omega
    show IsRangeIter _ _ (lo + ((0 : Nat) : Int) * 1) ((((hi - lo).toNat : Nat) : Int) - ((0 : Nat) : Int)) 1
    rw [e1, e2]
    exact Heap.get?_push_size _ rfl
  · have e : b = (s.heap.push { cls := .type "range", data := .fields #[.int lo t, .int hi u, .int 1 v] }).objs.size := by simpa using hb
    subst e
    exact I1.fpOk (Nat.le_refl _) (I1.hok.fresh (Nat.le_refl _))
def iRng1 (ta : TA) : TI := fun σ H R => ta σ H fun vs H1 => ∃ j : Int, vs = [.int j] ∧ -(2 ^ 62) ≤ j ∧ j < 2 ^ 62 ∧ R (Itr 0 j.toNat) H1
def iRng2 (ta : TA) : TI := fun σ H R => ta σ H fun vs H1 => ∃ i j : Int, vs = [.int i, .int j] ∧ (-(2 ^ 62) ≤ i ∧ i < 2 ^ 62 ∧ -(2 ^ 62) ≤ j ∧ j < 2 ^ 62) ∧ R (Itr i (j - i).toNat) H1
theorem pi_range1 {a : Expr} {ta : TA} {p pos : Pos} (hg : Gl X "range") (hm : X.mg "range" = none) (ha : PA X [a] ta) (hs : starEach [a] X.env = [(false, eval a X.env)] := by rfl) : PI X tg (.Call (.Name "range" p) [a] [] pos) (iRng1 ta) := by
  intro pins s σ H R I h
  refine Call_ (ld_blt I hg hm boot_range (PyProof.Rows.callWith_type1 (thn (ha pos pins s σ H _ I h) fun us s1 ⟨vs, H1, I1, r1, q1⟩ => ?_) hs rfl))
  obtain ⟨j, e, q1, q2, q⟩ := q1
  subst e
  cases r1 with
  | cons r rr =>
    cases rr
    obtain ⟨t, rfl⟩ := r
    exact call_range_1 (range_it I1 (by omega) (by omega) q1 q2 (by simpa using q))
theorem pi_range2 {a b : Expr} {ta : TA} {p pos : Pos} (hg : Gl X "range") (hm : X.mg "range" = none) (ha : PA X [a, b] ta) (hs : starEach [a, b] X.env = [(false, eval a X.env), (false, eval b X.env)] := by rfl) (hs2 : starEach [b] X.env = [(false, eval b X.env)] := by rfl) :
    PI X tg (.Call (.Name "range" p) [a, b] [] pos) (iRng2 ta) := by
  intro pins s σ H R I h
  refine Call_ (ld_blt I hg hm boot_range (PyProof.Rows.callWith_type1 (thn (ha pos pins s σ H _ I h) fun us s1 ⟨vs, H1, I1, r1, q1⟩ => ?_) (by rw [hs, hs2]) (by rw [hs2]; rfl)))
  obtain ⟨i, j, e, ⟨q1, q2, q3, q4⟩, q⟩ := q1
  subst e
  cases r1 with
  | cons r rr =>
    cases rr with
    | cons r' rr =>
      cases rr
      obtain ⟨t, rfl⟩ := r
      obtain ⟨t', rfl⟩ := r'
      exact call_range_2 (range_it I1 q1 q2 q3 q4 q)

/-! ### for -/
/-- W: the invariant by the turn and a measure; N: what the body is to reach -/
def tFor (wi : TI) (g : TG) (tb : TS) : TS := fun D σ H => wi σ H fun J H1 => ∃ W : Nat → Nat → St → Hp → Prop, (∃ m, W 0 m σ H1) ∧ ∀ i m σ H, W i m σ H →
  (J.stop i H ∧ D.nx σ H) ∨ (J.go i H ∧ ∃ N : St → Hp → Prop, (∀ σ' H', N σ' H' → ∃ m', m' < m ∧ W (i + 1) m' σ' H') ∧ ∀ x H', J.yld i H x H' → g x σ H' fun σ2 H2 => tb { D with nx := N, ct := N, bk := D.nx } σ2 H2)
/-- the records at fp as they stand -/
def pinsAt (fp : List Addr) (h : Heap) : List (Addr × Obj) := fp.filterMap fun b => (h.get? b).map fun o => (b, o)
theorem mem_pinsAt {fp : List Addr} {h : Heap} {b : Addr} {o : Obj} (hb : b ∈ fp) (e : h.get? b = some o) : (b, o) ∈ pinsAt fp h := List.mem_filterMap.mpr ⟨b, hb, by rw [e]; rfl⟩
theorem of_pinsAt {fp : List Addr} {h : Heap} {p : Addr × Obj} (hp : p ∈ pinsAt fp h) : p.1 ∈ fp ∧ h.get? p.1 = some p.2 := by
  obtain ⟨b, hb, e⟩ := List.mem_filterMap.mp hp
  cases q : h.get? b with
  | none => rw [q] at e; cases e
  | some o =>
    rw [q] at e
    have e' : (b, o) = p := Option.some.inj e
    subst e'
    exact ⟨hb, q⟩
theorem Inv.pinned {pins : List (Addr × Obj)} {σ : St} {H : Hp} {s : Shared} {fp : List Addr} (I : Inv X pins σ H s) (hf : ∀ b ∈ fp, FpOk X pins H b) (ho : ∀ b ∈ fp, ∃ o, s.heap.get? b = some o ∧ ∀ v, o.data ≠ .cell v) : Inv X (pins ++ pinsAt fp s.heap) σ H s :=
  I.pins_of fun p hp => (List.mem_append.mp hp).elim (fun z => I.pin p (List.mem_append_right _ z)) fun z => by
    obtain ⟨hb, e⟩ := of_pinsAt z
    obtain ⟨f0, f1, f2, _⟩ := hf p.1 hb
    obtain ⟨o, e', d⟩ := ho p.1 hb
    rw [e] at e'; cases e'
    exact ⟨e, f0, f1, f2, d⟩
theorem Inv.unpinned {pins pl : List (Addr × Obj)} {σ : St} {H : Hp} {s : Shared} (I : Inv X (pins ++ pl) σ H s) : Inv X pins σ H s := I.pins_of fun p hp => I.pin p (List.mem_append_right _ (List.mem_append_left _ hp))
theorem ps_for {iter : Expr} {body : List Stmt} {wi : TI} {g : TG} {tb : TS} {pos : Pos} (hp : PassesOwn (model X.prog X.w) X.A X.env X.xe) (hc : X.calm = true) (hi : PI X tg iter wi) (hg : PG X tg g) (hb : PSs X body tb)
    (hs : ∀ x, foldedSetIterable iter X.env x = pure x := by intro _; rfl) : PS X (.For tg iter body [] pos) (tFor wi g tb) := by
  intro pins s σ H D I h
  refine wpAny_For (thn (hi pins s σ H _ I h) fun v s1 h1 => thn h1 fun itv s2 h2 => ?_) hs
  obtain ⟨it, fp, tn, J, H2, e, I2, T, st2, f2, W, ⟨m0, w0⟩, turn⟩ := h2
  subst e
  -- what stays true of the iterator's objects through the loop
  have stat : ∀ {H' : Hp}, (∀ b ∈ fp, H' b = none) → ∀ b ∈ fp, FpOk X pins H' b := fun hn b hb => ⟨hn b hb, (f2 b hb).2⟩
  refine codeAny_forLoop_any (fun n s' => ∃ i σ' H', Inv X pins σ' H' s' ∧ tn i s'.heap ∧ (∀ b ∈ fp, H' b = none) ∧ W i n σ' H') ?_ m0 ⟨0, σ, H2, I2, st2, fun b hb => (f2 b hb).1, w0⟩
  rintro n s3 ⟨i, σ3, H3, I3, st3, fr3, w3⟩
  rcases turn i n σ3 H3 w3 with ⟨stop, qn⟩ | ⟨go, N, hN, step⟩
  · refine wpAny_passesOwn hp (thn (T.done X rfl rfl rfl hc i pins s3 σ3 H3 X.xe I3 (stat fr3) st3 stop) fun r s4 ⟨hr, I4⟩ => ?_)
    subst hr
    exact wpAny_execs_nil ⟨σ3, H3, I4, qn⟩
  · refine wpAny_passesOwn hp (thn (T.item X rfl rfl rfl hc i pins s3 σ3 H3 X.xe I3 (stat fr3) st3 go) fun r s4 ⟨u, hr, h4⟩ => ?_)
    subst hr
    refine wpAny_passesOwn hp (thn h4 fun _ s5 ⟨x, H5, I5, r5, y5, st5, fr5⟩ => ?_)
    have I5' := I5.pinned (stat fr5) (T.obj _ _ st5)
    refine wpAny_passesOwn hp (thn (hg _ s5 σ3 H5 x u _ I5' r5 (step x H5 y5)) fun _ s6 ⟨σ6, H6, I6, q6⟩ => ?_)
    refine wpAny_passesOwn hp (thn (hb _ s6 σ6 H6 _ I6 q6) fun f s7 q7 => ?_)
    have again : ∀ {σ7 : St} {H7 : Hp}, Inv X (pins ++ pinsAt fp s5.heap) σ7 H7 s7 → N σ7 H7 → ∃ m, m < n ∧ ∃ i σ' H', Inv X pins σ' H' s7 ∧ tn i s7.heap ∧ (∀ b ∈ fp, H' b = none) ∧ W i m σ' H' := fun {σ7 H7} I7 n7 => by
      obtain ⟨m', hm, w7⟩ := hN σ7 H7 n7
      refine ⟨m', hm, i + 1, σ7, H7, I7.unpinned, T.keep _ _ _ st5 fun b hb o e => (I7.pin (b, o) (List.mem_append_right _ (List.mem_append_right _ (mem_pinsAt hb e)))).1, fun b hb => ?_, w7⟩
      obtain ⟨o, e, d⟩ := T.obj _ _ st5 b hb
      exact (I7.pin (b, o) (List.mem_append_right _ (List.mem_append_right _ (mem_pinsAt hb e)))).2.1
    cases f with
    | next => obtain ⟨σ7, H7, I7, n7⟩ := q7; exact again I7 n7
    | cont => obtain ⟨σ7, H7, I7, n7⟩ := q7; exact again I7 n7
    | brk => obtain ⟨σ7, H7, I7, q7⟩ := q7; exact ⟨σ7, H7, I7.unpinned, q7⟩
    | ret v => obtain ⟨x7, σ7, H7, I7, r7, q7⟩ := q7; exact ⟨x7, σ7, H7, I7.unpinned, r7, q7⟩
end

/-! ### the forms one uses -/
/-- over a list that the body leaves as it is -/
theorem for_list {K : PySem.W.Frag} {a : Addr} {xs : List V} {g : TG} {tb : TS} {D : Ends} {σ : St} {H : Hp} (Pv : Nat → St → Hp → Prop) (h0 : Pv 0 σ H) (hl : ∀ i σ H, i ≤ xs.length → Pv i σ H → SqL K H a xs)
    (hs : ∀ i x σ H, xs[i]? = some x → Pv i σ H → g x σ H fun σ2 H2 => tb { D with nx := Pv (i + 1), ct := Pv (i + 1), bk := D.nx } σ2 H2) (hd : ∀ σ H, Pv xs.length σ H → D.nx σ H) :
    ∃ W : Nat → Nat → St → Hp → Prop, (∃ m, W 0 m σ H) ∧ ∀ i m σ H, W i m σ H →
      ((Itl K a).stop i H ∧ D.nx σ H) ∨ ((Itl K a).go i H ∧ ∃ N : St → Hp → Prop, (∀ σ' H', N σ' H' → ∃ m', m' < m ∧ W (i + 1) m' σ' H') ∧ ∀ x H', (Itl K a).yld i H x H' → g x σ H' fun σ2 H2 => tb { D with nx := N, ct := N, bk := D.nx } σ2 H2) := by
  refine ⟨fun i m σ H => m = xs.length - i ∧ i ≤ xs.length ∧ Pv i σ H, ⟨xs.length, by simp, Nat.zero_le _, h0⟩, ?_⟩
  rintro i m σ H ⟨rfl, hi, p⟩
  have q := hl i σ H hi p
  by_cases hlt : i < xs.length
  · refine .inr ⟨⟨xs, xs[i], q, by simp [hlt]⟩, Pv (i + 1), fun σ' H' p' => ⟨xs.length - (i + 1), by omega, rfl, hlt, p'⟩, fun x H' y => ?_⟩
    obtain ⟨e, y⟩ := y
    subst e
    exact hs i x σ _ (y xs q) p
  · have e : i = xs.length := by omega
    subst e
    exact .inl ⟨⟨xs, q, Nat.le_refl _⟩, hd σ H p⟩
theorem for_tup {K : PySem.W.Frag} {a : Addr} {xs : List V} {g : TG} {tb : TS} {D : Ends} {σ : St} {H : Hp} (Pv : Nat → St → Hp → Prop) (h0 : Pv 0 σ H) (hl : ∀ i σ H, i ≤ xs.length → Pv i σ H → SqT K H a xs)
    (hs : ∀ i x σ H, xs[i]? = some x → Pv i σ H → g x σ H fun σ2 H2 => tb { D with nx := Pv (i + 1), ct := Pv (i + 1), bk := D.nx } σ2 H2) (hd : ∀ σ H, Pv xs.length σ H → D.nx σ H) :
    ∃ W : Nat → Nat → St → Hp → Prop, (∃ m, W 0 m σ H) ∧ ∀ i m σ H, W i m σ H →
      ((Itt K a).stop i H ∧ D.nx σ H) ∨ ((Itt K a).go i H ∧ ∃ N : St → Hp → Prop, (∀ σ' H', N σ' H' → ∃ m', m' < m ∧ W (i + 1) m' σ' H') ∧ ∀ x H', (Itt K a).yld i H x H' → g x σ H' fun σ2 H2 => tb { D with nx := N, ct := N, bk := D.nx } σ2 H2) := by
  refine ⟨fun i m σ H => m = xs.length - i ∧ i ≤ xs.length ∧ Pv i σ H, ⟨xs.length, by simp, Nat.zero_le _, h0⟩, ?_⟩
  rintro i m σ H ⟨rfl, hi, p⟩
  have q := hl i σ H hi p
  by_cases hlt : i < xs.length
  · refine .inr ⟨⟨xs, xs[i], q, by simp [hlt]⟩, Pv (i + 1), fun σ' H' p' => ⟨xs.length - (i + 1), by omega, rfl, hlt, p'⟩, fun x H' y => ?_⟩
    obtain ⟨e, y⟩ := y
    subst e
    exact hs i x σ _ (y xs q) p
  · have e : i = xs.length := by omega
    subst e
    exact .inl ⟨⟨xs, q, Nat.le_refl _⟩, hd σ H p⟩
theorem for_range {lo : Int} {n : Nat} {g : TG} {tb : TS} {D : Ends} {σ : St} {H : Hp} (Pv : Nat → St → Hp → Prop) (h0 : Pv 0 σ H)
    (hs : ∀ i σ H, i < n → Pv i σ H → g (.int (lo + i)) σ H fun σ2 H2 => tb { D with nx := Pv (i + 1), ct := Pv (i + 1), bk := D.nx } σ2 H2) (hd : ∀ σ H, Pv n σ H → D.nx σ H) :
    ∃ W : Nat → Nat → St → Hp → Prop, (∃ m, W 0 m σ H) ∧ ∀ i m σ H, W i m σ H →
      ((Itr lo n).stop i H ∧ D.nx σ H) ∨ ((Itr lo n).go i H ∧ ∃ N : St → Hp → Prop, (∀ σ' H', N σ' H' → ∃ m', m' < m ∧ W (i + 1) m' σ' H') ∧ ∀ x H', (Itr lo n).yld i H x H' → g x σ H' fun σ2 H2 => tb { D with nx := N, ct := N, bk := D.nx } σ2 H2) := by
  refine ⟨fun i m σ H => m = n - i ∧ i ≤ n ∧ Pv i σ H, ⟨n, by simp, Nat.zero_le _, h0⟩, ?_⟩
  rintro i m σ H ⟨rfl, hi, p⟩
  by_cases hlt : i < n
  · refine .inr ⟨hlt, Pv (i + 1), fun σ' H' p' => ⟨n - (i + 1), by omega, rfl, hlt, p'⟩, fun x H' y => ?_⟩
    obtain ⟨e, y⟩ := y
    subst e y
    exact hs i σ _ hlt p
  · have e : i = n := by omega
    subst e
    exact .inl ⟨Nat.le_refl _, hd σ H p⟩
/-- while, by a word and a measure of the state -/
theorem while_by {c : TT} {tb : TS} {D : Ends} {σ : St} {H : Hp} (Pv : St → Hp → Prop) (μ : St → Hp → Nat) (h0 : Pv σ H)
    (hs : ∀ σ H, Pv σ H → c σ H fun b H1 => if b = true then tb { D with nx := fun σ' H' => Pv σ' H' ∧ μ σ' H' < μ σ H, ct := fun σ' H' => Pv σ' H' ∧ μ σ' H' < μ σ H, bk := D.nx } σ H1 else D.nx σ H1)
    (mono : ∀ σ H Q Q', (∀ b H1, Q b H1 → Q' b H1) → c σ H Q → c σ H Q') : tWhile c tb D σ H := by
  refine ⟨fun m σ H => m = μ σ H ∧ Pv σ H, ⟨_, rfl, h0⟩, ?_⟩
  rintro m σ H ⟨rfl, p⟩
  refine mono σ H _ _ (fun b H1 q => ?_) (hs σ H p)
  cases b with
  | true => exact ⟨_, fun σ' H' ⟨p', l⟩ => ⟨_, l, rfl, p'⟩, q⟩
  | false => exact q
end L2

namespace L2
open PySem PySem.Spec PyProof.Rows

abbrev R2 := V → V → Hp → VK → Prop
/-- a two-place operation on values: f is binaryOp op, inplaceOp op or compareOp op -/
def OpR (X : Cx) (f : Value → Value → Sem Value) (r : R2) : Prop :=
  ∀ (pins : List (Addr × Obj)) (s : Shared) (σ : St) (H : Hp) (x y : V) (v u : Value) (Q : VK), Inv X pins σ H s → RelV x v → RelV y u → r x y H Q →
    wpAny (model X.prog X.w) X.A (f v u) (EP X pins σ Q) X.xe s
/-- a one-place operation -/
def UnR (X : Cx) (f : Value → Sem Value) (r : V → Hp → VK → Prop) : Prop :=
  ∀ (pins : List (Addr × Obj)) (s : Shared) (σ : St) (H : Hp) (x : V) (v : Value) (Q : VK), Inv X pins σ H s → RelV x v → r x H Q →
    wpAny (model X.prog X.w) X.A (f v) (EP X pins σ Q) X.xe s
/-- a call of a value that is known (a builtin, a type) with values -/
def CallR (X : Cx) (f : Value) (r : List V → Hp → VK → Prop) : Prop :=
  ∀ (pins : List (Addr × Obj)) (s : Shared) (σ : St) (H : Hp) (xs : List V) (us : List Value) (Q : VK), Inv X pins σ H s → Vals xs us → r xs H Q →
    wpAny (model X.prog X.w) X.A (call f us) (EP X pins σ Q) X.xe s
/-- a value's truth -/
def TruR (X : Cx) (r : V → Hp → (Bool → Hp → Prop) → Prop) : Prop :=
  ∀ (pins : List (Addr × Obj)) (s : Shared) (σ : St) (H : Hp) (x : V) (v : Value) (Q : Bool → Hp → Prop), Inv X pins σ H s → RelV x v → r x H Q →
    wpAny (model X.prog X.w) X.A (truthy v) (TP X pins σ Q) X.xe s

def tOp (r : R2) (ta tb : TE) : TE := fun σ H Q => ta σ H fun x H1 => tb σ H1 fun y H2 => r x y H2 Q
def tUn (r : V → Hp → VK → Prop) (ta : TE) : TE := fun σ H Q => ta σ H fun x H1 => r x H1 Q
/-- ints in, under C, and a value out -/
def rI (C : Int → Int → Prop) (g : Int → Int → V) : R2 := fun x y H Q => ∃ i j, x = .int i ∧ y = .int j ∧ C i j ∧ Q (g i j) H
def rI0 (g : Int → Int → V) : R2 := fun x y H Q => ∃ i j, x = .int i ∧ y = .int j ∧ Q (g i j) H
def rU (g : Int → V) : V → Hp → VK → Prop := fun x H Q => ∃ i, x = .int i ∧ Q (g i) H

section
variable {X : Cx} {a b c : Expr} {ta tb tc : TE} {pos : Pos}

theorem binT (ha : PE X a ta) (hb : PE X b tb) {pins : List (Addr × Obj)} {s : Shared} {σ : St} {H : Hp} {R : V → V → Hp → Prop} (I : Inv X pins σ H s)
    (h : ta σ H fun x H1 => tb σ H1 fun y H2 => R x y H2) {Q : Value → Shared → Prop} {f : Value → Value → Sem Value}
    (hf : ∀ v u s2 x y H2, Inv X pins σ H2 s2 → RelV x v → RelV y u → R x y H2 → wpAny (model X.prog X.w) X.A (f v u) Q X.xe s2) :
    wpAny (model X.prog X.w) X.A (eval a X.env) (fun v s₁ => wpAny (model X.prog X.w) X.A (eval b X.env) (fun u s₂ => wpAny (model X.prog X.w) X.A (f v u) Q X.xe s₂) X.xe s₁) X.xe s := by
  refine thn (ha pins s σ H _ I h) fun v s1 ⟨x, H1, I1, r1, q1⟩ => ?_
  refine thn (hb pins s1 σ H1 _ I1 q1) fun u s2 ⟨y, H2, I2, r2, q2⟩ => ?_
  exact hf v u s2 x y H2 I2 r1 r2 q2

theorem pe_op {op : Operator} {r : R2} (ho : OpR X (binaryOp op) r) (ha : PE X a ta) (hb : PE X b tb) : PE X (.BinOp a op b pos) (tOp r ta tb) := by
  intro pins s σ H Q I h
  exact wpAny_BinOp (binT ha hb I h fun v u s2 x y H2 I2 rx ry q => ho pins s2 σ H2 x y v u Q I2 rx ry q)
theorem pe_un {op : UnaryOp} {r : V → Hp → VK → Prop} (ho : UnR X (unaryOp op) r) (ha : PE X a ta) : PE X (.UnaryOp op a pos) (tUn r ta) := by
  intro pins s σ H Q I h
  exact UnaryOp_ (thn (ha pins s σ H _ I h) fun v s1 ⟨x, H1, I1, r1, q1⟩ => ho pins s1 σ H1 x v Q I1 r1 q1)
/-- a op= e at a name: the name's slot i -/
theorem augR {op : Operator} {r : R2} (ho : OpR X (inplaceOp op) r) {pins : List (Addr × Obj)} {s : Shared} {σ : St} {H : Hp} {x y : V} {v u : Value} {Q : VK} (I : Inv X pins σ H s)
    (rx : RelV x v) (ry : RelV y u) (q : r x y H Q) : wpAny (model X.prog X.w) X.A (inplaceOp op v u) (EP X pins σ Q) X.xe s := ho pins s σ H x y v u Q I rx ry q

/-! ### ints -/
theorem opI {f : Value → Value → Sem Value} {C : Int → Int → Prop} {g : Int → Int → Int}
    (rule : ∀ (i j : Int) (t u : Tok) (s : Shared) (Q : Value → Shared → Prop) (E : Value → Shared → Prop), C i j → Q (.int (g i j) s.toks) { s with toks := s.toks + 1 } → wpAny (model X.prog X.w) X.A (f (.int i t) (.int j u)) Q E s) :
    OpR X f (rI C fun i j => .int (g i j)) := by
  intro pins s σ H x y v u Q I rx ry h
  obtain ⟨i, j, rfl, rfl, hc, q⟩ := h
  obtain ⟨t, rfl⟩ := rx
  obtain ⟨t', rfl⟩ := ry
  exact rule i j t t' s _ _ hc ⟨.int (g i j), H, I.tok _, ⟨_, rfl⟩, q⟩
theorem opI0 {f : Value → Value → Sem Value} {g : Int → Int → Int}
    (rule : ∀ (i j : Int) (t u : Tok) (s : Shared) (Q : Value → Shared → Prop) (E : Value → Shared → Prop), Q (.int (g i j) s.toks) { s with toks := s.toks + 1 } → wpAny (model X.prog X.w) X.A (f (.int i t) (.int j u)) Q E s) :
    OpR X f (rI0 fun i j => .int (g i j)) := by
  intro pins s σ H x y v u Q I rx ry h
  obtain ⟨i, j, rfl, rfl, q⟩ := h
  obtain ⟨t, rfl⟩ := rx
  obtain ⟨t', rfl⟩ := ry
  exact rule i j t t' s _ _ ⟨.int (g i j), H, I.tok _, ⟨_, rfl⟩, q⟩
theorem opB0 {f : Value → Value → Sem Value} {g : Int → Int → Bool}
    (rule : ∀ (i j : Int) (t u : Tok) (s : Shared) (Q : Value → Shared → Prop) (E : Value → Shared → Prop), Q (.bool (g i j)) s → wpAny (model X.prog X.w) X.A (f (.int i t) (.int j u)) Q E s) :
    OpR X f (rI0 fun i j => .bl (g i j)) := by
  intro pins s σ H x y v u Q I rx ry h
  obtain ⟨i, j, rfl, rfl, q⟩ := h
  obtain ⟨t, rfl⟩ := rx
  obtain ⟨t', rfl⟩ := ry
  exact rule i j t t' s _ _ ⟨.bl (g i j), H, I, rfl, q⟩

def CDiv (i j : Int) : Prop := 0 < j ∧ j < 1073741824
def CDivN (i j : Int) : Prop := j ≠ 0 ∧ j.natAbs < 1073741824
def CPow (i j : Int) : Prop := 0 ≤ j ∧ j ≤ 1000000 ∧ i.natAbs < 2 ^ 64
def CMul (i j : Int) : Prop := (-(2 ^ 64) < i ∧ i < 2 ^ 64) ∨ (-(2 ^ 64) < j ∧ j < 2 ^ 64)
theorem CMul.ok {i j : Int} (h : CMul i j) : IntMulOk i j := by
  rcases h with ⟨h1, h2⟩ | ⟨h1, h2⟩
  · exact .of_left (intBits_le_64 h1 h2)
  · exact .of_right (intBits_le_64 h1 h2)
theorem two_pow_nn (k : Nat) : (0 : Int) ≤ 2 ^ k := by
  rw [two_pow_cast]
  exact Int.natCast_nonneg _

theorem op_add : OpR X (binaryOp .Add) (rI0 fun i j => .int (i + j)) := opI0 fun _ _ _ _ _ _ _ q => add_int q
theorem op_sub : OpR X (binaryOp .Sub) (rI0 fun i j => .int (i - j)) := opI0 fun _ _ _ _ _ _ _ q => sub_int q
theorem op_mul : OpR X (binaryOp .Mult) (rI CMul fun i j => .int (i * j)) := opI fun _ _ _ _ _ _ _ hc q => mul_int q hc.ok
/-- // by a positive divisor -/
theorem op_fdiv : OpR X (binaryOp .FloorDiv) (rI CDiv fun i j => .int (i / j)) := opI fun i j _ _ _ _ _ hc q => by
  have h1 : (0 : Int) < j := hc.1
  have h2 : j < 1073741824 := hc.2
  exact floordiv_int (by omega) (by rw [Int.fdiv_eq_ediv_of_nonneg i (by omega)]; exact q) (.inl (PyProof.noPylong_small (by omega)))
theorem op_fdivN : OpR X (binaryOp .FloorDiv) (rI CDivN fun i j => .int (i.fdiv j)) := opI fun _ _ _ _ _ _ _ hc q => floordiv_int hc.1 q (.inl (PyProof.noPylong_small hc.2))
/-- % by a positive divisor of any size -/
theorem op_mod : OpR X (binaryOp .Mod) (rI (fun _ j => 0 < j) fun i j => .int (i % j)) := opI fun i j _ _ _ _ _ hc q => by
  have h1 : (0 : Int) < j := hc
  exact mod_int' (by omega) (by rw [Int.fmod_eq_emod_of_nonneg i (by omega)]; exact q)
theorem op_modN : OpR X (binaryOp .Mod) (rI (fun _ j => j ≠ 0) fun i j => .int (i.fmod j)) := opI fun _ _ _ _ _ _ _ hc q => mod_int' hc q
theorem op_pow : OpR X (binaryOp .Pow) (rI CPow fun i j => .int (i ^ j.toNat)) := opI fun _ _ _ _ _ _ _ hc q => pow_int_small hc.1 hc.2.1 hc.2.2 q
theorem op_shl : OpR X (binaryOp .LShift) (rI CPow fun i j => .int (i * 2 ^ j.toNat)) := opI fun _ _ _ _ _ _ _ hc q => lshift_int_small hc.1 hc.2.1 hc.2.2 q
theorem op_shr : OpR X (binaryOp .RShift) (rI (fun _ j => 0 ≤ j) fun i j => .int (i / 2 ^ j.toNat)) := opI fun i j _ _ _ _ _ hc q =>
  rshift_int hc (by rw [Int.fdiv_eq_ediv_of_nonneg i (two_pow_nn _)]; exact q)
theorem op_and : OpR X (binaryOp .BitAnd) (rI0 fun i j => .int (Builtin.bitAnd i j)) := opI0 fun _ _ _ _ _ _ _ q => and_int q
theorem op_or : OpR X (binaryOp .BitOr) (rI0 fun i j => .int (Builtin.bitOr i j)) := opI0 fun _ _ _ _ _ _ _ q => or_int q
theorem op_xor : OpR X (binaryOp .BitXor) (rI0 fun i j => .int (Builtin.bitXor i j)) := opI0 fun _ _ _ _ _ _ _ q => xor_int q

theorem iop_add : OpR X (inplaceOp .Add) (rI0 fun i j => .int (i + j)) := opI0 fun _ _ _ _ _ _ _ q => iadd_int q
theorem iop_sub : OpR X (inplaceOp .Sub) (rI0 fun i j => .int (i - j)) := opI0 fun _ _ _ _ _ _ _ q => isub_int q
theorem iop_mul : OpR X (inplaceOp .Mult) (rI CMul fun i j => .int (i * j)) := opI fun _ _ _ _ _ _ _ hc q => imul_int q hc.ok
theorem iop_fdiv : OpR X (inplaceOp .FloorDiv) (rI CDiv fun i j => .int (i / j)) := opI fun i j _ _ _ _ _ hc q => by
  have h1 : (0 : Int) < j := hc.1
  have h2 : j < 1073741824 := hc.2
  exact ifloordiv_int (by omega) (by rw [Int.fdiv_eq_ediv_of_nonneg i (by omega)]; exact q) (.inl (PyProof.noPylong_small (by omega)))
theorem iop_mod : OpR X (inplaceOp .Mod) (rI (fun _ j => 0 < j) fun i j => .int (i % j)) := opI fun i j _ _ _ _ _ hc q => by
  have h1 : (0 : Int) < j := hc
  exact imod_int (by omega) (by rw [Int.fmod_eq_emod_of_nonneg i (by omega)]; exact q)
theorem iop_shl : OpR X (inplaceOp .LShift) (rI CPow fun i j => .int (i * 2 ^ j.toNat)) := opI fun _ _ _ _ _ _ _ hc q => ilshift_int_small hc.1 hc.2.1 hc.2.2 q
theorem iop_shr : OpR X (inplaceOp .RShift) (rI (fun _ j => 0 ≤ j) fun i j => .int (i / 2 ^ j.toNat)) := opI fun i j _ _ _ _ _ hc q =>
  irshift_int hc (by rw [Int.fdiv_eq_ediv_of_nonneg i (two_pow_nn _)]; exact q)
theorem iop_and : OpR X (inplaceOp .BitAnd) (rI0 fun i j => .int (Builtin.bitAnd i j)) := opI0 fun _ _ _ _ _ _ _ q => iand_int q
theorem iop_or : OpR X (inplaceOp .BitOr) (rI0 fun i j => .int (Builtin.bitOr i j)) := opI0 fun _ _ _ _ _ _ _ q => ior_int q
theorem iop_xor : OpR X (inplaceOp .BitXor) (rI0 fun i j => .int (Builtin.bitXor i j)) := opI0 fun _ _ _ _ _ _ _ q => ixor_int q

theorem unI {f : Value → Sem Value} {g : Int → Int}
    (rule : ∀ (i : Int) (t : Tok) (s : Shared) (Q : Value → Shared → Prop) (E : Value → Shared → Prop), Q (.int (g i) s.toks) { s with toks := s.toks + 1 } → wpAny (model X.prog X.w) X.A (f (.int i t)) Q E s) :
    UnR X f (rU fun i => .int (g i)) := by
  intro pins s σ H x v Q I rx h
  obtain ⟨i, rfl, q⟩ := h
  obtain ⟨t, rfl⟩ := rx
  exact rule i t s _ _ ⟨.int (g i), H, I.tok _, ⟨_, rfl⟩, q⟩
theorem un_neg : UnR X (unaryOp .USub) (rU fun i => .int (-i)) := unI fun _ _ _ _ _ q => neg_int q
theorem un_inv : UnR X (unaryOp .Invert) (rU fun i => .int (Builtin.bitNot i)) := unI fun _ _ _ _ _ q => invert_int q

/-! ### bools among ints: n += (a < b) -/
theorem op_add_ib : OpR X (binaryOp .Add) (fun x y H Q => ∃ i k, x = .int i ∧ y = .bl k ∧ Q (.int (i + b2i k)) H) := by
  intro pins s σ H x y v u Q I rx ry h
  obtain ⟨i, k, rfl, rfl, q⟩ := h
  obtain ⟨t, rfl⟩ := rx
  cases ry
  exact add_int_bool ⟨.int (i + b2i k), H, I.tok _, ⟨_, rfl⟩, q⟩
end

/-! ### comparisons -/
/-- the scalars that == tells apart as data does -/
def scal : V → V → Bool
  | .non, .non => true | .non, .int _ => true | .int _, .non => true | .non, .bl _ => true | .bl _, .non => true | .non, .str _ => true | .str _, .non => true
  | .int _, .int _ => true | .bl _, .bl _ => true | .str _, .str _ => true | .byt _, .byt _ => true
  | .int _, .str _ => true | .str _, .int _ => true | .bl _, .str _ => true | .str _, .bl _ => true
  | _, _ => false
def rEq : R2 := fun x y H Q => scal x y = true ∧ Q (.bl (decide (x = y))) H
def rNe : R2 := fun x y H Q => scal x y = true ∧ Q (.bl (!decide (x = y))) H

theorem dec_int {i j : Int} : decide (V.int i = V.int j) = (i == j) := by
  rw [Bool.eq_iff_iff]
  simp
theorem dec_bl {i j : Bool} : decide (V.bl i = V.bl j) = (i == j) := by
  rw [Bool.eq_iff_iff]
  simp
theorem dec_str {i j : Str} : decide (V.str i = V.str j) = (i == j) := by
  rw [Bool.eq_iff_iff]
  simp
theorem dec_byt {i j : Array UInt8} : decide (V.byt i = V.byt j) = (i.toList == j.toList) := by
  rw [Bool.eq_iff_iff]
  cases i
  cases j
  simp

section
variable {X : Cx} {a b c : Expr} {ta tb tc : TE} {pos : Pos}
theorem fin_bl {pins : List (Addr × Obj)} {σ : St} {H : Hp} {s : Shared} {Q : VK} {k k' : Bool} (I : Inv X pins σ H s) (q : Q (.bl k) H) (e : k = k') : EP X pins σ Q (.bool k') s := by
  subst e
  exact ⟨.bl k, H, I, rfl, q⟩
theorem op_eq : OpR X (compareOp .Eq) rEq := by
  intro pins s σ H x y v u Q I rx ry h
  obtain ⟨hs, q⟩ := h
  cases x with
  | non =>
    cases rx
    cases y with
    | non => cases ry; exact PySem.EqNone.eq_none_none (fin_bl I q (by simp))
    | bl j => cases ry; exact PySem.EqNone.eq_none_bool (fin_bl I q (by simp))
    | int j => obtain ⟨t', rfl⟩ := ry; exact PySem.EqNone.eq_none_int (fin_bl I q (by simp))
    | str j => obtain ⟨t', rfl⟩ := ry; exact PySem.EqNone.eq_none_str (fin_bl I q (by simp))
    | _ => exact absurd (show false = true from hs) Bool.false_ne_true
  | bl i =>
    cases rx
    cases y with
    | non => cases ry; exact PySem.EqNone.eq_bool_none (fin_bl I q (by simp))
    | bl j => cases ry; exact eq_bool (fin_bl I q dec_bl)
    | str j => obtain ⟨t', rfl⟩ := ry; exact PySem.EqMixed.eq_bool_str (fin_bl I q (by simp))
    | _ => exact absurd (show false = true from hs) Bool.false_ne_true
  | int i =>
    obtain ⟨t, rfl⟩ := rx
    cases y with
    | non => cases ry; exact PySem.EqNone.eq_int_none (fin_bl I q (by simp))
    | int j => obtain ⟨t', rfl⟩ := ry; exact eq_int (fin_bl I q dec_int)
    | str j => obtain ⟨t', rfl⟩ := ry; exact PySem.EqMixed.eq_int_str (fin_bl I q (by simp))
    | _ => exact absurd (show false = true from hs) Bool.false_ne_true
  | str i =>
    obtain ⟨t, rfl⟩ := rx
    cases y with
    | non => cases ry; exact PySem.EqNone.eq_str_none (fin_bl I q (by simp))
    | bl j => cases ry; exact PySem.EqMixed.eq_str_bool (fin_bl I q (by simp))
    | int j => obtain ⟨t', rfl⟩ := ry; exact PySem.EqMixed.eq_str_int (fin_bl I q (by simp))
    | str j => obtain ⟨t', rfl⟩ := ry; exact eq_str (fin_bl I q dec_str)
    | _ => exact absurd (show false = true from hs) Bool.false_ne_true
  | byt i =>
    obtain ⟨t, rfl⟩ := rx
    cases y with
    | byt j => obtain ⟨t', rfl⟩ := ry; exact PySem.W.eq_bytes (fin_bl I q dec_byt)
    | _ => exact absurd (show false = true from hs) Bool.false_ne_true
  | _ => cases y <;> exact absurd (show false = true from hs) Bool.false_ne_true
theorem op_ne : OpR X (compareOp .NotEq) rNe := by
  intro pins s σ H x y v u Q I rx ry h
  obtain ⟨hs, q⟩ := h
  cases x with
  | non =>
    cases rx
    cases y with
    | non => cases ry; exact PySem.EqNone.ne_none_none (fin_bl I q (by simp))
    | bl j => cases ry; exact PySem.EqNone.ne_none_bool (fin_bl I q (by simp))
    | int j => obtain ⟨t', rfl⟩ := ry; exact PySem.EqNone.ne_none_int (fin_bl I q (by simp))
    | str j => obtain ⟨t', rfl⟩ := ry; exact PySem.EqNone.ne_none_str (fin_bl I q (by simp))
    | _ => exact absurd (show false = true from hs) Bool.false_ne_true
  | bl i =>
    cases rx
    cases y with
    | non => cases ry; exact PySem.EqNone.ne_bool_none (fin_bl I q (by simp))
    | bl j => cases ry; exact ne_bool (fin_bl I q (congrArg not dec_bl))
    | str j => obtain ⟨t', rfl⟩ := ry; exact PySem.EqMixed.ne_bool_str (fin_bl I q (by simp))
    | _ => exact absurd (show false = true from hs) Bool.false_ne_true
  | int i =>
    obtain ⟨t, rfl⟩ := rx
    cases y with
    | non => cases ry; exact PySem.EqNone.ne_int_none (fin_bl I q (by simp))
    | int j => obtain ⟨t', rfl⟩ := ry; exact ne_int (fin_bl I q (congrArg not dec_int))
    | str j => obtain ⟨t', rfl⟩ := ry; exact PySem.EqMixed.ne_int_str (fin_bl I q (by simp))
    | _ => exact absurd (show false = true from hs) Bool.false_ne_true
  | str i =>
    obtain ⟨t, rfl⟩ := rx
    cases y with
    | non => cases ry; exact PySem.EqNone.ne_str_none (fin_bl I q (by simp))
    | bl j => cases ry; exact PySem.EqMixed.ne_str_bool (fin_bl I q (by simp))
    | int j => obtain ⟨t', rfl⟩ := ry; exact PySem.EqMixed.ne_str_int (fin_bl I q (by simp))
    | str j => obtain ⟨t', rfl⟩ := ry; exact ne_str (fin_bl I q (congrArg not dec_str))
    | _ => exact absurd (show false = true from hs) Bool.false_ne_true
  | byt i =>
    obtain ⟨t, rfl⟩ := rx
    cases y with
    | byt j => obtain ⟨t', rfl⟩ := ry; exact PySem.W.ne_bytes (fin_bl I q (congrArg not dec_byt))
    | _ => exact absurd (show false = true from hs) Bool.false_ne_true
  | _ => cases y <;> exact absurd (show false = true from hs) Bool.false_ne_true

theorem op_lt : OpR X (compareOp .Lt) (rI0 fun i j => .bl (decide (i < j))) := opB0 fun _ _ _ _ _ _ _ q => lt_int q
theorem op_le : OpR X (compareOp .LtE) (rI0 fun i j => .bl (decide (i ≤ j))) := opB0 fun _ _ _ _ _ _ _ q => le_int q
theorem op_gt : OpR X (compareOp .Gt) (rI0 fun i j => .bl (decide (j < i))) := opB0 fun _ _ _ _ _ _ _ q => gt_int q
theorem op_ge : OpR X (compareOp .GtE) (rI0 fun i j => .bl (decide (j ≤ i))) := opB0 fun _ _ _ _ _ _ _ q => ge_int q
theorem op_lt_str : OpR X (compareOp .Lt) (fun x y H Q => ∃ i j, x = .str i ∧ y = .str j ∧ Q (.bl (decide (i.cps.toList < j.cps.toList))) H) := by
  intro pins s σ H x y v u Q I rx ry h
  obtain ⟨i, j, rfl, rfl, q⟩ := h
  obtain ⟨t, rfl⟩ := rx
  obtain ⟨t', rfl⟩ := ry
  exact lt_str (fin_bl I q rfl)
/-- the one string within the other -/
theorem op_in_str : OpR X (compareOp .In) (fun x y H Q => ∃ i j, x = .str i ∧ y = .str j ∧ Q (.bl (!(Builtin.Str.occurrences j i 0 j.length 1).isEmpty)) H) := by
  intro pins s σ H x y v u Q I rx ry h
  obtain ⟨i, j, rfl, rfl, q⟩ := h
  obtain ⟨t, rfl⟩ := rx
  obtain ⟨t', rfl⟩ := ry
  exact in_str (fin_bl I q rfl)

/-- is None, is not None: the right side a value none -/
theorem op_isN : OpR X (compareOp .Is) (fun x y H Q => y = .non ∧ Q (.bl (decide (x = .non))) H) := by
  intro pins s σ H x y v u Q I rx ry h
  obtain ⟨rfl, q⟩ := h
  cases ry
  refine is_none_gen (fin_bl I q ?_)
  cases x <;> first
    | (cases rx; rfl)
    | (obtain ⟨t, rfl⟩ := rx; rfl)
theorem op_notN : OpR X (compareOp .IsNot) (fun x y H Q => y = .non ∧ Q (.bl (!decide (x = .non))) H) := by
  intro pins s σ H x y v u Q I rx ry h
  obtain ⟨rfl, q⟩ := h
  cases ry
  refine isnot_none_gen (fin_bl I q ?_)
  cases x <;> first
    | (cases rx; rfl)
    | (obtain ⟨t, rfl⟩ := rx; rfl)

theorem op_notin_str : OpR X (compareOp .NotIn) (fun x y H Q => ∃ i j, x = .str i ∧ y = .str j ∧ Q (.bl (!(!(Builtin.Str.occurrences j i 0 j.length 1).isEmpty))) H) := by
  intro pins s σ H x y v u Q I rx ry h
  obtain ⟨i, j, rfl, rfl, q⟩ := h
  obtain ⟨t, rfl⟩ := rx
  obtain ⟨t', rfl⟩ := ry
  exact notIn_str (fin_bl I q rfl)
/-- is, is not of two objects that are tracked lists or instances -/
def isObj : HO → Bool
  | .lst _ => true
  | .ins _ _ _ => true
  | _ => false
theorem obj_there {pins : List (Addr × Obj)} {s : Shared} {σ : St} {H : Hp} {a : Addr} {o : HO} (I : Inv X pins σ H s) (h : H a = some o) (p : isObj o = true) : ∃ ob, s.heap.get? a = some ob ∧ ob.cls ≠ .type "tuple" := by
  cases o with
  | lst xs =>
    obtain ⟨_, its, n, _, e⟩ : xs.length ≤ sizeLine ∧ ∃ (its : List Value) (n : Nat), Vals xs its ∧ s.heap.get? a = some { cls := .type "list", data := .seq its.toArray n } := I.hok a _ h
    exact ⟨_, e, (by show Value.type "list" ≠ .type "tuple"; decide +kernel)⟩
  | ins C dx fs =>
    have x := I.hok a _ h
    obtain ⟨_, _, _, e, _⟩ := x
    exact ⟨_, e, (by show Value.ref C ≠ .type "tuple"; exact fun z => by cases z)⟩
  | _ => exact absurd (show false = true from p) Bool.false_ne_true
theorem op_is_ref : OpR X (compareOp .Is) (fun x y H Q => ∃ a b oa ob, x = .ref a ∧ y = .ref b ∧ H a = some oa ∧ isObj oa = true ∧ H b = some ob ∧ isObj ob = true ∧ Q (.bl (decide (a = b))) H) := by
  intro pins s σ H x y v u Q I rx ry h
  obtain ⟨a, b, oa, ob, rfl, rfl, ha, pa, hb, pb, q⟩ := h
  cases rx
  cases ry
  obtain ⟨o1, e1, n1⟩ := obj_there I ha pa
  obtain ⟨o2, e2, _⟩ := obj_there I hb pb
  by_cases z : a = b
  · subst z
    exact wpAny_is_ref_self (fin_bl I q (by simp))
  · exact wpAny_is_ref_other z e1 e2 n1 (fin_bl I q (by simp [z]))
theorem op_isnot_ref : OpR X (compareOp .IsNot) (fun x y H Q => ∃ a b oa ob, x = .ref a ∧ y = .ref b ∧ H a = some oa ∧ isObj oa = true ∧ H b = some ob ∧ isObj ob = true ∧ Q (.bl (!decide (a = b))) H) := by
  intro pins s σ H x y v u Q I rx ry h
  obtain ⟨a, b, oa, ob, rfl, rfl, ha, pa, hb, pb, q⟩ := h
  cases rx
  cases ry
  obtain ⟨o1, e1, n1⟩ := obj_there I ha pa
  obtain ⟨o2, e2, _⟩ := obj_there I hb pb
  by_cases z : a = b
  · subst z
    exact wpAny_isNot_ref_self (fin_bl I q (by simp))
  · exact wpAny_isNot_ref_other z e1 e2 n1 (fin_bl I q (by simp [z]))

/-- two rules for one operation: by cases -/
theorem OpR.or {f : Value → Value → Sem Value} {r r' : R2} (h : OpR X f r) (h' : OpR X f r') : OpR X f (fun x y H Q => r x y H Q ∨ r' x y H Q) := by
  intro pins s σ H x y v u Q I rx ry q
  rcases q with q | q
  · exact h pins s σ H x y v u Q I rx ry q
  · exact h' pins s σ H x y v u Q I rx ry q

theorem nomark (b : Expr) {op : CmpOp} (h : op ≠ .In := by decide) (h2 : op ≠ .NotIn := by decide) : behindInMarks op b = false := by
  have e1 : (op == CmpOp.In) = false := by cases op <;> first | rfl | exact absurd rfl h
  have e2 : (op == CmpOp.NotIn) = false := by cases op <;> first | rfl | exact absurd rfl h2
  cases b <;> simp [behindInMarks, e1, e2]
/-- a comparison as a value; hm: nomark b, or (for in, not in) by with_unfolding_all rfl -/
theorem pe_cmpR {op : CmpOp} {r : R2} (ho : OpR X (compareOp op) r) (ha : PE X a ta) (hb : PE X b tb) (hm : behindInMarks op b = false) : PE X (.Compare a [op] [b] pos) (tOp r ta tb) := by
  intro pins s σ H Q I h
  exact wpAny_Compare1 (binT ha hb I h fun v u s2 x y H2 I2 rx ry q => ho pins s2 σ H2 x y v u Q I2 rx ry q) hm
/-- a reading of a value as a test -/
def tTest (t : TE) : TT := fun σ H Q => t σ H fun x H' => ∃ k, x = .bl k ∧ Q k H'
theorem pt_cmpR {op : CmpOp} {r : R2} (ho : OpR X (compareOp op) r) (ha : PE X a ta) (hb : PE X b tb) (hm : behindInMarks op b = false) : PT X (.Compare a [op] [b] pos) (tTest (tOp r ta tb)) := by
  intro pins s σ H Q I h
  refine wpAny_isTrue_Compare1 (thn (ha pins s σ H _ I h) fun v s1 ⟨x, H1, I1, r1, q1⟩ => thn (hb pins s1 σ H1 _ I1 q1) fun u s2 ⟨y, H2, I2, r2, q2⟩ =>
    thn (ho pins s2 σ H2 x y v u _ I2 r1 r2 q2) fun c s3 ⟨z, H3, I3, r3, k, e, q3⟩ => ?_) hm
  subst e
  cases r3
  exact wpAny_truthy_bool ⟨H3, I3, q3⟩
/-- a op1 b op2 c -/
def tChain (r r' : R2) (ta tb tc : TE) : TE := fun σ H Q => ta σ H fun x H1 => tb σ H1 fun y H2 => r x y H2 fun z H3 => ∃ k, z = .bl k ∧
  (if k = true then tc σ H3 fun w' H4 => r' y w' H4 Q else Q (.bl false) H3)
theorem pe_chain {op op' : CmpOp} {r r' : R2} (ho : OpR X (compareOp op) r) (ho' : OpR X (compareOp op') r') (ha : PE X a ta) (hb : PE X b tb) (hc : PE X c tc)
    (hm : lastMarks [op, op'] [b, c] = false := by with_unfolding_all rfl) : PE X (.Compare a [op, op'] [b, c] pos) (tChain r r' ta tb tc) := by
  intro pins s σ H Q I h
  refine Compare_chain (thn (ha pins s σ H _ I h) fun v s1 ⟨x, H1, I1, r1, q1⟩ => chain_link (thn (hb pins s1 σ H1 _ I1 q1) fun u s2 ⟨y, H2, I2, r2, q2⟩ =>
    thn (ho pins s2 σ H2 x y v u _ I2 r1 r2 q2) fun d s3 ⟨z, H3, I3, r3, k, e, q3⟩ => ?_)) hm
  subst e
  cases r3
  refine wpAny_truthy_bool ?_
  cases k with
  | false => exact ite_ff ⟨.bl false, H3, I3, rfl, q3⟩
  | true => exact ite_tt (chain_last (thn (hc pins s3 σ H3 _ I3 q3) fun w' s4 ⟨z', H4, I4, r4, q4⟩ => ho' pins s4 σ H4 y z' u w' Q I4 r2 r4 q4))
theorem pt_chain {op op' : CmpOp} {r r' : R2} (ho : OpR X (compareOp op) r) (ho' : OpR X (compareOp op') r') (ha : PE X a ta) (hb : PE X b tb) (hc : PE X c tc)
    (hm : lastMarks [op, op'] [b, c] = false := by with_unfolding_all rfl) : PT X (.Compare a [op, op'] [b, c] pos) (tTest (tChain r r' ta tb tc)) := by
  intro pins s σ H Q I h
  refine isTrue_chain (thn (ha pins s σ H _ I h) fun v s1 ⟨x, H1, I1, r1, q1⟩ => test_link (thn (hb pins s1 σ H1 _ I1 q1) fun u s2 ⟨y, H2, I2, r2, q2⟩ =>
    thn (ho pins s2 σ H2 x y v u _ I2 r1 r2 q2) fun d s3 ⟨z, H3, I3, r3, k, e, q3⟩ => ?_)) hm
  subst e
  cases r3
  refine wpAny_truthy_bool ?_
  cases k with
  | false =>
    obtain ⟨k', e', q'⟩ := q3
    cases e'
    exact ite_ff ⟨H3, I3, q'⟩
  | true =>
    refine ite_tt (test_last (thn (hc pins s3 σ H3 _ I3 q3) fun w' s4 ⟨z', H4, I4, r4, q4⟩ => thn (ho' pins s4 σ H4 y z' u w' _ I4 r2 r4 q4) fun d' s5 ⟨z2, H5, I5, r5, k2, e2, q5⟩ => ?_))
    subst e2
    cases r5
    exact wpAny_truthy_bool ⟨H5, I5, q5⟩

/-! ### truth -/
/-- a value's truth by the abstract heap -/
def TruV (K : PySem.W.Frag) (x : V) (H : Hp) (k : Bool) : Prop :=
  match x with
  | .non => k = false
  | .bl b => k = b
  | .int i => k = (i != 0)
  | .str y => y.length ≤ sizeLine ∧ k = ((y.length : Int) != 0)
  | .byt y => y.size ≤ sizeLine ∧ k = ((y.size : Int) != 0)
  | .ref p => (∃ xs, SqL K H p xs ∧ k = !xs.isEmpty) ∨ (∃ xs, SqT K H p xs ∧ k = !xs.isEmpty) ∨ ∃ kvs, H p = some (.dK kvs) ∧ k = !kvs.isEmpty
  | _ => False
theorem isEmpty_kv {κ : Type} {kvs : List (κ × V)} {vs : List (κ × Value)} (r : KV kvs vs) : (!vs.isEmpty) = !kvs.isEmpty := by
  cases r <;> rfl
theorem isEmpty_of {xs : List V} {its : List Value} (r : Vals xs its) : (!its.toArray.isEmpty) = !xs.isEmpty := by
  cases r <;> simp
theorem line63 : (sizeLine : Nat) < 2 ^ 63 := by rw [sizeLine_eq]; decide
theorem tru_ok : TruR X (fun x H Q => ∃ k, TruV X.K x H k ∧ Q k H) := by
  intro pins s σ H x v Q I rx h
  obtain ⟨k, e, q⟩ := h
  have hl := line63
  have hs : sizeLine = 16777216 := sizeLine_eq
  cases x with
  | non =>
    cases rx
    have e' : k = false := e
    subst e'
    exact truthy_none ⟨H, I, q⟩
  | bl b =>
    cases rx
    have e' : k = b := e
    subst e'
    exact wpAny_truthy_bool ⟨H, I, q⟩
  | int i =>
    obtain ⟨t, rfl⟩ := rx
    have e' : k = (i != 0) := e
    subst e'
    exact PySem.P.truthy_int ⟨H, I, q⟩
  | str y =>
    obtain ⟨t, rfl⟩ := rx
    obtain ⟨hy, e'⟩ : y.length ≤ sizeLine ∧ k = ((y.length : Int) != 0) := e
    subst e'
    exact PySem.P.truthy_str (by omega) ⟨H, I.tok _, q⟩
  | byt y =>
    obtain ⟨t, rfl⟩ := rx
    obtain ⟨hy, e'⟩ : y.size ≤ sizeLine ∧ k = ((y.size : Int) != 0) := e
    subst e'
    exact PySem.W.truthy_bytes (by omega) ⟨H, I.tok _, q⟩
  | ref p =>
    cases rx
    have e' : (∃ xs, SqL X.K H p xs ∧ k = !xs.isEmpty) ∨ (∃ xs, SqT X.K H p xs ∧ k = !xs.isEmpty) ∨ ∃ kvs, H p = some (.dK kvs) ∧ k = !kvs.isEmpty := e
    rcases e' with ⟨xs, hx, e'⟩ | ⟨xs, hx, e'⟩ | ⟨kvs, hx, e'⟩
    · subst e'
      obtain ⟨its, r, pl, hz⟩ := I.list hx
      have hlen := r.length
      exact wpAny_truthy_list pl.isList (by simp only [List.size_toArray]; omega) ⟨H, I.tok _, by rw [isEmpty_of r]; exact q⟩
    · subst e'
      obtain ⟨its, r, pl, hz⟩ := I.tuple hx
      have hlen := r.length
      exact truthy_tuple pl (by simp only [List.size_toArray]; omega) ⟨H, I.tok _, by rw [isEmpty_of r]; exact q⟩
    · subst e'
      obtain ⟨hz, hS, vs, r, m⟩ : kvs.length ≤ sizeLine ∧ (p == sysModules) = false ∧ ∃ vs, KV kvs vs ∧ s.heap.DictOf (mixKind X.prog X.w) p vs := I.hok p _ hx
      have hlen : kvs.length = vs.length := Paired.length r
      exact wpAny_truthy_dict hS m (by omega) ⟨H, I.tok _, by rw [isEmpty_kv r]; exact q⟩
  | _ => exact (show False from e).elim
/-- any expression whose test is its value's truth (a name, a call, a subscript, a field ..: he by fun _ => rfl) -/
theorem pt_truth (ha : PE X a ta) (he : ∀ whole, isTrue a X.env whole = (do let v ← whole; standAt a.pos; holding [v] (truthy v))) :
    PT X a (fun σ H Q => ta σ H fun x H' => ∃ k, TruV X.K x H' k ∧ Q k H') := by
  intro pins s σ H Q I h
  exact isTrue_plain (thn (ha pins s σ H _ I h) fun v s1 ⟨x, H1, I1, r1, q1⟩ => tru_ok pins s1 σ H1 x v Q I1 r1 q1) (he _)

/-! ### strs and bytes -/
theorem pe_byt {x : List UInt8} {k : Nat} : PE X (.Constant (.bytes x) k pos) (fun _ H Q => Q (.byt x.toArray) H) := fun _ _ _ H _ I h => PySem.W.Constant_bytes ⟨.byt x.toArray, H, I.tok _, ⟨_, rfl⟩, h⟩
theorem op_add_str : OpR X (binaryOp .Add) (fun x y H Q => ∃ i j, x = .str i ∧ y = .str j ∧ i.length + j.length ≤ sizeLine ∧ Q (.str (i ++ j)) H) := by
  intro pins s σ H x y v u Q I rx ry h
  obtain ⟨i, j, rfl, rfl, hz, q⟩ := h
  obtain ⟨t, rfl⟩ := rx
  obtain ⟨t', rfl⟩ := ry
  exact add_str (fun t' tk => ⟨.str (i ++ j), H, I.tok _, ⟨_, rfl⟩, q⟩) hz
theorem iop_add_str : OpR X (inplaceOp .Add) (fun x y H Q => ∃ i j, x = .str i ∧ y = .str j ∧ i.length + j.length ≤ sizeLine ∧ Q (.str (i ++ j)) H) := by
  intro pins s σ H x y v u Q I rx ry h
  obtain ⟨i, j, rfl, rfl, hz, q⟩ := h
  obtain ⟨t, rfl⟩ := rx
  obtain ⟨t', rfl⟩ := ry
  exact iadd_str (fun t' tk => ⟨.str (i ++ j), H, I.tok _, ⟨_, rfl⟩, q⟩) hz
theorem op_add_byt : OpR X (binaryOp .Add) (fun x y H Q => ∃ i j, x = .byt i ∧ y = .byt j ∧ i.size + j.size ≤ 16777216 ∧ Q (.byt (i ++ j)) H) := by
  intro pins s σ H x y v u Q I rx ry h
  obtain ⟨i, j, rfl, rfl, hz, q⟩ := h
  obtain ⟨t, rfl⟩ := rx
  obtain ⟨t', rfl⟩ := ry
  exact PySem.W.KBy.add_bytes hz (fun t' tk => ⟨.byt (i ++ j), H, I.tok _, ⟨_, rfl⟩, q⟩)

def PlainIxT (b : Expr) : Prop := ∀ o i, subscripted b false o i = operate [o, i] (getItem o i)
/-- s[i], 0 ≤ i < len -/
theorem pe_item_str (ha : PE X a ta) (hb : PE X b tb) (hs : PlainIxT b) :
    PE X (.Subscript a b pos) (tOp (fun x y H Q => ∃ z i c, x = .str z ∧ y = .int i ∧ 0 ≤ i ∧ i < 2 ^ 63 ∧ i < z.length ∧ z.cps[i.toNat]? = some c ∧ Q (.str ⟨#[c]⟩) H) ta tb) := by
  intro pins s σ H Q I h
  refine Subscript_ (binT ha hb I h fun v u s2 x y H2 I2 rx ry q => ?_)
  obtain ⟨z, i, c, rfl, rfl, h0, h63, h1, hc, q⟩ := q
  obtain ⟨t, rfl⟩ := rx
  obtain ⟨t', rfl⟩ := ry
  have e : seqIndex? i z.length = some i.toNat := PySem.StrLaws.seqIndex_nonneg h0 h1
  exact tail_any (typeIs_str s2 z t) slot_str_getitem.lookup (getItem_str (c := c) (by
    have e1 : decide (i < -(2 ^ 63 : Int)) = false := decide_eq_false (by omega)
    have e2 : decide (i ≥ 2 ^ 63) = false := decide_eq_false (by omega)
    rw [e1, e2] <;> rfl) (by rw [e]; exact hc) ⟨.str ⟨#[c]⟩, H2, I2.tok _, ⟨_, rfl⟩, q⟩) (hs _ _)
/-- b[i], 0 ≤ i < len -/
theorem pe_item_byt (ha : PE X a ta) (hb : PE X b tb) (hs : PlainIxT b) :
    PE X (.Subscript a b pos) (tOp (fun x y H Q => ∃ (z : List UInt8) (i : Int), x = .byt z.toArray ∧ y = .int i ∧ z.length ≤ sizeLine ∧ 0 ≤ i ∧ i < z.length ∧ Q (.int ((z.getD i.toNat 0).toNat : Nat)) H) ta tb) := by
  intro pins s σ H Q I h
  refine Subscript_ (binT ha hb I h fun v u s2 x y H2 I2 rx ry q => ?_)
  obtain ⟨z, i, rfl, rfl, hz, h0, h1, q⟩ := q
  obtain ⟨t, rfl⟩ := rx
  obtain ⟨t', rfl⟩ := ry
  have hl : sizeLine = 16777216 := sizeLine_eq
  exact tail_any (PySem.W.typeIs_bytes s2 z.toArray t) PySem.W.FB.slot_bytes_getitem.lookup (PySem.W.getItem_bytes (by omega) h0 h1 ⟨.int ((z.getD i.toNat 0).toNat : Nat), H2, I2.tok _, ⟨_, rfl⟩, q⟩) (hs _ _)

/-! ### scalar builtins, by CallR -/
theorem vals1 {x : V} {us : List Value} (r : Vals [x] us) : ∃ u, us = [u] ∧ RelV x u := by
  cases r with
  | cons r1 r2 => cases r2; exact ⟨_, rfl, r1⟩
theorem vals2 {x y : V} {us : List Value} (r : Vals [x, y] us) : ∃ u w', us = [u, w'] ∧ RelV x u ∧ RelV y w' := by
  cases r with
  | cons r1 r2 =>
    cases r2 with
    | cons r3 r4 => cases r4; exact ⟨_, _, rfl, r1, r3⟩
theorem call_abs : CallR X (.builtin "abs") (fun xs H Q => ∃ i, xs = [.int i] ∧ Q (.int (if i < 0 then -i else i)) H) := by
  intro pins s σ H xs us Q I r h
  obtain ⟨i, rfl, q⟩ := h
  obtain ⟨u, rfl, t, rfl⟩ := vals1 r
  exact call_abs_int fun u tk => ⟨.int (if i < 0 then -i else i), H, I.tok _, ⟨_, rfl⟩, q⟩
theorem call_max2 (hc : X.calm = true) : CallR X (.builtin "max") (fun xs H Q => ∃ i j, xs = [.int i, .int j] ∧ Q (.int (if j > i then j else i)) H) := by
  intro pins s σ H xs us Q I r h
  obtain ⟨i, j, rfl, q⟩ := h
  obtain ⟨u, w', rfl, ⟨t, rfl⟩, ⟨t', rfl⟩⟩ := vals2 r
  refine max_two_ints (I.ok.hd hc) fun h' tk k => ⟨_, H, I.kept k, ?_, q⟩
  by_cases hj : j > i
  · rw [if_pos hj, if_pos hj]; exact ⟨_, rfl⟩
  · rw [if_neg hj, if_neg hj]; exact ⟨_, rfl⟩
theorem call_min2 (hc : X.calm = true) : CallR X (.builtin "min") (fun xs H Q => ∃ i j, xs = [.int i, .int j] ∧ Q (.int (if j < i then j else i)) H) := by
  intro pins s σ H xs us Q I r h
  obtain ⟨i, j, rfl, q⟩ := h
  obtain ⟨u, w', rfl, ⟨t, rfl⟩, ⟨t', rfl⟩⟩ := vals2 r
  refine min_two_ints (I.ok.hd hc) fun h' tk k => ⟨_, H, I.kept k, ?_, q⟩
  by_cases hj : j < i
  · rw [if_pos hj, if_pos hj]; exact ⟨_, rfl⟩
  · rw [if_neg hj, if_neg hj]; exact ⟨_, rfl⟩
theorem call_int1 : CallR X (.type "int") (fun xs H Q => (∃ i, xs = [.int i] ∧ Q (.int i) H) ∨ ∃ k, xs = [.bl k] ∧ Q (.int (if k then 1 else 0)) H) := by
  intro pins s σ H xs us Q I r h
  rcases h with ⟨i, rfl, q⟩ | ⟨k, rfl, q⟩
  · obtain ⟨u, rfl, t, rfl⟩ := vals1 r
    exact call_int_int ⟨.int i, H, I, ⟨_, rfl⟩, q⟩
  · obtain ⟨u, rfl, r1⟩ := vals1 r
    cases r1
    exact call_int_bool ⟨.int (if k then 1 else 0), H, I.tok _, ⟨_, rfl⟩, q⟩
theorem call_bool1 : CallR X (.type "bool") (fun xs H Q => (∃ i, xs = [.int i] ∧ Q (.bl (i != 0)) H) ∨ ∃ k, xs = [.bl k] ∧ Q (.bl k) H) := by
  intro pins s σ H xs us Q I r h
  rcases h with ⟨i, rfl, q⟩ | ⟨k, rfl, q⟩
  · obtain ⟨u, rfl, t, rfl⟩ := vals1 r
    exact call_bool_int ⟨.bl (i != 0), H, I, rfl, q⟩
  · obtain ⟨u, rfl, r1⟩ := vals1 r
    cases r1
    exact call_bool_bool ⟨.bl k, H, I, rfl, q⟩
theorem call_str_int : CallR X (.type "str") (fun xs H Q => ∃ i, xs = [.int i] ∧ i.natAbs.log2 < 1920 ∧ Q (.str (toString i)) H) := by
  intro pins s σ H xs us Q I r h
  obtain ⟨i, rfl, hz, q⟩ := h
  obtain ⟨u, rfl, t, rfl⟩ := vals1 r
  exact PySem.P.str_of_int hz ⟨.str _, H, I.tok _, ⟨_, rfl⟩, q⟩
theorem call_ord : CallR X (.builtin "ord") (fun xs H Q => ∃ x, xs = [.str x] ∧ x.length = 1 ∧ Q (.int (x.cps.getD 0 0 : Nat)) H) := by
  intro pins s σ H xs us Q I r h
  obtain ⟨x, rfl, hz, q⟩ := h
  obtain ⟨u, rfl, t, rfl⟩ := vals1 r
  exact ord_of_one hz ⟨.int _, H, I.tok _, ⟨_, rfl⟩, q⟩
theorem call_chr : CallR X (.builtin "chr") (fun xs H Q => ∃ i, xs = [.int i] ∧ 0 ≤ i ∧ i ≤ 1114111 ∧ Q (.str ⟨#[i.toNat]⟩) H) := by
  intro pins s σ H xs us Q I r h
  obtain ⟨i, rfl, h0, h1, q⟩ := h
  obtain ⟨u, rfl, t, rfl⟩ := vals1 r
  exact chr_of_range h0 h1 ⟨.str _, H, I.tok _, ⟨_, rfl⟩, q⟩
/-- len of a str, a bytes, a list, a tuple -/
def LenV (K : PySem.W.Frag) (x : V) (H : Hp) (n : Nat) : Prop :=
  match x with
  | .str y => y.length ≤ sizeLine ∧ n = y.length
  | .byt y => y.size ≤ sizeLine ∧ n = y.size
  | .ref p => (∃ xs, SqL K H p xs ∧ n = xs.length) ∨ ∃ xs, SqT K H p xs ∧ n = xs.length
  | _ => False
theorem call_len : CallR X (.builtin "len") (fun xs H Q => ∃ x n, xs = [x] ∧ LenV X.K x H n ∧ Q (.int n) H) := by
  intro pins s σ H xs us Q I r h
  obtain ⟨x, n, rfl, e, q⟩ := h
  obtain ⟨u, rfl, rx⟩ := vals1 r
  have hl := line63
  have hs : sizeLine = 16777216 := sizeLine_eq
  cases x with
  | str y =>
    obtain ⟨t, rfl⟩ := rx
    obtain ⟨hy, e'⟩ : y.length ≤ sizeLine ∧ n = y.length := e
    subst e'
    exact len_str (by omega) ⟨.int _, H, I.tok _, ⟨_, rfl⟩, q⟩
  | byt y =>
    obtain ⟨t, rfl⟩ := rx
    obtain ⟨hy, e'⟩ : y.size ≤ sizeLine ∧ n = y.size := e
    subst e'
    exact PySem.W.len_bytes (by omega) ⟨.int _, H, I.tok _, ⟨_, rfl⟩, q⟩
  | ref p =>
    cases rx
    have e' : (∃ xs, SqL X.K H p xs ∧ n = xs.length) ∨ ∃ xs, SqT X.K H p xs ∧ n = xs.length := e
    rcases e' with ⟨xs, hx, e'⟩ | ⟨xs, hx, e'⟩
    · subst e'
      obtain ⟨its, r', pl, hz⟩ := I.list hx
      have hlen := r'.length
      exact Calls.call_len_list pl.isList (by simp only [List.size_toArray]; omega) ⟨.int xs.length, H, I.tok _, ⟨_, by simp only [List.size_toArray]; rw [hlen]⟩, q⟩
    · subst e'
      obtain ⟨its, r', pl, hz⟩ := I.tuple hx
      have hlen := r'.length
      exact len_tuple pl (by simp only [List.size_toArray]; omega) ⟨.int xs.length, H, I.tok _, ⟨_, by simp only [List.size_toArray]; rw [hlen]⟩, q⟩
  | _ => exact (show False from e).elim
/-- divmod: a new tuple -/
theorem call_divmod : CallR X (.builtin "divmod") (fun xs H Q => ∃ i j, xs = [.int i, .int j] ∧ CDiv i j ∧ ∀ p, H p = none → Q (.ref p) (upd H p (.tup [.int (i / j), .int (i % j)]))) := by
  intro pins s σ H xs us Q I r h
  obtain ⟨i, j, rfl, ⟨h1, h2⟩, q⟩ := h
  obtain ⟨u, w', rfl, ⟨t, rfl⟩, ⟨t', rfl⟩⟩ := vals2 r
  refine divmod_int (by omega) ?_ (.inl (PyProof.noPylong_small (by omega)))
  rw [Int.fdiv_eq_ediv_of_nonneg i (by omega), Int.fmod_eq_emod_of_nonneg i (by omega)]
  have hn : H s.heap.objs.size = none := I.hok.fresh (Nat.le_refl _)
  refine ⟨.ref s.heap.objs.size, _, ?_, rfl, q _ hn⟩
  refine I.laid (fun b o e => Heap.get?_push_of_some _ e) (Nat.le_refl _) ⟨by simp only [List.length_cons, List.length_nil]; rw [sizeLine_eq]; decide, [.int (i / j) s.toks, .int (i % j) (s.toks + 1)], .cons ⟨_, rfl⟩ (.cons ⟨_, rfl⟩ .nil), ?_⟩
  exact ⟨_, Heap.get?_push_size s.heap rfl, rfl, 0, rfl⟩
end
end L2

namespace L2
open PySem PySem.Spec PyProof.Rows

/-! ### an instance, its attributes a map -/
structure ObjM (h : Heap) (x dx C : Addr) (mA : Str → Option Value) : Prop where
  obj : h.get? x = some (PySem.W.instObj C dx)
  ns : h.Ns1 dx mA
  ne : dx ≠ x

theorem lookIn_ns {h : Heap} {dx : Addr} {mA : Str → Option Value} (n : h.Ns1 dx mA) : ∃ od, h.get? dx = some od ∧ ∀ name, PySem.W.lookIn name od = some (mA name) := by
  obtain ⟨o, es, ep, ho, hd, hk, _, hm⟩ := n
  refine ⟨o, ho, fun name => ?_⟩
  have e := hm name
  unfold nsFind findBy at e
  rw [← Array.find?_toList] at e
  unfold PySem.W.lookIn
  rw [hd]
  dsimp only
  split
  · rename_i y q
    rw [q] at e
    exact congrArg some e
  · rename_i q
    rw [q] at e
    have a : es.toList.any (·.refKey) = false := by
      rw [List.any_eq_false]
      intro y hy
      obtain ⟨z, t, hkey⟩ := hk y (Array.mem_toList_iff.mp hy)
      simp [DictEntry.refKey, hkey]
    have a' : ¬ es.toList.any (·.refKey) = true := by rw [a]; exact Bool.false_ne_true
    rw [if_neg a']
    exact congrArg some e

theorem ObjM.look {h : Heap} {x dx C : Addr} {mA : Str → Option Value} (I : ObjM h x dx C mA) : ∃ od, PySem.W.InstAt h x (PySem.W.instObj C dx) C (some od) ∧ ∀ name, PySem.W.lookIn name od = some (mA name) :=
  let ⟨od, ho, hl⟩ := lookIn_ns I.ns
  ⟨od, ⟨I.obj, rfl, rfl, ho⟩, hl⟩

section
variable {prog : Program} {w : World} {A : Around} {E : Value → Shared → Prop} {s : Shared} {K : PySem.W.Frag} {x dx C f : Addr} {mA : Str → Option Value} {name : Str} {v : Value}

theorem get_map {expr : Bool} {Q : Value → Shared → Prop} (X : K.In s.heap) (I : ObjM s.heap x dx C mA) (hg : PySem.W.plainGet K C name = true) (hh : PySem.W.hasDictIn K C = true)
    (ha : PySem.W.findIn K (.ref C) name = some none) (hv : mA name = some v) (hv' : PySem.W.handedIn v = true) (h : Q v { s with toks := s.toks + 1 }) :
    wpAny (model prog w) A (getAttr (.ref x) name expr) Q E s := by
  obtain ⟨od, J, hl⟩ := I.look
  exact PySem.W.get_value X J (PySem.W.plainGet_of hg).1 (PySem.W.findObj_own hh ha rfl (by rw [hl, hv])) hv' h

theorem get_const {expr : Bool} {a : Value} {Q : Value → Shared → Prop} (X : K.In s.heap) (I : ObjM s.heap x dx C mA) (hg : PySem.W.plainGet K C name = true) (hh : PySem.W.hasDictIn K C = true)
    (ha : PySem.W.findIn K (.ref C) name = some (some a)) (hn : PySem.W.specialIn K a "__get__" = some none) (hc : PySem.W.copiedNames.contains name = false) (hv : mA name = none) (hv' : PySem.W.handedIn a = true)
    (h : Q a { s with toks := s.toks + 1 }) : wpAny (model prog w) A (getAttr (.ref x) name expr) Q E s := by
  obtain ⟨od, J, hl⟩ := I.look
  exact PySem.W.get_value X J (PySem.W.plainGet_of hg).1 (PySem.W.findObj_cls hh ha hn hv' hc (by rw [hl, hv])) hv' h

theorem get_meth {pl : Sem Bool} {Q : Value × List Value → Shared → Prop} (X : K.In s.heap) (I : ObjM s.heap x dx C mA) (hg : PySem.W.plainGet K C name = true)
    (hf : PySem.W.findIn K (.ref C) name = some (some (.ref f))) (ht : PySem.W.isFn K (.ref f) = true) (hv : mA name = none) (h : Q (.ref f, [.ref x]) s) :
    wpAny (model prog w) A (getMethod (.ref x) name pl) Q E s := by
  obtain ⟨od, J, hl⟩ := I.look
  exact PySem.W.method_fn X J (PySem.W.plainGet_of hg).1 (PySem.W.plainGet_of hg).2 hf (beq_iff_eq.mp ht) (by show (PySem.W.lookIn name od).map (·.isSome) = some false; rw [hl, hv]; rfl) h

theorem set_map {ns : List Str} {Q : Unit → Shared → Prop} (X : K.In s.heap) (I : ObjM s.heap x dx C mA)
    (hs : PySem.W.findIn K (.ref C) "__setattr__" = some (some (.builtin "object.__setattr__"))) (hp : PySem.W.plainOver K C = true) (ht : PySem.W.takerIn K C name = some none) (hh : PySem.W.hasDictIn K C = true)
    (hw : PySem.Within mA ns) (hsz : ns.length ≤ sizeLine)
    (h : ∀ h', ObjM h' x dx C (fun y => if y = name then some v else mA y) → Heap.SameBut dx s.heap h' → Q () { s with heap := h', toks := s.toks + 2 }) :
    wpAny (model prog w) A (setAttr (.ref x) name v) Q E s := by
  obtain ⟨od, J, hl⟩ := I.look
  refine PySem.W.set_plain X J hs (PySem.W.osa_open (s := { s with toks := s.toks + 1 }) (r := none) X J hp ht fun b => ?_)
  obtain ⟨cd, hc, hd'⟩ := PySem.W.any_some hh
  have hx : s.heap.get? x = some ⟨.ref C, some dx, .plain, #[]⟩ := I.obj
  refine wpAny_bind (wpAny_pure (wpAny_bind (wpAny_bind (wpAny_loadPart hx (wpAny_bind (PySem.W.Looks.here (s := { s with toks := s.toks + 1 }) (PySem.W.looks_clsIn X hc) ?_))))))
  rw [hd']
  refine wpAny_pure (a := some dx) (wpAny_bind (wpAny_pure (wpAny_bind ?_)))
  refine wpAny_nsSet1 (s := { s with toks := s.toks + 1 }) I.ns fun h' hn2 hs2 => ?_
  obtain ⟨oD, esD, epD, hoD, hdD, hcD⟩ := hn2.count (PySem.Within.cons name v hw)
  refine wpAny_bind (wpAny_lookBehind hoD (by rw [hdD]; exact pastItsLine_dict (Nat.le_trans hcD (by rw [List.length_cons]; omega))) ?_)
  exact wpAny_pure (h _ ⟨(hs2.2 _ (Ne.symm I.ne)).trans I.obj, hn2, I.ne⟩ hs2)

/-- C(..): the dict at the heap's end, the instance behind it; then its __init__ -/
theorem make_map {R : Result → Shared → Prop} {vs : List Value} {kw : List (Str × Value)} (X : K.In s.heap) (hm : PySem.W.makesIn K C = true)
    (hi : PySem.W.findIn K (.ref C) "__init__" = some (some (.ref f))) (hf : PySem.W.typeIn K (.ref f) = some (.type "function"))
    (h : codeAny (model prog w) (A.under (.builtin "type.__call__" ⟨.ref C :: vs, kw⟩)) (.call (.ref f) ⟨.ref (s.heap.objs.size + 1) :: vs, kw⟩) (PySem.W.InitBack (s.heap.objs.size + 1) R)
      { s with heap := (s.heap.push PySem.W.emptyDict).push (PySem.W.instObj C s.heap.objs.size) }) :
    codeAny (model prog w) A (.call (.ref C) ⟨vs, kw⟩) R s := by
  obtain ⟨hh, g, d, t, os⟩ := s
  exact PySem.W.make_core (PySem.W.makes_of X hm) (PySem.W.looks_findIn X hi) (fun self => PySem.W.bind_fn X self hf) (.inl rfl) h
/-- C() where there is no __init__ but object's -/
theorem make_map0 {R : Result → Shared → Prop} (X : K.In s.heap) (hm : PySem.W.makesIn K C = true)
    (hi : PySem.W.findIn K (.ref C) "__init__" = some (some (.builtin "object.__init__")))
    (hb : ∀ self, PySem.W.Looks (model prog w) s.heap (bindSpecial (.builtin "object.__init__") self) (.builtin "object.__init__", [self]))
    (h : codeAny (model prog w) (A.under (.builtin "type.__call__" ⟨[.ref C], []⟩)) (.call (.builtin "object.__init__") ⟨[.ref (s.heap.objs.size + 1)], []⟩) (PySem.W.InitBack (s.heap.objs.size + 1) R)
      { s with heap := (s.heap.push PySem.W.emptyDict).push (PySem.W.instObj C s.heap.objs.size) }) :
    codeAny (model prog w) A (.call (.ref C) ⟨[], []⟩) R s := by
  obtain ⟨hh, g, d, t, os⟩ := s
  exact PySem.W.make_core (PySem.W.makes_of X hm) (PySem.W.looks_findIn X hi) hb (.inr ⟨rfl, rfl⟩) h
end

/-! ### the attributes as a list of pairs -/
def putF (f : Str) (v : V) : List (Str × V) → List (Str × V)
  | [] => [(f, v)]
  | (g, x) :: r => if g = f then (g, v) :: r else (g, x) :: putF f v r
theorem lookup_putF (f g : Str) (v : V) : ∀ fs : List (Str × V), (putF f v fs).lookup g = if g = f then some v else fs.lookup g
  | [] => by
    show List.lookup g [(f, v)] = _
    by_cases h : g = f
    · have hb : (g == f) = true := beq_iff_eq.mpr h
      simp only [List.lookup, hb, if_pos h]
    · have hb : (g == f) = false := beq_eq_false_iff_ne.mpr h
      simp only [List.lookup, hb, if_neg h]
  | (k, x) :: r => by
    have ih := lookup_putF f g v r
    rw [show putF f v ((k, x) :: r) = (if k = f then (k, v) :: r else (k, x) :: putF f v r) from rfl]
    by_cases hk : k = f
    · rw [if_pos hk]
      by_cases h : g = k
      · have hb : (g == k) = true := beq_iff_eq.mpr h
        simp only [List.lookup, hb, if_pos (h.trans hk)]
      · have hb : (g == k) = false := beq_eq_false_iff_ne.mpr h
        simp only [List.lookup, hb, if_neg (fun e : g = f => h (e.trans hk.symm))]
    · rw [if_neg hk]
      by_cases h : g = k
      · have hb : (g == k) = true := beq_iff_eq.mpr h
        simp only [List.lookup, hb, if_neg (fun e : g = f => hk (h.symm.trans e))]
      · have hb : (g == k) = false := beq_eq_false_iff_ne.mpr h
        simp only [List.lookup, hb]
        exact ih
theorem keys_putF (f : Str) (v : V) : ∀ fs : List (Str × V), f ∈ (putF f v fs).map (·.1) ∧ ∀ g, g ∈ fs.map (·.1) → g ∈ (putF f v fs).map (·.1)
  | [] => ⟨by simp [putF], fun g h => by simp at h⟩
  | (k, x) :: r => by
    obtain ⟨i1, i2⟩ := keys_putF f v r
    rw [show putF f v ((k, x) :: r) = (if k = f then (k, v) :: r else (k, x) :: putF f v r) from rfl]
    by_cases hk : k = f
    · rw [if_pos hk]
      subst hk
      exact ⟨by simp, fun g h => by simpa using h⟩
    · rw [if_neg hk]
      refine ⟨?_, fun g h => ?_⟩
      · rw [List.map_cons]
        exact List.mem_cons_of_mem _ i1
      · rw [List.map_cons] at h ⊢
        rcases List.mem_cons.mp h with e | e
        · exact List.mem_cons.mpr (.inl e)
        · exact List.mem_cons_of_mem _ (i2 g e)
theorem length_putF (f : Str) (v : V) : ∀ fs : List (Str × V), (putF f v fs).length ≤ fs.length + 1
  | [] => by simp [putF]
  | (k, x) :: r => by
    have ih := length_putF f v r
    rw [show putF f v ((k, x) :: r) = (if k = f then (k, v) :: r else (k, x) :: putF f v r) from rfl]
    by_cases hk : k = f
    · rw [if_pos hk, List.length_cons, List.length_cons]; omega
    · rw [if_neg hk, List.length_cons, List.length_cons]; omega

theorem RelO.some_of {v : V} {o : Option Value} (r : RelO (some v) o) : ∃ u, o = some u ∧ RelV v u := by
  cases o with
  | none => exact (show False from r).elim
  | some u => exact ⟨u, rfl, r⟩
theorem RelO.none_of {o : Option Value} (r : RelO none o) : o = none := by
  cases o with
  | none => rfl
  | some u => exact (show False from r).elim
theorem handed_of {v : V} {u : Value} (r : RelV v u) : PySem.W.handedIn u = true := by
  cases v with
  | non => cases (show u = Value.none from r); rfl
  | bl b => cases (show u = Value.bool b from r); rfl
  | int i => obtain ⟨t, e⟩ := (show ∃ t, u = Value.int i t from r); cases e; rfl
  | str x => obtain ⟨t, e⟩ := (show ∃ t, u = Value.str x t from r); cases e; rfl
  | byt b => obtain ⟨t, e⟩ := (show ∃ t, u = Value.bytes b t from r); cases e; rfl
  | flt b => obtain ⟨t, e⟩ := (show ∃ t, u = Value.float b t from r); cases e; rfl
  | ref a => cases (show u = Value.ref a from r); rfl
  | ty n => cases (show u = Value.type n from r); rfl

section
variable {P : Program} {w : World} {H H' : Hp} {h h' : Heap} {a C dx : Addr} {fs fs' : List (Str × V)}
theorem ins_get (hok : HOk P w H h) (e : H a = some (.ins C dx fs)) : ∃ mA, ObjM h a dx C mA ∧ (∀ f, RelO (fs.lookup f) (mA f)) ∧ PySem.Within mA (fs.map (·.1)) ∧ fs.length ≤ 1000 ∧ H dx = some (.own a) := by
  obtain ⟨d, z, ne, ob, mA, n, r, q⟩ := (show ObjOk P w H h a (.ins C dx fs) from hok a _ e)
  exact ⟨mA, ⟨ob, n, ne⟩, r, q, z, d⟩
end

/-! ### what of the text a class must have -/
structure Cls (K : PySem.W.Frag) (C : Addr) : Prop where
  pg : PySem.W.plainGet K C Str.empty = true
  hd : PySem.W.hasDictIn K C = true
  po : PySem.W.plainOver K C = true
  sa : PySem.W.findIn K (.ref C) "__setattr__" = some (some (.builtin "object.__setattr__"))
theorem Cls.get {K : PySem.W.Frag} {C : Addr} (c : Cls K C) (f : Str) : PySem.W.plainGet K C f = true := c.pg
/-- no class of it has the name -/
def NoAttr (K : PySem.W.Frag) (C : Addr) (f : Str) : Prop := PySem.W.findIn K (.ref C) f = some none
theorem NoAttr.taker {K : PySem.W.Frag} {C : Addr} {f : Str} (n : NoAttr K C f) : PySem.W.takerIn K C f = some none := by
  unfold PySem.W.takerIn
  rw [show PySem.W.findIn K (.ref C) f = some none from n]
  rfl
/-- a constant of the class -/
structure Con (K : PySem.W.Frag) (C : Addr) (f : Str) (v : V) (u : Value) : Prop where
  at_ : PySem.W.findIn K (.ref C) f = some (some u)
  rel : RelV v u
  get : PySem.W.specialIn K u "__get__" = some none
  cp : PySem.W.copiedNames.contains f = false
/-- a method: a plain def of the class or of one above it -/
structure Meth (K : PySem.W.Frag) (C : Addr) (m : Str) (f : Addr) : Prop where
  at_ : PySem.W.findIn K (.ref C) m = some (some (.ref f))
  fn : PySem.W.isFn K (.ref f) = true
  kp : PySem.W.keepIn K (.ref f) = true

section
variable {X : Cx} {pins : List (Addr × Obj)} {σ : St} {H : Hp} {s : Shared} {a C dx : Addr} {fs : List (Str × V)} {f : Str} {v : V} {A : Around} {E : Value → Shared → Prop}

theorem getattr_ok {b : Bool} {Q : Value → Shared → Prop} (I : Inv X pins σ H s) (e : H a = some (.ins C dx fs)) (c : Cls X.K C) (n : NoAttr X.K C f) (l : fs.lookup f = some v)
    (h : ∀ u s', Inv X pins σ H s' → RelV v u → Q u s') : wpAny (model X.prog X.w) A (getAttr (.ref a) f b) Q E s := by
  obtain ⟨mA, O, r, _, _, _⟩ := ins_get I.hok e
  obtain ⟨u, hu, ru⟩ := RelO.some_of (v := v) (o := mA f) (by rw [← l]; exact r f)
  exact get_map I.kIn O (c.get f) c.hd n hu (handed_of ru) (h u _ (I.tok _) ru)

theorem getcon_ok {b : Bool} {u : Value} {Q : Value → Shared → Prop} (I : Inv X pins σ H s) (e : H a = some (.ins C dx fs)) (c : Cls X.K C) (k : Con X.K C f v u) (l : fs.lookup f = none)
    (h : ∀ s', Inv X pins σ H s' → Q u s') : wpAny (model X.prog X.w) A (getAttr (.ref a) f b) Q E s := by
  obtain ⟨mA, O, r, _, _, _⟩ := ins_get I.hok e
  have hn : mA f = none := RelO.none_of (by rw [← l]; exact r f)
  exact get_const I.kIn O (c.get f) c.hd k.at_ k.get k.cp hn (handed_of k.rel) (h _ (I.tok _))

theorem getmeth_ok {m : Str} {g : Addr} {pl : Sem Bool} {Q : Value × List Value → Shared → Prop} (I : Inv X pins σ H s) (e : H a = some (.ins C dx fs)) (c : Cls X.K C) (k : Meth X.K C m g) (l : fs.lookup m = none)
    (h : Q (.ref g, [.ref a]) s) : wpAny (model X.prog X.w) A (getMethod (.ref a) m pl) Q E s := by
  obtain ⟨mA, O, r, _, _, _⟩ := ins_get I.hok e
  have hn : mA m = none := RelO.none_of (by rw [← l]; exact r m)
  exact get_meth I.kIn O (c.get m) k.at_ k.fn hn h

theorem setattr_ok {y : V} {u : Value} {Q : Unit → Shared → Prop} (I : Inv X pins σ H s) (e : H a = some (.ins C dx fs)) (c : Cls X.K C) (n : NoAttr X.K C f) (hl : fs.length < 1000) (ry : RelV y u)
    (h : ∀ s', Inv X pins σ (upd H a (.ins C dx (putF f y fs))) s' → Q () s') : wpAny (model X.prog X.w) A (setAttr (.ref a) f u) Q E s := by
  obtain ⟨mA, O, r, wi, _, ho⟩ := ins_get I.hok e
  have hz : (fs.map (·.1)).length ≤ sizeLine := by rw [List.length_map, sizeLine_eq]; omega
  refine set_map I.kIn O c.sa c.po n.taker c.hd wi hz fun h' O' sb => h _ ?_
  have hd : ∃ o, h'.get? dx = some o := let ⟨o, _, _, e', _⟩ := O'.ns; ⟨o, e'⟩
  refine I.write (x := a) (e := dx) (by rw [e]; exact True.intro) (.inr ho) (fun b q hb z => (sb.2 b hb).trans z) hd ?_
  refine ⟨by rw [upd_ne O.ne]; exact ho, ?_, O.ne, O'.obj, _, O'.ns, fun g => ?_, fun g hg => ?_⟩
  · have := length_putF f y fs; omega
  · show RelO ((putF f y fs).lookup g) (if g = f then some u else mA g)
    rw [lookup_putF]
    by_cases q : g = f
    · rw [if_pos q, if_pos q]; exact ry
    · rw [if_neg q, if_neg q]; exact r g
  · by_cases q : g = f
    · rw [q]; exact (keys_putF f y fs).1
    · refine (keys_putF f y fs).2 g (wi g fun z => hg ?_)
      show (if g = f then some u else mA g) = none
      rw [if_neg q]; exact z

/-- a new instance, tracked, without attributes -/
theorem Inv.made (I : Inv X pins σ H s) : Inv X pins σ (upd (upd H s.heap.objs.size (.own (s.heap.objs.size + 1))) (s.heap.objs.size + 1) (.ins C s.heap.objs.size []))
    { s with heap := (s.heap.push PySem.W.emptyDict).push (PySem.W.instObj C s.heap.objs.size) } := by
  have e1 : (s.heap.push PySem.W.emptyDict).get? s.heap.objs.size = some PySem.W.emptyDict := Heap.get?_push_size s.heap rfl
  have e2 : ((s.heap.push PySem.W.emptyDict).push (PySem.W.instObj C s.heap.objs.size)).get? (s.heap.objs.size + 1) = some (PySem.W.instObj C s.heap.objs.size) := by
    have := Heap.get?_push_size (s.heap.push PySem.W.emptyDict) (o := PySem.W.instObj C s.heap.objs.size) rfl
    rwa [Heap.size_push] at this
  have e3 : (s.heap.push PySem.W.emptyDict).Ns s.heap.objs.size (fun _ => none) := ⟨PySem.W.emptyDict, #[], _, e1, rfl, (fun e he => absurd he (by simp)), fun _ => rfl⟩
  have I1 := I.laid (a := s.heap.objs.size) (o := .own (s.heap.objs.size + 1)) (h' := s.heap.push PySem.W.emptyDict) (t' := s.toks) (fun b u q => Heap.get?_push_of_some _ q) (Nat.le_refl _) ⟨_, e1⟩
  refine I1.laid (a := s.heap.objs.size + 1) (o := .ins C s.heap.objs.size []) (t' := s.toks) (fun b u q => Heap.get?_push_of_some _ q) (Nat.le_of_eq (Heap.size_push _ _)) ?_
  have ne : s.heap.objs.size ≠ s.heap.objs.size + 1 := Nat.ne_of_lt (Nat.lt_succ_self _)
  refine ⟨by rw [upd_ne ne, upd_same], Nat.zero_le _, ne, e2, fun _ => none, (Heap.Ns1.of_empty e3).at fun o q => Heap.get?_push_of_some _ q, fun _ => True.intro, fun y hy => absurd rfl hy⟩

/-- e.f where nothing but the object is asked: through attributeBase (super) and the last hold -/
theorem attr_of {prog : Program} {w : World} {env : Env} {e : Expr} {f : Str} {pos : Pos} {s : Shared} {Q : Value → Shared → Prop} (hb : attributeBase e f env (eval e env) = eval e env)
    (h : wpAny (model prog w) A (eval e env) (fun o s₁ => wpAny (model prog w) A (getAttr o f true) Q E s₁) E s) : wpAny (model prog w) A (eval (.Attribute e f pos) env) Q E s :=
  Attribute_any_ h (by rw [arm_eval_Attribute, hb])
end

/-! ### readings and rules -/
/-- e.f, an attribute of the instance -/
def tFld (K : PySem.W.Frag) (ta : TE) (f : Str) : TE := fun σ H Q => ta σ H fun x H1 => ∃ a C dx fs v, x = .ref a ∧ H1 a = some (.ins C dx fs) ∧ Cls K C ∧ NoAttr K C f ∧ fs.lookup f = some v ∧ Q v H1
/-- e.f, a constant of the class -/
def tCon (K : PySem.W.Frag) (ta : TE) (f : Str) : TE := fun σ H Q => ta σ H fun x H1 => ∃ a C dx fs v u, x = .ref a ∧ H1 a = some (.ins C dx fs) ∧ Cls K C ∧ Con K C f v u ∧ fs.lookup f = none ∧ Q v H1
/-- e.f = value -/
def sFld (K : PySem.W.Frag) (ta tv : TE) (f : Str) : TS := fun D σ H => tv σ H fun y H1 => ta σ H1 fun x H2 => ∃ a C dx fs, x = .ref a ∧ H2 a = some (.ins C dx fs) ∧ Cls K C ∧ NoAttr K C f ∧ fs.length < 1000 ∧
  D.nx σ (upd H2 a (.ins C dx (putF f y fs)))
/-- an augmented operator on two values -/
def InOp (X : Cx) (op : Operator) (rd : V → V → Hp → VK → Prop) : Prop :=
  ∀ (pins : List (Addr × Obj)) (s : Shared) (σ : St) (H : Hp) (x y : V) (u v : Value) (Q : VK), Inv X pins σ H s → RelV x u → RelV y v → rd x y H Q → wpAny (model X.prog X.w) X.A (inplaceOp op u v) (EP X pins σ Q) X.xe s
/-- e.f op= value -/
def sFldAug (K : PySem.W.Frag) (ta tv : TE) (rd : V → V → Hp → VK → Prop) (f : Str) : TS := fun D σ H => ta σ H fun x H1 => ∃ a C dx fs v, x = .ref a ∧ H1 a = some (.ins C dx fs) ∧ Cls K C ∧ NoAttr K C f ∧ fs.lookup f = some v ∧
  tv σ H1 fun y H2 => rd v y H2 fun z H3 => ∃ dx' fs', H3 a = some (.ins C dx' fs') ∧ fs'.length < 1000 ∧ D.nx σ (upd H3 a (.ins C dx' (putF f z fs')))

section
variable {X : Cx} {o e value : Expr} {f : Str} {pos pos' tpos : Pos} {ta tv : TE}
theorem pe_fld (he : PE X e ta) (hb : attributeBase e f X.env (eval e X.env) = eval e X.env) : PE X (.Attribute e f pos) (tFld X.K ta f) := by
  intro pins s σ H Q I h
  refine attr_of hb (thn (he pins s σ H _ I h) fun u s1 ⟨x, H1, I1, rx, a, C, dx, fs, v, ex, ea, c, n, l, q⟩ => ?_)
  subst ex
  obtain rfl : u = Value.ref a := rx
  exact getattr_ok I1 ea c n l fun u' s2 I2 ru => ⟨v, H1, I2, ru, q⟩
theorem pe_con (he : PE X e ta) (hb : attributeBase e f X.env (eval e X.env) = eval e X.env) : PE X (.Attribute e f pos) (tCon X.K ta f) := by
  intro pins s σ H Q I h
  refine attr_of hb (thn (he pins s σ H _ I h) fun u s1 ⟨x, H1, I1, rx, a, C, dx, fs, v, u0, ex, ea, c, k, l, q⟩ => ?_)
  subst ex
  obtain rfl : u = Value.ref a := rx
  exact getcon_ok I1 ea c k l fun s2 I2 => ⟨v, H1, I2, k.rel, q⟩
theorem ps_fld (ha : PE X o ta) (hv : PE X value tv) (hs : swapsWith value (some (.Attribute o f pos')) pos.line X.env = pure false) : PS X (.Assign [.Attribute o f pos'] value pos) (sFld X.K ta tv f) := by
  intro pins s σ H D I h
  refine plainObj_wpAny_Assign_Attribute (thn (hv pins s σ H _ I h) fun u s1 ⟨y, H1, I1, ry, q⟩ => thn (ha pins s1 σ H1 _ I1 q) fun ov s2 ⟨x, H2, I2, rx, a, C, dx, fs, ex, ea, c, n, l, q2⟩ => ?_) hs
  subst ex
  obtain rfl : ov = Value.ref a := rx
  exact setattr_ok I2 ea c n l ry fun s3 I3 => ⟨σ, _, I3, q2⟩
theorem ps_fldaug {op : Operator} {rd : V → V → Hp → VK → Prop} (ha : PE X o ta) (hv : PE X value tv) (hop : InOp X op rd) : PS X (.AugAssign (.Attribute o f tpos) op value pos) (sFldAug X.K ta tv rd f) := by
  intro pins s σ H D I h
  refine wpAny_AugAssign_AttributeAny (thn (ha pins s σ H _ I h) fun ov s1 ⟨x, H1, I1, rx, a, C, dx, fs, v, ex, ea, c, n, l, q⟩ => ?_)
  subst ex
  obtain rfl : ov = Value.ref a := rx
  refine getattr_ok I1 ea c n l fun u s2 I2 ru => thn (hv pins s2 σ H1 _ I2 q) fun w3 s3 ⟨y, H2, I3, ry, q3⟩ => thn (hop pins s3 σ H2 v y u w3 _ I3 ru ry q3) fun w4 s4 ⟨z, H3, I4, rz, dx', fs', ea', l', q4⟩ => ?_
  exact setattr_ok I4 ea' c n l' rz fun s5 I5 => ⟨σ, _, I5, q4⟩
def rAdd : V → V → Hp → VK → Prop := fun x y H Q => ∃ i j, x = .int i ∧ y = .int j ∧ Q (.int (i + j)) H
def rSub : V → V → Hp → VK → Prop := fun x y H Q => ∃ i j, x = .int i ∧ y = .int j ∧ Q (.int (i - j)) H
theorem in_add : InOp X .Add rAdd := by
  rintro pins s σ H x y u v Q I rx ry ⟨i, j, rfl, rfl, q⟩
  obtain ⟨t, rfl⟩ := (show ∃ t, u = Value.int i t from rx)
  obtain ⟨t', rfl⟩ := (show ∃ t', v = Value.int j t' from ry)
  exact PyProof.Rows.iadd_int ⟨.int (i + j), H, I.tok _, ⟨_, rfl⟩, q⟩
theorem in_sub : InOp X .Sub rSub := by
  rintro pins s σ H x y u v Q I rx ry ⟨i, j, rfl, rfl, q⟩
  obtain ⟨t, rfl⟩ := (show ∃ t, u = Value.int i t from rx)
  obtain ⟨t', rfl⟩ := (show ∃ t', v = Value.int j t' from ry)
  exact PyProof.Rows.isub_int ⟨.int (i - j), H, I.tok _, ⟨_, rfl⟩, q⟩

/-- what is between an instance and its method: the tree of a method call -/
theorem methcall_of {pl : Sem Bool} {m : Str} {apos : Pos} {args : List Expr} {pins : List (Addr × Obj)} {s : Shared} {σ : St} {H : Hp} {Q : Value → Shared → Prop} {te : TE} (he : PE X e te) (I : Inv X pins σ H s)
    (h : te σ H fun x H1 => ∃ a C dx fs g, x = .ref a ∧ H1 a = some (.ins C dx fs) ∧ Cls X.K C ∧ Meth X.K C m g ∧ fs.lookup m = none ∧
      ∀ s1, Inv X pins σ H1 s1 → wpAny (model X.prog X.w) X.A (callWith pos (.ref g) [.ref a] (backTo pos (starEach args X.env)) (backToKw pos (keywordEach [] X.env))) Q X.xe s1)
    (ht : eval (.Call (.Attribute e m apos) args [] pos) X.env = (do
      let ov ← eval e X.env
      standAt apos.atName
      let (f, first) ← holding [ov] (getMethod ov m pl)
      callWith pos f first (backTo pos (starEach args X.env)) (backToKw pos (keywordEach [] X.env)))) :
    wpAny (model X.prog X.w) X.A (eval (.Call (.Attribute e m apos) args [] pos) X.env) Q X.xe s := by
  refine PySem.W.methodCall_KW (pl := pl) (thn (he pins s σ H _ I h) fun u s1 ⟨x, H1, I1, rx, a, C, dx, fs, g, ex, ea, c, k, l, q⟩ => ?_) ht
  subst ex
  obtain rfl : u = Value.ref a := rx
  exact getmeth_ok I1 ea c k l (q s1 I1)
end

/-! ### isinstance -/
section
variable {X : Cx} {pins : List (Addr × Obj)} {σ : St} {H : Hp} {s : Shared} {A : Around} {E : Value → Shared → Prop} {Q : Value → Shared → Prop} {c : Value} {b : Bool}
/-- the type of a value, as the fragment's deciders take it; for an instance its class -/
inductive TyOf (K : PySem.W.Frag) (H : Hp) : V → Value → Prop where
  | non : TyOf K H .non (.type "NoneType")
  | bl (x : Bool) : TyOf K H (.bl x) (.type "bool")
  | int (i : Int) : TyOf K H (.int i) (.type "int")
  | str (x : Str) : TyOf K H (.str x) (.type "str")
  | flt (x : UInt64) : TyOf K H (.flt x) (.type "float")
  | lst {a : Addr} {xs : List V} (e : H a = some (.lst xs)) : TyOf K H (.ref a) (.type "list")
  | frz {a : Addr} {o : Obj} {xs : List V} (e : H a = some (.frz o (.lst xs))) : TyOf K H (.ref a) (.type "list")
  | tup {a : Addr} {xs : List V} (e : H a = some (.tup xs)) : TyOf K H (.ref a) (.type "tuple")
  | dK {a : Addr} {kvs : List (Key × V)} (e : H a = some (.dK kvs)) : TyOf K H (.ref a) (.type "dict")
  | dT {a : Addr} {kvs : List (List Key × V)} (e : H a = some (.dT kvs)) : TyOf K H (.ref a) (.type "dict")
  | dX {a : Addr} {ep : Nat} {kvs : List (KD × V)} (e : H a = some (.dX ep kvs)) : TyOf K H (.ref a) (.type "dict")
  | ins {a C dx : Addr} {fs : List (Str × V)} (e : H a = some (.ins C dx fs)) (cl : Cls K C) (ha : PySem.W.findIn K (.ref C) "__class__" = some (some (.builtin "object.__class__")))
      (hn : PySem.W.specialIn K (.builtin "object.__class__") "__get__" = some (some (.builtin "getset_descriptor.__get__"))) (htk : PySem.W.takesIn K (.builtin "object.__class__") = some true)
      (hm : PySem.W.mroIn K C (.type "object") = some true) : TyOf K H (.ref a) (.ref C)
/-- isinstance(x, c) for one class c, a built-in or an own one: kitOne's answer -/
theorem isinst_ok {x : V} {u t : Value} (I : Inv X pins σ H s) (rx : RelV x u) (ty : TyOf X.K H x t) (e : PySem.W.kitOne X.K t c = some b) (h : ∀ tk, Q (.bool b) { s with toks := tk }) :
    wpAny (model X.prog X.w) A (call (.builtin "isinstance") [u, c]) Q E s := by
  cases ty with
  | non => cases (show u = Value.none from rx); exact PySem.W.kia_one PySem.W.kitx_none I.kIn True.intro e (fun z => nomatch z) h
  | bl y => cases (show u = Value.bool y from rx); exact PySem.W.kia_one PySem.W.kitx_bool I.kIn True.intro e (fun z => nomatch z) h
  | int i => obtain ⟨t, q⟩ := (show ∃ t, u = Value.int i t from rx); cases q; exact PySem.W.kia_one PySem.W.kitx_int I.kIn True.intro e (fun z => nomatch z) h
  | str y => obtain ⟨t, q⟩ := (show ∃ t, u = Value.str y t from rx); cases q; exact PySem.W.kia_one PySem.W.kitx_str I.kIn True.intro e (fun z => nomatch z) h
  | flt y => obtain ⟨t, q⟩ := (show ∃ t, u = Value.float y t from rx); cases q; exact PySem.W.kia_one PySem.W.kitx_float I.kIn True.intro e (fun z => nomatch z) h
  | @lst a xs ea =>
    cases (show u = Value.ref a from rx)
    obtain ⟨_, _, n, _, h1⟩ := (show ObjOk X.prog X.w H s.heap a (.lst xs) from I.hok a _ ea)
    exact PySem.W.kia_one PySem.W.kitx_list I.kIn ⟨_, h1, rfl⟩ e (fun z => nomatch z) h
  | @frz a ob xs ea =>
    cases (show u = Value.ref a from rx)
    obtain ⟨_, _, _, n, _, h1⟩ := (show ObjOk X.prog X.w H s.heap a (.frz ob (.lst xs)) from I.hok a _ ea)
    exact PySem.W.kia_one PySem.W.kitx_list I.kIn ⟨_, h1, rfl⟩ e (fun z => nomatch z) h
  | @tup a xs ea =>
    cases (show u = Value.ref a from rx)
    obtain ⟨_, _, _, p⟩ := (show ObjOk X.prog X.w H s.heap a (.tup xs) from I.hok a _ ea)
    obtain ⟨o, h1, h2, _⟩ := p
    exact PySem.W.kia_one PySem.W.kitx_tuple I.kIn ⟨o, h1, h2⟩ e (fun z => nomatch z) h
  | @dK a kvs ea =>
    cases (show u = Value.ref a from rx)
    obtain ⟨_, _, vs, _, p⟩ := (show ObjOk X.prog X.w H s.heap a (.dK kvs) from I.hok a _ ea)
    obtain ⟨o, es, ep, h1, h2, _⟩ := p
    exact PySem.W.kia_one PySem.W.kitx_dict I.kIn ⟨o, h1, h2.1⟩ e (fun z => nomatch z) h
  | @dT a kvs ea =>
    cases (show u = Value.ref a from rx)
    obtain ⟨_, _, xs, _, o, es, ep, h1, h2, _⟩ := (show ObjOk X.prog X.w H s.heap a (.dT kvs) from I.hok a _ ea)
    exact PySem.W.kia_one PySem.W.kitx_dict I.kIn ⟨o, h1, h2.1⟩ e (fun z => nomatch z) h
  | @dX a ep kvs ea =>
    cases (show u = Value.ref a from rx)
    obtain ⟨_, _, xs, _, o, es, h1, h2, _⟩ := (show ObjOk X.prog X.w H s.heap a (.dX ep kvs) from I.hok a _ ea)
    exact PySem.W.kia_one PySem.W.kitx_dict I.kIn ⟨o, h1, h2.1⟩ e (fun z => nomatch z) h
  | @ins a C dx fs ea cl ha hn htk hm =>
    cases (show u = Value.ref a from rx)
    obtain ⟨mA, O, _⟩ := ins_get I.hok ea
    obtain ⟨od, J, _⟩ := O.look
    exact PySem.W.kia_one (PySem.W.kitx_own (cl.get _) cl.hd ha hn htk hm) I.kIn J e (fun z => nomatch z) h
end
end L2

namespace L2
open PySem PySem.Spec PyProof.Rows

/-! ### room -/
structure Room (k : Nat) (A : Around) : Prop where
  hd : A.handled = none
  dp : A.depth + 3 * k + 5 < recursionLimit
  un : A.units + 16 * k + 200 < cLine
theorem Room.mono {j k : Nat} {A : Around} (r : Room k A) (h : j ≤ k) : Room j A := ⟨r.hd, by have := r.dp; omega, by have := r.un; omega⟩
theorem Room.deeper {k : Nat} {A : Around} (r : Room (k + 1) A) (env : Env) : Room k (A.deeper env) :=
  ⟨r.hd, by have := r.dp; show A.depth + 1 + 3 * k + 5 < _; omega, by have := r.un; show A.units + 3 + 16 * k + 200 < _; omega⟩
theorem Room.in1 {k : Nat} {A : Around} (r : Room (k + 1) A) : Room k A.in1 :=
  ⟨r.hd, by have := r.dp; show A.depth + 3 * k + 5 < _; omega, by have := r.un; show A.units + 1 + 16 * k + 200 < _; omega⟩
theorem make_depth {A : Around} {C : Addr} {us : List Value} {kw : List (Str × Value)} : (A.under (.builtin "type.__call__" ⟨.ref C :: us, kw⟩)).depth = A.depth + 1 := by
  first | rfl | simp [Around.under, Code.weight, Code.isCreation, Code.isGuard, Code.isCaller, Code.frames, Code.isFrame, guardIds]
theorem make_units {A : Around} {C : Addr} {us : List Value} {kw : List (Str × Value)} : (A.under (.builtin "type.__call__" ⟨.ref C :: us, kw⟩)).units = A.units + 1 := by
  first | rfl | simp [Around.under, Code.cUnits, Code.frames, Code.isFrame]
theorem Room.make {k : Nat} {A : Around} (r : Room (k + 1) A) (C : Addr) (us : List Value) (kw : List (Str × Value)) : Room k (A.under (.builtin "type.__call__" ⟨.ref C :: us, kw⟩)) :=
  ⟨r.hd, by have := r.dp; rw [make_depth]; omega, by have := r.un; rw [make_units]; omega⟩
theorem Room.depth {k : Nat} {A : Around} (r : Room k A) : A.depth < recursionLimit := by have := r.dp; omega
theorem Room.units {k : Nat} {A : Around} (r : Room k A) : A.units + 64 < cLine := by have := r.un; omega
theorem Room.units0 {k : Nat} {A : Around} (r : Room k A) : A.units < cLine := by have := r.un; omega

/-! ### argument lists and displays -/
def tNil : TA := fun _ H Q => Q [] H
def tCons (ta : TE) (tr : TA) : TA := fun σ H Q => ta σ H fun x H1 => tr σ H1 fun xs H2 => Q (x :: xs) H2
section
variable {X : Cx} {e : Expr} {es : List Expr} {te : TE} {t : TA} {pos : Pos}
theorem pa_nil : PA X [] tNil := fun _ _ _ _ H Q I h => Calls.spliced_nil ⟨[], H, I, .nil, h⟩
theorem pa_cons (ha : PE X e te) (hr : PA X es t) (hs : starEach (e :: es) X.env = (false, eval e X.env) :: starEach es X.env := by rfl) : PA X (e :: es) (tCons te t) := by
  intro pos pins s σ H Q I h
  rw [hs]
  show wpAny _ _ (spliced ((false, eval e X.env) :: backTo pos (starEach es X.env))) _ _ s
  refine Calls.spliced_cons (thn (ha pins s σ H _ I h) fun u s1 ⟨x, H1, I1, r1, q1⟩ => ?_)
  exact thn (hr pos pins s1 σ H1 _ I1 q1) fun us s2 ⟨xs, H2, I2, r2, q2⟩ => ⟨x :: xs, H2, I2, .cons r1 r2, q2⟩

/-- a tuple, a list of written items -/
def tTup (t : TA) : TE := fun σ H Q => t σ H fun xs H1 => xs.length ≤ sizeLine ∧ ∀ p, H1 p = none → Q (.ref p) (upd H1 p (.tup xs))
def tLst (t : TA) : TE := fun σ H Q => t σ H fun xs H1 => xs.length ≤ sizeLine ∧ ∀ p, H1 p = none → Q (.ref p) (upd H1 p (.lst xs))
theorem pe_tup {x1} (h : PA X es t) : PE X (.Tuple es x1 pos) (tTup t) := by
  intro pins s σ H Q I hq
  refine wpAny_Tuple_spliced (thn (h pos pins s σ H _ I hq) fun us s1 ⟨xs, H1, I1, r, z, q⟩ => ⟨by rw [← r.length]; exact z, ?_⟩)
  have hf : H1 s1.heap.objs.size = none := I1.hok.fresh (Nat.le_refl _)
  refine ⟨.ref s1.heap.objs.size, upd H1 s1.heap.objs.size (.tup xs), I1.laid (t' := s1.toks) (fun b u e => Heap.get?_push_of_some _ e) (Nat.le_refl _) ?_, rfl, q _ hf⟩
  exact ⟨z, us, r, ⟨_, Heap.get?_push_size _ rfl, rfl, _, rfl⟩⟩
theorem pe_lst (h : PA X es t) : PE X (.List es pos) (tLst t) := by
  intro pins s σ H Q I hq
  refine wpAny_List_spliced (thn (h pos pins s σ H _ I hq) fun us s1 ⟨xs, H1, I1, r, z, q⟩ => ⟨by rw [← r.length]; exact z, ?_⟩)
  have hf : H1 s1.heap.objs.size = none := I1.hok.fresh (Nat.le_refl _)
  refine ⟨.ref s1.heap.objs.size, upd H1 s1.heap.objs.size (.lst xs), I1.laid (t' := s1.toks) (fun b u e => Heap.get?_push_of_some _ e) (Nat.le_refl _) ?_, rfl, q _ hf⟩
  exact ⟨z, us, 0, r, Heap.get?_push_size _ rfl⟩
end

/-! ### what a def promises -/
/-- a def's promise: the bound arguments in the parameters' order, the heap, the wanted end, the wanted exception -/
abbrev Sp := List V → Hp → VK → XK → Prop
/-- how an exception lies behind a call (file 08 gives it): the callers' frames, abstract heap and state ahead of the call, the wish, the exception, the state -/
abbrev CXT := List Env → Hp → Shared → XK → Value → Shared → Prop

/-- the state at a call -/
structure Env0 (P : Program) (w : World) (K : PySem.W.Frag) (mg : Str → Option Value) (base : Heap) (A : Around) (outer : List Env) (s : Shared) (H : Hp) : Prop where
  frames : A.frames = some outer
  mod : Mod K mg base
  bs : ∀ b o, base.get? b = some o → s.heap.get? b = some o ∧ H b = none
  bsz : base.objs.size ≤ s.heap.objs.size
  funs : s.heap.FunFrames base outer
  frf : ∀ b ∈ frs outer, H b = none
  hok : HOk P w H s.heap
  bare : AllBare s.gens
/-- a call's end -/
def CE (outer : List Env) (P : Program) (w : World) (H : Hp) (s : Shared) (Q : VK) (u : Value) (s' : Shared) : Prop :=
  ∃ v H', s'.os = s.os ∧ AllBare s'.gens ∧ Un (frs outer) [] H H' s.heap s'.heap ∧ HOk P w H' s'.heap ∧ RelV v u ∧ Q v H'
def CR (CX : CXT) (outer : List Env) (P : Program) (w : World) (H : Hp) (s : Shared) (Q : VK) (E : XK) (r : Result) (s' : Shared) : Prop :=
  match r with
  | .ok (.ret u) => CE outer P w H s Q u s'
  | .ok _ => False
  | .error e => CX outer H s E e s'
structure FnOk (P : Program) (w : World) (K : PySem.W.Frag) (mg : Str → Option Value) (base : Heap) (CX : CXT) (k : Nat) (f : Addr) (fd : FuncData) (ps : List Str) (sp : Sp) : Prop where
  len : ∀ vs H Q E, sp vs H Q E → vs.length = ps.length
  run : ∀ (A : Around) (outer : List Env) (s : Shared) (H : Hp) (args : Args) (us : List Value) (vs : List V) (Q : VK) (E : XK), Room k A → Env0 P w K mg base A outer s H → BindsTo s fd args (ps.zip us) → Vals vs us → sp vs H Q E →
    codeAny (model P w) A (.call (.ref f) args) (CR CX outer P w H s Q E) s
theorem FnOk.mono {P : Program} {w : World} {K : PySem.W.Frag} {mg : Str → Option Value} {base : Heap} {CX : CXT} {j k : Nat} {f : Addr} {fd : FuncData} {ps : List Str} {sp : Sp} (F : FnOk P w K mg base CX j f fd ps sp) (h : j ≤ k) :
    FnOk P w K mg base CX k f fd ps sp := ⟨F.len, fun A outer s H args us vs Q E hr => F.run A outer s H args us vs Q E (hr.mono h)⟩
/-- a weaker promise -/
theorem FnOk.imp {P : Program} {w : World} {K : PySem.W.Frag} {mg : Str → Option Value} {base : Heap} {CX : CXT} {k : Nat} {f : Addr} {fd : FuncData} {ps : List Str} {sp sp' : Sp} (F : FnOk P w K mg base CX k f fd ps sp)
    (h : ∀ vs H Q E, sp' vs H Q E → sp vs H Q E) : FnOk P w K mg base CX k f fd ps sp' :=
  ⟨fun vs H Q E q => F.len vs H Q E (h _ _ _ _ q), fun A outer s H args us vs Q E hr he hb hv hs => F.run A outer s H args us vs Q E hr he hb hv (h _ _ _ _ hs)⟩

theorem Env0.make {P : Program} {w : World} {K : PySem.W.Frag} {mg : Str → Option Value} {base : Heap} {A : Around} {outer : List Env} {s : Shared} {H : Hp} (e : Env0 P w K mg base A outer s H) (C : Addr) (us : List Value) (kw : List (Str × Value)) :
    Env0 P w K mg base (A.under (.builtin "type.__call__" ⟨.ref C :: us, kw⟩)) outer s H := ⟨by first | exact e.frames | (simpa [Around.under, Code.envs, Code.isFrame, pushEnvs] using e.frames), e.mod, e.bs, e.bsz, e.funs, e.frf, e.hok, e.bare⟩
theorem Env0.in1 {P : Program} {w : World} {K : PySem.W.Frag} {mg : Str → Option Value} {base : Heap} {A : Around} {outer : List Env} {s : Shared} {H : Hp} (e : Env0 P w K mg base A outer s H) :
    Env0 P w K mg base A.in1 outer s H := ⟨e.frames, e.mod, e.bs, e.bsz, e.funs, e.frf, e.hok, e.bare⟩

section
variable {X : Cx} {pins : List (Addr × Obj)} {σ : St} {H : Hp} {s s' : Shared}
/-- from a body: what a callee wants -/
theorem Inv.env0 (I : Inv X pins σ H s) : Env0 X.prog X.w X.K X.mg X.base X.A X.stack s H :=
  ⟨I.ok.frames, I.ok.mod, I.bs, Nat.le_trans I.ok.bsz I.sz, I.stack, I.stkFree, I.hok, I.bare⟩
/-- behind a call -/
theorem Inv.after {Q : VK} {u : Value} (I : Inv X pins σ H s) (h : CE X.stack X.prog X.w H s Q u s') : EP X pins σ Q u s' := by
  obtain ⟨v, H', os, bare, un, hok, r, q⟩ := h
  obtain ⟨hh, g, d, t, os'⟩ := s'
  obtain rfl : os' = s.os := os
  exact ⟨v, H', I.call (h' := hh) (g' := g) (d' := d) (t' := t) (ch := []) un hok bare (fun b z => absurd z (by simp)), r, q⟩
end

/-! ### calls -/
/-- f(..): the written arguments, then the defaults dvs; E: what is wanted of an exception -/
def tCall (sp : Sp) (dvs : List V) (E : XK) (t : TA) : TE := fun σ H Q => t σ H fun vs H1 => sp (vs ++ dvs) H1 Q E
/-- o.m(..) of an instance of the class at C -/
def tMeth (C : Addr) (m : Str) (sp : Sp) (dvs : List V) (E : XK) (ta : TE) (t : TA) : TE := fun σ H Q => ta σ H fun x H1 => ∃ a dx fs, x = .ref a ∧ H1 a = some (.ins C dx fs) ∧ fs.lookup m = none ∧
  t σ H1 fun vs H2 => sp (x :: (vs ++ dvs)) H2 Q E
/-- C(..): a new instance and its dict, then __init__ -/
def tMake (C : Addr) (sp : Sp) (dvs : List V) (E : XK) (t : TA) : TE := fun σ H Q => t σ H fun vs H1 => ∀ x dx, H1 x = none → H1 dx = none → dx ≠ x →
  sp (.ref x :: (vs ++ dvs)) (upd (upd H1 dx (.own x)) x (.ins C dx [])) (fun v H2 => v = .non ∧ Q (.ref x) H2) E

/-- how the parameters are bound: us the positional arguments, kw the keywords' values by name, ds the defaults that fill up -/
def Binds (K : PySem.W.Frag) (fd : FuncData) (ps : List Str) (ds : List Value) : Prop :=
  ∀ (s : Shared) (us : List Value), K.In s.heap → (us ++ ds).length = ps.length → BindsTo s fd ⟨us, []⟩ (ps.zip (us ++ ds))
/-- every parameter is given -/
theorem Binds.all {K : PySem.W.Frag} {fd : FuncData} {ps : List Str} (h : ∀ us : List Value, us.length = ps.length → bindArgs fd ⟨us, []⟩ = pure (ps.zip us)) : Binds K fd ps [] := fun s us _ hl => by
  rw [List.append_nil] at hl ⊢
  exact .of_eq (h us hl)

/-- an exception of a callee reaches what this body wants of exceptions -/
def Passes (CX : CXT) (X : Cx) (E : XK) : Prop := ∀ (pins : List (Addr × Obj)) (σ : St) (H : Hp) (s : Shared) (e : Value) (s' : Shared), Inv X pins σ H s → CX X.stack H s E e s' → X.xe e s'

section
variable {X : Cx} {CX : CXT} {k : Nat} {f C : Addr} {fd : FuncData} {ps : List Str} {sp : Sp} {dvs : List V} {ds : List Value} {E : XK} {x m : Str} {p pos apos : Pos} {e o : Expr} {es : List Expr} {ta : TE} {t : TA}

/-- the callee runs -/
theorem run_fn {pins : List (Addr × Obj)} {σ : St} {H : Hp} {s : Shared} {Q : VK} {us : List Value} {vs : List V} (F : FnOk X.prog X.w X.K X.mg X.base CX k f fd ps sp) (hr : Room k X.A) (hb : Binds X.K fd ps ds) (hd : Vals dvs ds) (hx : Passes CX X E)
    (I : Inv X pins σ H s) (r : Vals vs us) (h : sp (vs ++ dvs) H Q E) : wpAny (model X.prog X.w) X.A (call (.ref f) us) (EP X pins σ Q) X.xe s := by
  have r2 : Vals (vs ++ dvs) (us ++ ds) := r.append hd
  have hl : (us ++ ds).length = ps.length := by rw [← r2.length]; exact F.len _ _ _ _ h
  refine wpAny_call (codeAny_mono (F.run X.A X.stack s H ⟨us, []⟩ (us ++ ds) (vs ++ dvs) Q E hr I.env0 (hb s us I.kIn hl) r2 h) fun r s' hq => ?_)
  cases r with
  | error e => exact hx pins σ H s e s' I hq
  | ok fl =>
    cases fl with
    | ret u => exact I.after hq
    | next => exact False.elim hq
    | brk => exact False.elim hq
    | cont => exact False.elim hq

theorem pe_call (F : FnOk X.prog X.w X.K X.mg X.base CX k f fd ps sp) (hr : Room k X.A) (hg : Gl X x) (hm : X.mg x = some (.ref f)) (hk : PySem.W.keepIn X.K (.ref f) = true) (hb : Binds X.K fd ps ds) (hd : Vals dvs ds) (hx : Passes CX X E)
    (ha : PA X (e :: es) t) (hdb : (x == ("__debug__" : Str)) = false := by decide) (he : starEach (e :: es) X.env = (false, eval e X.env) :: starEach es X.env := by rfl) (hpl : (backTo pos (starEach es X.env)).any (·.1) = false := by rfl) :
    PE X (.Call (.Name x p) (e :: es) [] pos) (tCall sp dvs E t) := by
  intro pins s σ H Q I h
  refine wpAny_Call_Name_kw (ld_glob I hg hm ?_ hdb)
  refine PySem.W.callWith_K (h₀ := X.base) I.ok.mod.kin hk (thn (ha pos pins s σ H _ I h) fun us s1 ⟨vs, H1, I1, r, q⟩ => ⟨I1.kIn, ?_⟩) he hpl
  exact run_fn F hr hb hd hx I1 r q
theorem pe_call0 (F : FnOk X.prog X.w X.K X.mg X.base CX k f fd ps sp) (hr : Room k X.A) (hg : Gl X x) (hm : X.mg x = some (.ref f)) (hk : PySem.W.keepIn X.K (.ref f) = true) (hb : Binds X.K fd ps ds) (hd : Vals dvs ds) (hx : Passes CX X E)
    (hdb : (x == ("__debug__" : Str)) = false := by decide) : PE X (.Call (.Name x p) [] [] pos) (tCall sp dvs E tNil) := by
  intro pins s σ H Q I h
  refine wpAny_Call_Name_kw (ld_glob I hg hm ?_ hdb)
  exact PySem.W.callWith_K0 I.kIn hk (run_fn (us := []) F hr hb hd hx I .nil h)

/-- o.m(e, ..) -/
theorem pe_meth {pl : Sem Bool} (he : PE X o ta) (c : Cls X.K C) (hm : Meth X.K C m f) (F : FnOk X.prog X.w X.K X.mg X.base CX k f fd ps sp) (hr : Room k X.A) (hb : Binds X.K fd ps ds) (hd : Vals dvs ds) (hx : Passes CX X E) (ha : PA X (e :: es) t)
    (hst : starEach (e :: es) X.env = (false, eval e X.env) :: starEach es X.env := by rfl) (hpl : (backTo pos (starEach es X.env)).any (·.1) = false := by rfl)
    (ht : eval (.Call (.Attribute o m apos) (e :: es) [] pos) X.env = (do
      let ov ← eval o X.env
      standAt apos.atName
      let (f, first) ← holding [ov] (getMethod ov m pl)
      callWith pos f first (backTo pos (starEach (e :: es) X.env)) (backToKw pos (keywordEach [] X.env))) := by rfl) :
    PE X (.Call (.Attribute o m apos) (e :: es) [] pos) (tMeth C m sp dvs E ta t) := by
  intro pins s σ H Q I h
  refine PySem.W.methodCall_KW (pl := pl) (thn (he pins s σ H _ I h) fun u s1 ⟨x, H1, I1, rx, a, dx, fs, ex, ea, l, q⟩ => ?_) ht
  subst ex
  obtain rfl : u = Value.ref a := rx
  refine getmeth_ok I1 ea c hm l ?_
  refine PySem.W.callWith_K (first := [.ref a]) (h₀ := X.base) I.ok.mod.kin hm.kp (thn (ha pos pins s1 σ H1 _ I1 q) fun us s2 ⟨vs, H2, I2, r, q2⟩ => ⟨I2.kIn, ?_⟩) hst hpl
  exact run_fn (us := .ref a :: us) (vs := .ref a :: vs) F hr hb hd hx I2 (.cons rfl r) q2
/-- o.m() -/
theorem pe_meth0 {pl : Sem Bool} (he : PE X o ta) (c : Cls X.K C) (hm : Meth X.K C m f) (F : FnOk X.prog X.w X.K X.mg X.base CX k f fd ps sp) (hr : Room k X.A) (hb : Binds X.K fd ps ds) (hd : Vals dvs ds) (hx : Passes CX X E)
    (ht : eval (.Call (.Attribute o m apos) [] [] pos) X.env = (do
      let ov ← eval o X.env
      standAt apos.atName
      let (f, first) ← holding [ov] (getMethod ov m pl)
      callWith pos f first (backTo pos (starEach [] X.env)) (backToKw pos (keywordEach [] X.env))) := by rfl) :
    PE X (.Call (.Attribute o m apos) [] [] pos) (tMeth C m sp dvs E ta tNil) := by
  intro pins s σ H Q I h
  refine PySem.W.methodCall_KW (pl := pl) (thn (he pins s σ H _ I h) fun u s1 ⟨x, H1, I1, rx, a, dx, fs, ex, ea, l, q⟩ => ?_) ht
  subst ex
  obtain rfl : u = Value.ref a := rx
  refine getmeth_ok I1 ea c hm l ?_
  exact PySem.W.callWith_K0 (first := [.ref a]) I1.kIn hm.kp (run_fn (us := [.ref a]) (vs := [.ref a]) F hr hb hd hx I1 (.cons rfl .nil) q)

/-- what a class must have to be made -/
structure Mk (K : PySem.W.Frag) (C f : Addr) : Prop where
  makes : PySem.W.makesIn K C = true
  init : PySem.W.findIn K (.ref C) "__init__" = some (some (.ref f))
  fn : PySem.W.isFn K (.ref f) = true
  kp : PySem.W.keepIn K (.ref C) = true

theorem run_make {pins : List (Addr × Obj)} {σ : St} {H : Hp} {s : Shared} {Q : VK} {us : List Value} {vs : List V} (M : Mk X.K C f) (F : FnOk X.prog X.w X.K X.mg X.base CX k f fd ps sp) (hr : Room (k + 1) X.A) (hb : Binds X.K fd ps ds) (hd : Vals dvs ds)
    (hx : Passes CX X E) (I : Inv X pins σ H s) (r : Vals vs us)
    (h : ∀ x dx, H x = none → H dx = none → dx ≠ x → sp (.ref x :: (vs ++ dvs)) (upd (upd H dx (.own x)) x (.ins C dx [])) (fun v H2 => v = .non ∧ Q (.ref x) H2) E) :
    wpAny (model X.prog X.w) X.A (call (.ref C) us) (EP X pins σ Q) X.xe s := by
  have hq := h (s.heap.objs.size + 1) s.heap.objs.size (I.hok.fresh (Nat.le_succ _)) (I.hok.fresh (Nat.le_refl _)) (Nat.ne_of_lt (Nat.lt_succ_self _))
  have I2 := Inv.made (C := C) I
  have r2 : Vals (V.ref (s.heap.objs.size + 1) :: (vs ++ dvs)) (Value.ref (s.heap.objs.size + 1) :: (us ++ ds)) := .cons rfl (r.append hd)
  have hl : (Value.ref (s.heap.objs.size + 1) :: us ++ ds).length = ps.length := by
    have e := r2.length
    rw [F.len _ _ _ _ hq] at e
    exact e.symm
  refine wpAny_call (make_map (f := f) I.kIn M.makes M.init (beq_iff_eq.mp M.fn) (codeAny_mono (F.run _ X.stack _ _ ⟨Value.ref (s.heap.objs.size + 1) :: us, []⟩ (Value.ref (s.heap.objs.size + 1) :: (us ++ ds)) _ _ E (hr.make C us [])
    (I2.env0.make C us []) (hb _ (Value.ref (s.heap.objs.size + 1) :: us) I2.kIn hl) r2 hq) fun r s' hq' => ?_))
  cases r with
  | error e => exact hx pins σ _ _ e s' I2 hq'
  | ok fl =>
    cases fl with
    | ret u =>
      obtain ⟨v, H', I3, rv, ev, q3⟩ := I2.after hq'
      subst ev
      exact ⟨rv, ⟨V.ref (s.heap.objs.size + 1), H', I3, rfl, q3⟩⟩
    | next => exact False.elim hq'
    | brk => exact False.elim hq'
    | cont => exact False.elim hq'
theorem pe_make (M : Mk X.K C f) (F : FnOk X.prog X.w X.K X.mg X.base CX k f fd ps sp) (hr : Room (k + 1) X.A) (hg : Gl X x) (hm : X.mg x = some (.ref C)) (hb : Binds X.K fd ps ds) (hd : Vals dvs ds) (hx : Passes CX X E)
    (ha : PA X (e :: es) t) (hdb : (x == ("__debug__" : Str)) = false := by decide) (he : starEach (e :: es) X.env = (false, eval e X.env) :: starEach es X.env := by rfl) (hpl : (backTo pos (starEach es X.env)).any (·.1) = false := by rfl) :
    PE X (.Call (.Name x p) (e :: es) [] pos) (tMake C sp dvs E t) := by
  intro pins s σ H Q I h
  refine wpAny_Call_Name_kw (ld_glob I hg hm ?_ hdb)
  refine PySem.W.callWith_K (h₀ := X.base) I.ok.mod.kin M.kp (thn (ha pos pins s σ H _ I h) fun us s1 ⟨vs, H1, I1, r, q⟩ => ⟨I1.kIn, ?_⟩) he hpl
  exact run_make M F hr hb hd hx I1 r q
theorem pe_make0 (M : Mk X.K C f) (F : FnOk X.prog X.w X.K X.mg X.base CX k f fd ps sp) (hr : Room (k + 1) X.A) (hg : Gl X x) (hm : X.mg x = some (.ref C)) (hb : Binds X.K fd ps ds) (hd : Vals dvs ds) (hx : Passes CX X E)
    (hdb : (x == ("__debug__" : Str)) = false := by decide) : PE X (.Call (.Name x p) [] [] pos) (tMake C sp dvs E tNil) := by
  intro pins s σ H Q I h
  refine wpAny_Call_Name_kw (ld_glob I hg hm ?_ hdb)
  exact PySem.W.callWith_K0 I.kIn M.kp (run_make (us := []) M F hr hb hd hx I .nil h)
end

/-! ### keywords -/
/-- the values of the keywords, from the left -/
def PK (X : Cx) (kws : List Keyword) (t : TA) : Prop :=
  ∀ (pos : Pos) (pins : List (Addr × Obj)) (s : Shared) (σ : St) (H : Hp) (Q : List V → Hp → Prop), Inv X pins σ H s → t σ H Q → wpAny (model X.prog X.w) X.A (evalAll ((backToKw pos (keywordEach kws X.env)).map (·.2))) (AP X pins σ Q) X.xe s
section
variable {X : Cx} {CX : CXT} {k : Nat} {f C : Addr} {fd : FuncData} {ps ks : List Str} {sp : Sp} {E : XK} {x m : Str} {p pos apos kpos : Pos} {e o : Expr} {es : List Expr} {kws : List Keyword} {te ta : TE} {t tk : TA} {nm : Option Str}
theorem pk_nil : PK X [] tNil := fun _ _ _ _ H Q I h => wpAny_evalAll_nil ⟨[], H, I, .nil, h⟩
theorem pk_cons (ha : PE X e te) (hr : PK X kws t) : PK X (⟨nm, e, kpos⟩ :: kws) (tCons te t) := by
  intro pos pins s σ H Q I h
  show wpAny _ _ (evalAll ((do let v ← eval e X.env; standAt pos; pure v) :: (backToKw pos (keywordEach kws X.env)).map (·.2))) _ _ s
  refine wpAny_evalAll_cons (wpAny_bind (thn (ha pins s σ H _ I h) fun u s1 ⟨x, H1, I1, r1, q1⟩ => wpAny_bind (wpAny_standAt (wpAny_pure ?_))))
  exact thn (hr pos pins s1 σ H1 _ I1 q1) fun us s2 ⟨xs, H2, I2, r2, q2⟩ => ⟨x :: xs, H2, I2, .cons r1 r2, q2⟩

/-- how a call with keywords binds: g puts the positional values us and the keywords' values ws (names ks) in the parameters' order, defaults among them -/
structure KBinds (K : PySem.W.Frag) (fd : FuncData) (ps ks : List Str) (g : List Value → List Value → List Value) (gV : List V → List V → List V) : Prop where
  to : ∀ (s : Shared) (us ws : List Value), K.In s.heap → (g us ws).length = ps.length → BindsTo s fd ⟨us, ks.zip ws⟩ (ps.zip (g us ws))
  rel : ∀ {vs : List V} {us : List Value} {zs : List V} {ws : List Value}, Vals vs us → Vals zs ws → Vals (gV vs zs) (g us ws)
def tCallK (sp : Sp) (gV : List V → List V → List V) (E : XK) (t tk : TA) : TE := fun σ H Q => t σ H fun vs H1 => tk σ H1 fun zs H2 => sp (gV vs zs) H2 Q E
variable {g : List Value → List Value → List Value} {gV : List V → List V → List V}
theorem run_fnk {pins : List (Addr × Obj)} {σ : St} {H : Hp} {s : Shared} {Q : VK} {us ws : List Value} {vs zs : List V} (F : FnOk X.prog X.w X.K X.mg X.base CX k f fd ps sp) (hr : Room k X.A) (hb : KBinds X.K fd ps ks g gV) (hx : Passes CX X E)
    (I : Inv X pins σ H s) (r : Vals vs us) (rz : Vals zs ws) (h : sp (gV vs zs) H Q E) : wpAny (model X.prog X.w) X.A (call (.ref f) us (ks.zip ws)) (EP X pins σ Q) X.xe s := by
  have r2 := hb.rel r rz
  have hl : (g us ws).length = ps.length := by rw [← r2.length]; exact F.len _ _ _ _ h
  refine wpAny_call (codeAny_mono (F.run X.A X.stack s H ⟨us, ks.zip ws⟩ (g us ws) (gV vs zs) Q E hr I.env0 (hb.to s us ws I.kIn hl) r2 h) fun r s' hq => ?_)
  cases r with
  | error e => exact hx pins σ H s e s' I hq
  | ok fl =>
    cases fl with
    | ret u => exact I.after hq
    | next => exact False.elim hq
    | brk => exact False.elim hq
    | cont => exact False.elim hq
/-- f(e, .., k = v, ..) -/
theorem pe_callK (F : FnOk X.prog X.w X.K X.mg X.base CX k f fd ps sp) (hr : Room k X.A) (hg : Gl X x) (hm : X.mg x = some (.ref f)) (hk : PySem.W.keepIn X.K (.ref f) = true) (hb : KBinds X.K fd ps ks g gV) (hx : Passes CX X E)
    (ha : PA X (e :: es) t) (hkw : PK X kws tk) (hall : (backToKw pos (keywordEach kws X.env)).all (·.1.isSome) = true := by rfl) (hks : (backToKw pos (keywordEach kws X.env)).filterMap (·.1) = ks := by rfl)
    (hdb : (x == ("__debug__" : Str)) = false := by decide) (he : starEach (e :: es) X.env = (false, eval e X.env) :: starEach es X.env := by rfl)
    (hpl : ((backTo pos (starEach (e :: es) X.env)).any (·.1) || (backToKw pos (keywordEach kws X.env)).any (·.1.isNone)) = false := by rfl) :
    PE X (.Call (.Name x p) (e :: es) kws pos) (tCallK sp gV E t tk) := by
  intro pins s σ H Q I h
  refine wpAny_Call_Name_kw (ld_glob I hg hm ?_ hdb)
  refine PySem.W.callWith_KW (h₀ := X.base) I.ok.mod.kin hk hall (thn (ha pos pins s σ H _ I h) fun us s1 ⟨vs, H1, I1, r, q⟩ => ?_) hpl he
  refine thn (hkw pos pins s1 σ H1 _ I1 q) fun ws s2 ⟨zs, H2, I2, rz, q2⟩ => ⟨I2.kIn, ?_⟩
  rw [hks]
  exact run_fnk F hr hb hx I2 r rz q2
end

/-! ### a def's body keeps its promise -/
/-- names: the parameters first -/
structure FnScope (N P : List Str) (sc : Scope) : Prop where
  kind : sc.kind = .function
  co : sc.isCoroutine = false
  gen : sc.isGenerator = false
  nd : N.Nodup
  pre : N.take P.length = P
  par : ∀ x ∈ P, sc.names.lookup x = some .local ∨ sc.names.lookup x = some .cell
  nofree : ∀ y ∈ sc.names, y.2 ≠ .free

theorem bindL_out {kindOf : Str → Option NameKind} {x : Str} : ∀ {binds : List (Str × Value)} {m : Str → Option Value}, (∀ v, (x, v) ∉ binds) → bindL kindOf binds m x = m x
  | [], _, _ => rfl
  | (n, v) :: r, m, h => by
    unfold bindL
    rw [bindL_out fun w hw => h w (List.mem_cons_of_mem _ hw)]
    split
    · have : x ≠ n := by rintro rfl; exact h v List.mem_cons_self
      simp [this]
    · rfl
theorem bindC_out {kindOf : Str → Option NameKind} {x : Str} : ∀ {binds : List (Str × Value)} {m : Str → Option Value}, (∀ v, (x, v) ∉ binds) → bindC kindOf binds m x = m x
  | [], _, _ => rfl
  | (n, v) :: r, m, h => by
    unfold bindC
    rw [bindC_out fun w hw => h w (List.mem_cons_of_mem _ hw)]
    split
    · rfl
    · have : x ≠ n := by rintro rfl; exact h v List.mem_cons_self
      simp [this]
theorem bindL_get {kindOf : Str → Option NameKind} {x : Str} {v : Value} : ∀ {P : List Str} {vs : List Value} {i : Nat} {m : Str → Option Value}, P.Nodup → P[i]? = some x → vs[i]? = some v → kindOf x = some .local →
    bindL kindOf (P.zip vs) m x = some v
  | [], _, _, _, _, h, _, _ => by simp at h
  | _ :: _, [], _, _, _, _, h, _ => by simp at h
  | p :: P, w :: vs, 0, m, nd, h1, h2, hk => by
    simp at h1 h2; subst h1; subst h2
    show bindL kindOf ((p, w) :: P.zip vs) m p = _
    unfold bindL
    rw [bindL_out fun v hv => (List.nodup_cons.mp nd).1 (List.of_mem_zip hv).1, if_pos hk]
    simp
  | p :: P, w :: vs, i + 1, m, nd, h1, h2, hk => by
    show bindL kindOf ((p, w) :: P.zip vs) m x = _
    unfold bindL
    exact bindL_get (i := i) (List.nodup_cons.mp nd).2 (by simpa using h1) (by simpa using h2) hk
theorem bindC_get {kindOf : Str → Option NameKind} {x : Str} {v : Value} : ∀ {P : List Str} {vs : List Value} {i : Nat} {m : Str → Option Value}, P.Nodup → P[i]? = some x → vs[i]? = some v → kindOf x ≠ some .local →
    bindC kindOf (P.zip vs) m x = some v
  | [], _, _, _, _, h, _, _ => by simp at h
  | _ :: _, [], _, _, _, _, h, _ => by simp at h
  | p :: P, w :: vs, 0, m, nd, h1, h2, hk => by
    simp at h1 h2; subst h1; subst h2
    show bindC kindOf ((p, w) :: P.zip vs) m p = _
    unfold bindC
    rw [bindC_out fun v hv => (List.nodup_cons.mp nd).1 (List.of_mem_zip hv).1, if_neg hk]
    simp
  | p :: P, w :: vs, i + 1, m, nd, h1, h2, hk => by
    show bindC kindOf ((p, w) :: P.zip vs) m x = _
    unfold bindC
    exact bindC_get (i := i) (List.nodup_cons.mp nd).2 (by simpa using h1) (by simpa using h2) hk

/-- the names' values at the entry -/
def start (N : List Str) (vs : List V) : St := vs.map some ++ List.replicate (N.length - vs.length) none

/-- the context of a def's body, at its entry; an exception leaves the frame, then lies as CX says -/
def cxOf (CX : CXT) (P : Program) (w : World) (K : PySem.W.Frag) (mg : Str → Option Value) (base : Heap) (N : List Str) (qual : Str) (scope : Scope) (f : Addr) (cd : Value) (A : Around) (outer : List Env) (s : Shared) (H : Hp) (E : XK) : Cx where
  prog := P
  w := w
  K := K
  mg := mg
  base := base
  A := A.deeper (envOfC qual scope s.heap.objs.size f cd)
  N := N
  s₀ := s
  H₀ := H
  env := envOfC qual scope s.heap.objs.size f cd
  outer := outer
  stack := envOfC qual scope s.heap.objs.size f cd :: outer
  ex := []
  calm := true
  fn := fun _ => true
  pn := []
  xe := fun e s' => wpAny (model P w) (A.deeper (envOfC qual scope s.heap.objs.size f cd)) (leaving (envOfC qual scope s.heap.objs.size f cd) e) (fun _ s'' => CX outer H s E e s'') (fun e' s'' => CX outer H s E e' s'') s'

theorem cell_has {sc : Scope} {n : Nat} {x : Str} (h : sc.names.lookup x = some .cell) : ∃ c, (cellsFrom n sc.names []).lookup x = some c := by
  have q := PySem.W.cellsFrom_some sc.names n [] (.inl h)
  exact Option.isSome_iff_exists.mp q

theorem inv_start {CX : CXT} {P : Program} {w : World} {K : PySem.W.Frag} {mg : Str → Option Value} {base : Heap} {N ps : List Str} {qual : Str} {scope : Scope} {f : Addr} {cd : Value} {A : Around} {outer : List Env} {s s1 : Shared} {H : Hp} {E : XK} {us : List Value} {vs : List V}
    (S : FnScope N ps scope) (hd : A.handled = none) (e0 : Env0 P w K mg base A outer s H) (hl : vs.length = ps.length) (r : Vals vs us)
    (x : InCallC s s.heap.objs.size (bindL (envOfC qual scope s.heap.objs.size f cd).kindOf (ps.zip us) fun _ => none) (cellsFrom (s.heap.objs.size + 1) scope.names []) (bindC (envOfC qual scope s.heap.objs.size f cd).kindOf (ps.zip us) fun _ => none) s1) :
    Inv (cxOf CX P w K mg base N qual scope f cd A outer s H E) [] (start N vs) H s1 := by
  have hpl : ps.length ≤ N.length := by have := congrArg List.length S.pre; rw [List.length_take] at this; omega
  obtain ⟨h1, tk, rfl, hk⟩ := x.done
  have noA : ∀ b : Addr, b ∉ (cxOf CX P w K mg base N qual scope f cd A outer s H E).ex := fun b z => absurd (show b ∈ ([] : List Addr) from z) (by simp)
  refine ⟨⟨e0.mod, S.kind, rfl, rfl, Nat.le_refl _, fun y z c h1 h2 => ?_, fun y hy => ?_, fun y c _ h => ?_, fun _ => hd, Around.frames_deeper e0.frames, .inr ⟨rfl, rfl⟩, fun b z => absurd z (noA b), e0.bs, e0.bsz, fun b _ _ => noA b, fun b z => absurd z (noA b), e0.funs, e0.frf⟩,
    rfl, e0.bare, Un.kept hk, ⟨_, x.toInCall.ns, fun i y v h1 h2 h3 => ?_⟩, fun y c h => ⟨_, x.cell y c h⟩, e0.hok.fresh (Nat.le_refl _), fun y c h => ?_, fun p hp => absurd (show p ∈ ([] : List (Addr × Obj)) from hp) (by simp), e0.hok.kept hk, ?_⟩
  · exact name_of_addr x.apart (PySem.mem_of_lookup h1) (PySem.mem_of_lookup h2)
  · have hy : scope.names.lookup y = some .cell ∨ scope.names.lookup y = some .free := hy
    rcases hy with hy | hy
    · exact cell_has hy
    · exact absurd rfl (S.nofree _ (PySem.mem_of_lookup hy))
  · exact Nat.le_of_lt (x.above y c (PySem.mem_of_lookup h))
  · have hi : i < vs.length := by
      unfold start at h2
      by_cases hi : i < vs.length
      · exact hi
      · rw [List.getElem?_append_right (by simpa using hi)] at h2
        rw [List.getElem?_replicate] at h2
        split at h2 <;> cases h2
    have ha : vs[i]? = some v := by
      unfold start at h2
      rw [List.getElem?_append_left (by simpa using hi), List.getElem?_map] at h2
      cases e : vs[i]? with
      | none => rw [e] at h2; cases h2
      | some a => rw [e] at h2; cases h2; rfl
    obtain ⟨u, hu, rv⟩ := r.get ha
    have hp : ps[i]? = some y := by
      rw [← S.pre, List.getElem?_take_of_lt (by omega)]; exact h1
    have ndP : ps.Nodup := by rw [← S.pre]; exact S.nd.sublist (List.take_sublist _ _)
    refine ⟨u, rv, ?_⟩
    rcases S.par y (List.mem_of_getElem? hp) with k | k
    · exact .inl ⟨k, bindL_get ndP hp hu k⟩
    · obtain ⟨c, e⟩ := cell_has (n := s.heap.objs.size + 1) k
      refine .inr ⟨.inl k, c, e, ?_⟩
      have q := x.cell y c e
      rw [bindC_get ndP hp hu (by show scope.names.lookup y ≠ _; rw [k]; decide)] at q
      exact q
  · exact e0.hok.fresh (Nat.le_of_lt (x.above y c (PySem.mem_of_lookup h)))
  · unfold start
    show _ = N.length
    rw [List.length_append, List.length_map, List.length_replicate]
    omega

/-- THE RULE: a def (or a method) of the text, by its body. The body's reading t is chosen for each entry; it is run at the parameters' values -/
theorem fn_of {CX : CXT} {P : Program} {w : World} {K : PySem.W.Frag} {mg : Str → Option Value} {base : Heap} {k : Nat} {f : Addr} {name qual : Str} {params : Arguments} {body : List Stmt} {scope : Scope} {dV kV doc pm cdv ct oc : Value} {an od : Option Addr}
    {osl : Array (Option Value)} {N ps : List Str} {sp : Sp} (lk : K.lookup f = some ⟨oc, od, .func (PySem.W.fnOf name qual params body scope dV kV doc pm an cdv ct), osl⟩) (hcd : PySem.W.codeIn K cdv qual = true) (S : FnScope N ps scope)
    (len : ∀ vs H Q E, sp vs H Q E → vs.length = ps.length)
    (hbody : ∀ (A : Around) (outer : List Env) (s : Shared) (H : Hp) (vs : List V) (Q : VK) (E : XK), Room k (A.deeper (envOfC qual scope s.heap.objs.size f cdv)) → sp vs H Q E →
      ∃ t, PSs (cxOf CX P w K mg base N qual scope f cdv A outer s H E) body t ∧ t { nx := fun _ H' => Q .non H', rt := Q } (start N vs) H) :
    FnOk P w K mg base CX (k + 1) f (PySem.W.fnOf name qual params body scope dV kV doc pm an cdv ct) ps sp := by
  refine ⟨len, fun A outer s H args us vs Q E hr e0 hb r hsp => ?_⟩
  have hl := len _ _ _ _ hsp
  have KX : K.In s.heap := e0.mod.kin.keeps fun b o e => (e0.bs b o e).1
  have lim : s.heap.NoLimit := e0.mod.nolimit.keeps fun b o e => (e0.bs b o e).1
  have hkind : ∀ y ∈ ps.zip us, scope.names.lookup y.1 = some .local ∨ (scope.names.lookup y.1 = some .cell ∧ ((cellsFrom (s.heap.objs.size + 1) scope.names []).lookup y.1).isSome = true) := fun ⟨n, v⟩ hy => by
    rcases S.par n (List.of_mem_zip hy).1 with q | q
    · exact .inl q
    · exact .inr ⟨q, PySem.W.cellsFrom_some _ _ _ (.inl q)⟩
  refine codeAny_call_function hr.depth (KX _ _ lk) rfl S.co S.gen rfl (PySem.W.codeRec_of KX hcd) (hb _ _ _ _ ?_)
  refine wpAny_newFunctionEnv_cells S.kind hkind fun env he s1 x => ?_
  subst he
  refine ⟨lim.keeps x.toInCall.keep, codeAny_func ?_⟩
  obtain ⟨t, ht, hq⟩ := hbody A outer s H vs Q E (hr.deeper _) hsp
  have I : Inv (cxOf CX P w K mg base N qual scope f cdv A outer s H E) [] (start N vs) H s1 := inv_start S hr.hd e0 hl r x
  refine wpAny_mono (ht [] s1 (start N vs) H _ I hq) (fun fl s' hs => ?_) fun e s' hs => hs
  have fin : ∀ {σ' : St} {H' : Hp} {v : V} {u : Value}, Inv (cxOf CX P w K mg base N qual scope f cdv A outer s H E) [] σ' H' s' → RelV v u → Q v H' → CE outer P w H s Q u s' :=
    fun {σ' H' v u} J rv q => ⟨v, H', J.os, J.bare, J.base, J.hok, rv, q⟩
  cases fl with
  | ret u =>
    obtain ⟨v, σ', H', J, rv, q⟩ := hs
    exact fin J rv q
  | next =>
    obtain ⟨σ', H', J, q⟩ := hs
    exact fin (v := V.non) (u := Value.none) J rfl q
  | brk =>
    obtain ⟨_, _, _, q⟩ := hs
    exact False.elim q
  | cont =>
    obtain ⟨_, _, _, q⟩ := hs
    exact False.elim q
end L2

namespace L2
open PySem PySem.Spec PyProof.Rows
section
variable {X : Cx} {x : Str} {p pos : Pos} {e : Expr} {es : List Expr} {t : TA} {id T : String} {r : List V → Hp → VK → Prop}

def tCB (r : List V → Hp → VK → Prop) (t : TA) : TE := fun σ H Q => t σ H fun vs H1 => r vs H1 Q
/-- f(e, ..), f a built-in function -/
theorem pe_callB (hc : CallR X (.builtin id) r) (hg : Gl X x) (hm : X.mg x = none) (hv : bootBuiltins x = some (.builtin id)) (ha : PA X (e :: es) t) (hn : x ≠ "__name__" := by decide) (hdb : (x == ("__debug__" : Str)) = false := by decide)
    (he : starEach (e :: es) X.env = (false, eval e X.env) :: starEach es X.env := by rfl) (hpl : (backTo pos (starEach es X.env)).any (·.1) = false := by rfl) : PE X (.Call (.Name x p) (e :: es) [] pos) (tCB r t) := by
  intro pins s σ H Q I h
  refine wpAny_Call_Name_kw (ld_blt I hg hm hv ?_ hn hdb)
  exact PyProof.Rows.callWith_builtin1 (thn (ha pos pins s σ H _ I h) fun us s1 ⟨vs, H1, I1, r1, q1⟩ => hc pins s1 σ H1 vs us Q I1 r1 q1) he hpl
/-- T(e, ..), T a built-in type -/
theorem pe_callTy (hc : CallR X (.type T) r) (hg : Gl X x) (hm : X.mg x = none) (hv : bootBuiltins x = some (.type T)) (ha : PA X (e :: es) t) (hn : x ≠ "__name__" := by decide) (hdb : (x == ("__debug__" : Str)) = false := by decide)
    (he : starEach (e :: es) X.env = (false, eval e X.env) :: starEach es X.env := by rfl) (hpl : (backTo pos (starEach es X.env)).any (·.1) = false := by rfl) : PE X (.Call (.Name x p) (e :: es) [] pos) (tCB r t) := by
  intro pins s σ H Q I h
  refine wpAny_Call_Name_kw (ld_blt I hg hm hv ?_ hn hdb)
  exact PyProof.Rows.callWith_type1 (thn (ha pos pins s σ H _ I h) fun us s1 ⟨vs, H1, I1, r1, q1⟩ => hc pins s1 σ H1 vs us Q I1 r1 q1) he hpl
/-- T() -/
theorem pe_callTy0 (hc : CallR X (.type T) r) (hg : Gl X x) (hm : X.mg x = none) (hv : bootBuiltins x = some (.type T)) (hn : x ≠ "__name__" := by decide) (hdb : (x == ("__debug__" : Str)) = false := by decide) :
    PE X (.Call (.Name x p) [] [] pos) (tCB r tNil) := by
  intro pins s σ H Q I h
  refine wpAny_Call_Name_kw (ld_blt I hg hm hv ?_ hn hdb)
  exact PyProof.Rows.callWith_type0 (hc pins s σ H [] [] Q I .nil h)
end
end L2

namespace HT
open PySem PyProof.Rows

/-- t < u of tuples of ints -/
def lexLt : List Int → List Int → Bool
  | [], [] => false
  | [], _ :: _ => true
  | _ :: _, [] => false
  | x :: xs, y :: ys => if x = y then lexLt xs ys else decide (x < y)
theorem lexLt_cons (x y : Int) (xs ys : List Int) : lexLt (x :: xs) (y :: ys) = if x = y then lexLt xs ys else decide (x < y) := rfl
theorem lexLt_nil_nil : lexLt [] [] = false := rfl
theorem lexLt_nil_cons (y : Int) (ys : List Int) : lexLt [] (y :: ys) = true := rfl
theorem lexLt_cons_nil (x : Int) (xs : List Int) : lexLt (x :: xs) [] = false := rfl

theorem eqAt_int (A : Around) (s : Shared) (a : Int) (t : Tok) (c : Int) (u : Tok) : ∃ e, SeqAt.EqAt A s (.int a t) (.int c u) e ∧ (e = true ↔ a = c) :=
  ⟨(a == c), SeqAt.EqAt.int_int a t c u, by simp⟩
theorem rcLt_int (A : Around) (s : Shared) (a : Int) (t : Tok) (c : Int) (u : Tok) (prog : Program) (w : World) (E : Value → Shared → Prop) (Q : Value → Shared → Prop) (h : Q (.bool (decide (a < c))) s) :
    wpAny (model prog w) A (richCompare .Lt (.int a t) (.int c u)) Q E s :=
  (PyProof.Rows.lt_int h : wpAny (model prog w) A (compareOp .Lt (.int a t) (.int c u)) Q E s)

section
open PySem.SeqAt
open PySem.AutoSeq1 (wpAny_loadPart')
open PySem.MeetsSeq PySem.MeetsSeq2 PySem.MeetsSeq3

theorem tuple_lt_ints (l b : Addr) (items items2 : Array Value) (n n2 : Nat) (dd dd2 : Option Addr) (sl sl2 : Array (Option Value)) (ns ms : List Int) (hi : IntsAre items.toList ns) (hj : IntsAre items2.toList ms) :
    Meets (Builtin.«tuple.__lt__» ⟨[.ref l, .ref b], []⟩)
      (fun _ R s => s.heap.get? l = some { cls := .type "tuple", dict := dd, data := .seq items n, slots := sl } ∧ s.heap.get? b = some { cls := .type "tuple", dict := dd2, data := .seq items2 n2, slots := sl2 } ∧
        R (.ok (.ret (.bool (lexLt ns ms)))) s) :=
  .of_wp fun prog w A R s h => by
    obtain ⟨hp, g, d, tk, os⟩ := s; obtain ⟨hl, hb, h⟩ := h
    have f2 := AutoSeq1.sub_tuple_tuple
    have z1 : items.size = ns.length := by rw [← hi.length]; simp
    have z2 : items2.size = ms.length := by rw [← hj.length]; simp
    wp_walk using wpAny_loadPart' hl, wpAny_loadPart' hb, wpAny_forIn_list _ (fun rest b s' => b.1 = none ∧ s' = ⟨hp, g, d, tk, os⟩ ∧ ∃ (vs ws : List Value) (ns' ms' : List Int), rest = vs.zip ws ∧
      IntsAre vs ns' ∧ IntsAre ws ms' ∧ ns'.length + items2.size = ms'.length + items.size ∧ R (.ok (.ret (.bool (lexLt ns' ms')))) ⟨hp, g, d, tk, os⟩) _
    case turn =>
      rintro ⟨y, x⟩ rest b s' ⟨hb', rfl, vs, ws, ns', ms', hz, hvi, hwi, hlen, hR⟩
      cases hvi with
      | nil => rw [List.zip_nil_left] at hz; cases hz
      | cons a t hvi' =>
        cases hwi with
        | nil => rw [List.zip_nil_right] at hz; cases hz
        | cons c u hwi' =>
          rw [List.zip_cons_cons] at hz
          injection hz with hyx hrest
          injection hyx with hy hx
          subst hy hx
          rw [lexLt_cons] at hR
          simp only [List.length_cons] at hlen
          obtain ⟨e, he, hiff⟩ := eqAt_int A.in1 ⟨hp, g, d, tk, os⟩ a t c u
          refine wpAny_bind (he prog w _ _ ?_)
          cases e with
          | true =>
            rw [if_pos (hiff.mp rfl)] at hR
            wp_walk
            exact ⟨rfl, rfl, _, _, _, _, hrest, hvi', hwi', by omega, hR⟩
          | false =>
            rw [if_neg (fun q => absurd (hiff.mpr q) Bool.false_ne_true)] at hR
            have hri := rcLt_int A.in1 ⟨hp, g, d, tk, os⟩ a t c u prog w
            wp_walk using hri
            exact ⟨_, rfl, by simpa using hR⟩
    case fin =>
      rintro ⟨b1, b2⟩ s' ⟨hb', rfl, vs, ws, ns', ms', hz, hvi, hwi, hlen, hR⟩
      simp only at hb'
      subst hb'
      have hv : lexLt ns' ms' = decide (items.size < items2.size) := by
        cases hvi with
        | nil =>
          cases hwi with
          | nil =>
            simp only [List.length_nil] at hlen
            rw [lexLt_nil_nil]
            exact (decide_eq_false (by omega)).symm
          | cons c u hw =>
            simp only [List.length_nil, List.length_cons] at hlen
            rw [lexLt_nil_cons]
            exact (decide_eq_true (by omega)).symm
        | cons a t hv =>
          cases hwi with
          | nil =>
            simp only [List.length_nil, List.length_cons] at hlen
            rw [lexLt_cons_nil]
            exact (decide_eq_false (by omega)).symm
          | cons c u hw =>
            rw [List.zip_cons_cons] at hz
            cases hz
      rw [hv] at hR
      wp_walk
      exact ⟨_, rfl, by simpa [Builtin.Tuple.tupleCompareSizes] using hR⟩
    case h =>
      exact ⟨rfl, rfl, items.toList, items2.toList, ns, ms, rfl, hi, hj, by omega, h⟩
end

section
variable {prog : Program} {w : World} {A : Around} {E : Value → Shared → Prop} {s : Shared}

theorem lt_tupInts {l b : Addr} {items items2 : Array Value} {ns ms : List Int} {Q : Value → Shared → Prop} (hl : IsTup s.heap l items) (hb : IsTup s.heap b items2) (hi : IntsAre items.toList ns) (hj : IntsAre items2.toList ms)
    (hu : A.units < cLine) (h : Q (.bool (lexLt ns ms)) s) : wpAny (model prog w) A (compareOp .Lt (.ref l) (.ref b)) Q E s := by
  obtain ⟨⟨cls, dd, data, sl⟩, ho, hc, n, hd⟩ := id hl
  obtain ⟨⟨cls2, dd2, data2, sl2⟩, ho2, hc2, n2, hd2⟩ := id hb
  simp only at hc hd hc2 hd2
  subst hc hd hc2 hd2
  exact richCompare_meets_room (op := .Lt) ⟨_, ho, rfl⟩ ⟨_, ho2, rfl⟩ PySem.F.slot_tuple_lt PySem.F.entry_tuple_lt (PySem.F.args_tuple_lt_2 _ _) (tuple_lt_ints l b items items2 n n2 dd dd2 sl sl2 ns ms hi hj)
    ⟨ho, ho2, show Value.bool (lexLt ns ms) ≠ Value.notImplemented ∧ Q (.bool (lexLt ns ms)) s from ⟨(fun x => nomatch x), h⟩⟩ hu

/-- t + u, t not empty -/
theorem cat_tup {t b : Addr} {vs ws : List Value} {Q : Value → Shared → Prop} (ht : IsTup s.heap t vs.toArray) (hb : IsTup s.heap b ws.toArray) (hv : vs ≠ [])
    (h1 : ws = [] → Q (.ref t) s) (h2 : ws ≠ [] → Q (.ref s.heap.objs.size) { s with heap := s.heap.push { cls := .type "tuple", data := .seq (vs ++ ws).toArray } })
    (hsz : vs.length + ws.length ≤ sizeLine) : wpAny (model prog w) A (binaryOp .Add (.ref t) (.ref b)) Q E s := by
  obtain ⟨⟨cls, dd, data, sl⟩, ho, hc, n, hd⟩ := id ht
  obtain ⟨⟨cls2, dd2, data2, sl2⟩, ho2, hc2, n2, hd2⟩ := id hb
  simp only at hc hd hc2 hd2
  subst hc hd hc2 hd2
  have e : vs.toArray ++ ws.toArray = (vs ++ ws).toArray := by simp
  by_cases hw : ws = []
  · exact concat_meets ⟨_, ho, rfl⟩ ⟨_, ho2, rfl⟩ noFill_tuple_add seq_tuple_add PySem.F.slot_tuple_add PySem.F.entry_tuple_add (PySem.F.args_tuple_add_2 _ _)
      (tuple_addW1 t b vs.toArray ws.toArray n n2 dd dd2 sl sl2 (by simpa using hv) (by simp [hw])) ⟨ho, ho2, h1 hw⟩
  · refine concat_meets ⟨_, ho, rfl⟩ ⟨_, ho2, rfl⟩ noFill_tuple_add seq_tuple_add PySem.F.slot_tuple_add PySem.F.entry_tuple_add (PySem.F.args_tuple_add_2 _ _)
      (tuple_addW2 t b vs.toArray ws.toArray n n2 dd dd2 sl sl2 (by simpa using hv) (by simpa using hw) (by rw [List.size_toArray, List.size_toArray]; exact hsz)) ⟨ho, ho2, ?_⟩
    rw [e]
    exact h2 hw

/-! ### t[a:b], not the whole -/
/-- a slice's bound as a place among n (d where it is left out) -/
def sIx (n d : Nat) : Option Int → Nat
  | none => d
  | some v => if v < 0 then (v + (n : Int)).toNat else min v.toNat n
theorem sIx_none (n d : Nat) : sIx n d none = d := rfl
theorem sIx_nat (n d k : Nat) : sIx n d (some (k : Int)) = min k n := by
  show (if (k : Int) < 0 then ((k : Int) + (n : Int)).toNat else min (k : Int).toNat n) = min k n
  rw [if_neg (by omega), Int.toNat_natCast]
theorem sIx_le (n d : Nat) (hd : d ≤ n) (o : Option Int) : sIx n d o ≤ n := by
  cases o with
  | none => exact hd
  | some v =>
    show (if v < 0 then (v + (n : Int)).toNat else min v.toNat n) ≤ n
    by_cases hv : v < 0
    · rw [if_pos hv]; omega
    · rw [if_neg hv]; exact Nat.min_le_right _ _
theorem clip_eq (v : Int) (n d : Nat) : (if v < 0 then max (v + (n : Int)) 0 else min v (n : Int)) = ((sIx n d (some v) : Nat) : Int) := by
  show (if v < 0 then max (v + (n : Int)) 0 else min v (n : Int)) = (((if v < 0 then (v + (n : Int)).toNat else min v.toNat n) : Nat) : Int)
  by_cases hv : v < 0
  · simp only [if_pos hv]; omega
  · simp only [if_neg hv]; omega
theorem adjust_gen (lo hi : Option Int) (n : Nat) : Builtin.Slice.sliceAdjust lo hi 1 (n : Int) = (((sIx n 0 lo : Nat) : Int), ((sIx n n hi : Nat) : Int)) := by
  have h1 : ¬ ((1 : Int) < 0) := by omega
  unfold Builtin.Slice.sliceAdjust
  simp only [h1, if_false]
  refine Prod.ext ?_ ?_
  · cases lo with
    | none => rfl
    | some v => exact clip_eq v n 0
  · cases hi with
    | none => rfl
    | some v => exact clip_eq v n n
theorem places_gen (i j : Nat) : Builtin.Slice.slicePlaces (i : Int) (j : Int) 1 = j - i := by
  unfold Builtin.Slice.slicePlaces
  have h1 : (1 : Int) > 0 := by omega
  simp only [h1, if_true, Int.ediv_one]
  split <;> omega
theorem slicePart_ {v : Value} {o : Option Int} {Q : Option Int → Shared → Prop} (p : IsPart v o) (h : Q o s) : wpAny (model prog w) A (Builtin.Slice.slicePartIndex v) Q E s := by
  cases p with
  | none => exact slicePart_none h
  | int i t => exact slicePart_int h
theorem sliceApplied_gen {sl : Addr} {vl vu : Value} {lo hi : Option Int} {n : Nat} {Q : Int × Int × Nat → Shared → Prop} (hs : s.heap.IsSliceOf sl vl vu .none) (pl : IsPart vl lo) (pu : IsPart vu hi)
    (h : Q (((sIx n 0 lo : Nat) : Int), 1, sIx n n hi - sIx n 0 lo) s) : wpAny (model prog w) A (Builtin.Slice.sliceApplied (.ref sl) (pure (n : Int))) Q E s := by
  obtain ⟨os, hos, hcs, hds⟩ := id hs
  unfold Builtin.Slice.sliceApplied Builtin.Slice.sliceFields
  refine wpAny_bind (wpAny_bind (wpAny_field hos hds (x := vl) rfl (wpAny_bind (wpAny_field hos hds (x := vu) rfl (wpAny_bind (wpAny_field hos hds (x := .none) rfl (wpAny_pure ?_)))))))
  refine wpAny_bind (slicePart_none ?_)
  show wpAny _ _ (if ((1 : Int) == 0) = true then _ else _) _ _ s
  rw [if_neg (by decide)]
  refine wpAny_bind (slicePart_ pl (wpAny_bind (slicePart_ pu (wpAny_bind (wpAny_pure ?_)))))
  show wpAny _ _ (match Builtin.Slice.sliceAdjust lo hi 1 (n : Int) with | (lo, hi) => pure (lo, (1 : Int), Builtin.Slice.slicePlaces lo hi 1)) _ _ s
  rw [adjust_gen lo hi n]
  show wpAny _ _ (pure (((sIx n 0 lo : Nat) : Int), (1 : Int), Builtin.Slice.slicePlaces ((sIx n 0 lo : Nat) : Int) ((sIx n n hi : Nat) : Int) 1)) _ _ s
  rw [places_gen]
  exact wpAny_pure h
theorem pick_gen (xs : Array Value) (i k : Nat) : ((List.range k).filterMap fun (m : Nat) => xs[((i : Int) + (m : Int) * 1).toNat]?).toArray = ((xs.toList.drop i).take k).toArray := by
  have e : (fun (m : Nat) => xs[((i : Int) + (m : Int) * 1).toNat]?) = fun m => xs[i + m]? := by
    funext m
    have : ((i : Int) + (m : Int) * 1).toNat = i + m := by omega
    rw [this]
  rw [e]
  have := pick_run xs i k
  rw [List.filterMap_map] at this
  have e2 : ((fun x => xs[x]?) ∘ fun x => i + x) = fun m => xs[i + m]? := rfl
  rw [e2] at this
  rw [this]

theorem getItem_tuple_cut {t sl : Addr} {items : Array Value} {vl vu : Value} {lo hi : Option Int} {Q : Value → Shared → Prop} (ht : IsTup s.heap t items) (hs : s.heap.IsSliceOf sl vl vu .none) (pl : IsPart vl lo) (pu : IsPart vu hi)
    (hw : ¬ (sIx items.size 0 lo = 0 ∧ sIx items.size items.size hi = items.size))
    (h : Q (.ref s.heap.objs.size) { s with heap := s.heap.push { cls := .type "tuple", data := .seq ((items.toList.drop (sIx items.size 0 lo)).take (sIx items.size items.size hi - sIx items.size 0 lo)).toArray } })
    (hsz : items.size ≤ sizeLine) : wpAny (model prog w) A (getItem (.ref t) (.ref sl)) Q E s := by
  have htake : sizeOk (.seq ((items.toList.drop (sIx items.size 0 lo)).take (sIx items.size items.size hi - sIx items.size 0 lo)).toArray) := by
    show ((items.toList.drop (sIx items.size 0 lo)).take (sIx items.size items.size hi - sIx items.size 0 lo)).toArray.size ≤ sizeLine
    rw [List.size_toArray, List.length_take, List.length_drop, Array.length_toList]
    omega
  have hj : sIx items.size items.size hi ≤ items.size := sIx_le _ _ (Nat.le_refl _) hi
  obtain ⟨os, hos, hcs, hds⟩ := id hs
  have hTs : s.TypeIs (.ref sl) "slice" := ⟨os, hos, hcs⟩
  unfold getItem
  try with_reducible refine wpAny_holding ?_
  first | refine wpAny_bind (wpAny_pure ?_) | skip
  refine wpAny_bind (wpAny_sequenceKey ht.typeIs (by decide) ?_)
  refine wpAny_bind (wpAny_callSpecial?_slot (name := Str.ofString "__getitem__") ht.typeIs PyProof.Rows.slot_tuple_getitem
    (wpAny_call_entry PyProof.Rows.slot_tuple_getitem ht.typeIs entry_tuple_getitem ?_ (args_tuple_getitem _ _)))
  show wpAny _ _ (Builtin.Tuple.tupleItemsOf (.ref t) >>= _) _ _ s
  refine wpAny_bind (tupleItemsOf_ ht ?_)
  refine wpAny_bind (wpAny_typeOf hTs ?_)
  rw [if_pos (by decide)]
  refine wpAny_bind (sliceApplied_gen hs pl pu ?_)
  have hno : ¬ ((((sIx items.size 0 lo : Nat) : Int) == 0 && (1 : Int) == 1 && (sIx items.size items.size hi - sIx items.size 0 lo) == items.size) = true) := by
    intro q
    rw [Bool.and_eq_true, Bool.and_eq_true] at q
    have q1 : ((sIx items.size 0 lo : Nat) : Int) = 0 := eq_of_beq q.1.1
    have q2 : sIx items.size items.size hi - sIx items.size 0 lo = items.size := eq_of_beq q.2
    exact hw ⟨by omega, by omega⟩
  show wpAny _ _ (if (((sIx items.size 0 lo : Nat) : Int) == 0 && (1 : Int) == 1 && (sIx items.size items.size hi - sIx items.size 0 lo) == items.size) = true then _ else _) _ _ s
  rw [if_neg hno, pick_gen]
  first
    | exact wpAny_bind (m := Builtin.Tuple.tupleExact _) (wpAny_newObj_type (wpAny_pure ⟨_, rfl, wpAny_pure h⟩) htake)
    | exact wpAny_bind (m := Builtin.Tuple.tupleExact _) (wpAny_newObj_type (wpAny_bind (wpAny_pure (wpAny_pure ⟨_, rfl, wpAny_pure h⟩))) htake)
    | exact wpAny_bind (wpAny_bind (m := Builtin.Tuple.tupleExact _) (wpAny_newObj_type (wpAny_pure (wpAny_pure ⟨_, rfl, wpAny_pure h⟩)) htake))
    | exact wpAny_bind (wpAny_bind (m := Builtin.Tuple.tupleExact _) (wpAny_newObj_type (wpAny_pure ⟨_, rfl, wpAny_pure h⟩) htake))
end
end HT

namespace L2
open PySem PySem.Spec PyProof.Rows

/-! ### the parts of a slice -/
abbrev TO := St → Hp → (Option Int → Hp → Prop) → Prop
/-- a slice's part (left out, or an int) -/
def PO (X : Cx) (e : Option Expr) (t : TO) : Prop :=
  ∀ (pins : List (Addr × Obj)) (s : Shared) (σ : St) (H : Hp) (Q : Option Int → Hp → Prop), Inv X pins σ H s → t σ H Q →
    wpAny (model X.prog X.w) X.A (evalPart e X.env) (fun u s' => ∃ o H', Inv X pins σ H' s' ∧ IsPart u o ∧ Q o H') X.xe s
def tNoPart : TO := fun _ H Q => Q none H
def tPart (t : TE) : TO := fun σ H Q => t σ H fun x H1 => ∃ i, x = .int i ∧ Q (some i) H1

theorem intsAre_of {ns : List Int} : ∀ {us : List Value}, Vals (ns.map V.int) us → IntsAre us ns := by
  induction ns with
  | nil => intro us r; rw [List.map_nil] at r; cases r; exact .nil
  | cons n ns ih =>
    intro us r
    rw [List.map_cons] at r
    cases r with
    | cons r1 r2 =>
      obtain ⟨t, e⟩ := r1
      subst e
      exact .cons n t (ih r2)

section
variable {X : Cx} {e : Expr} {te : TE} {lo hi : Option Expr} {tl th : TO} {pos p2 : Pos}

theorem po_none : PO X none tNoPart := by
  intro pins s σ H Q I h
  rw [evalPart_none]
  exact wpAny_pure ⟨none, H, I, .none, h⟩
theorem po_some (h : PE X e te) : PO X (some e) (tPart te) := by
  intro pins s σ H Q I hw
  rw [evalPart_some]
  refine thn (h pins s σ H _ I hw) fun u s1 ⟨x, H1, I1, r1, q1⟩ => ?_
  obtain ⟨i, rfl, q⟩ := q1
  obtain ⟨t, rfl⟩ := r1
  exact ⟨some i, H1, I1, .int i t, q⟩

/-- what a slice of a value is, by values: the slice object stands at sl -/
def SlR (X : Cx) (r : V → Option Int → Option Int → Hp → VK → Prop) : Prop :=
  ∀ (pins : List (Addr × Obj)) (s : Shared) (σ : St) (H : Hp) (x : V) (v vl vu : Value) (lo hi : Option Int) (sl : Addr) (Q : VK), Inv X pins σ H s → RelV x v → s.heap.IsSliceOf sl vl vu .none → IsPart vl lo → IsPart vu hi → r x lo hi H Q →
    ∃ T id, typeLookup (.type T) "__getitem__" = pure (some (.builtin id)) ∧ s.TypeIs v T ∧ wpAny (model X.prog X.w) X.A (getItem v (.ref sl)) (EP X pins σ Q) X.xe s
theorem SlR.or {r r' : V → Option Int → Option Int → Hp → VK → Prop} (h : SlR X r) (h' : SlR X r') : SlR X (fun x lo hi H Q => r x lo hi H Q ∨ r' x lo hi H Q) := by
  intro pins s σ H x v vl vu lo hi sl Q I rx hs pl pu q
  rcases q with q | q
  · exact h pins s σ H x v vl vu lo hi sl Q I rx hs pl pu q
  · exact h' pins s σ H x v vl vu lo hi sl Q I rx hs pl pu q
def tSl (r : V → Option Int → Option Int → Hp → VK → Prop) (te : TE) (tl th : TO) : TE := fun σ H Q => te σ H fun x H1 => tl σ H1 fun l H2 => th σ H2 fun u H3 => r x l u H3 Q
/-- a[lo:hi], any a -/
theorem pe_slice {r : V → Option Int → Option Int → Hp → VK → Prop} (hr : SlR X r) (he : PE X e te) (hl : PO X lo tl) (hu : PO X hi th) : PE X (.Subscript e (.Slice lo hi none p2) pos) (tSl r te tl th) := by
  intro pins s σ H Q I h
  refine Subscript_ (thn (he pins s σ H _ I h) fun v s1 ⟨x, H1, I1, r1, q1⟩ => ?_)
  refine wpAny_Slice (thn (hl pins s1 σ H1 _ I1 q1) fun vl s2 ⟨l, H2, I2, pl, q2⟩ => thn (hu pins s2 σ H2 _ I2 q2) fun vu s3 ⟨u, H3, I3, pu, q3⟩ => ?_)
  rw [evalPart_none]
  refine wpAny_pure ?_
  have I4 : Inv X pins σ H3 { s3 with heap := s3.heap.push { cls := .type "slice", data := .fields #[vl, vu, .none] } } := I3.kept (t' := s3.toks) fun b ob q => Heap.get?_push_of_some _ q
  obtain ⟨T, id, hT, ht, hg⟩ := hr pins { s3 with heap := s3.heap.push { cls := .type "slice", data := .fields #[vl, vu, .none] } } σ H3 x v vl vu l u s3.heap.objs.size Q I4 r1 (Heap.IsSliceOf.new ..) pl pu q3
  show wpAny (model X.prog X.w) X.A (subscriptTail e (.Slice lo hi none p2) v (.ref s3.heap.objs.size)) (EP X pins σ Q) X.xe { s3 with heap := s3.heap.push { cls := .type "slice", data := .fields #[vl, vu, .none] } }
  exact tail_any (ops := [.ref s3.heap.objs.size, v]) ht hT hg (by with_unfolding_all rfl)

/-- the items of xs[lo:hi] -/
def cutV (xs : List V) (lo hi : Option Int) : List V := (xs.drop (HT.sIx xs.length 0 lo)).take (HT.sIx xs.length xs.length hi - HT.sIx xs.length 0 lo)
theorem cutV_length (xs : List V) (lo hi : Option Int) : (cutV xs lo hi).length ≤ xs.length := by
  unfold cutV
  rw [List.length_take, List.length_drop]
  omega
/-- t[lo:hi], not the whole of it (the whole would be t itself) -/
def rSlT (K : PySem.W.Frag) : V → Option Int → Option Int → Hp → VK → Prop := fun x lo hi H Q => ∃ a xs, x = .ref a ∧ SqT K H a xs ∧
  ¬ (HT.sIx xs.length 0 lo = 0 ∧ HT.sIx xs.length xs.length hi = xs.length) ∧ ∀ p, H p = none → Q (.ref p) (upd H p (.tup (cutV xs lo hi)))
theorem sl_tup : SlR X (rSlT X.K) := by
  intro pins s σ H x v vl vu lo hi sl Q I rx hs pl pu h
  obtain ⟨a, xs, rfl, hx, hw, q⟩ := h
  cases rx
  obtain ⟨its, r, ht, hz⟩ := I.tuple hx
  have hlen : its.toArray.size = xs.length := by rw [List.size_toArray]; exact r.length.symm
  refine ⟨"tuple", _, PyProof.Rows.slot_tuple_getitem.lookup, ht.typeIs, ?_⟩
  refine HT.getItem_tuple_cut ht hs pl pu (by rw [hlen]; exact hw) ?_ (by rw [hlen]; exact hz)
  rw [hlen]
  refine ⟨.ref s.heap.objs.size, _, I.laid (t' := s.toks) (o := .tup (cutV xs lo hi)) (fun b ob q => Heap.get?_push_of_some _ q) (Nat.le_refl _) ?_, rfl, q _ (I.hok.fresh (Nat.le_refl _))⟩
  exact ⟨Nat.le_trans (cutV_length xs lo hi) hz, _, (r.drop (HT.sIx xs.length 0 lo)).take (HT.sIx xs.length xs.length hi - HT.sIx xs.length 0 lo), IsTup.new _ _⟩

/-! ### t < u, t + u -/
def rLtT (K : PySem.W.Frag) : R2 := fun x y H Q => ∃ a b ns ms, x = .ref a ∧ y = .ref b ∧ SqT K H a (ns.map V.int) ∧ SqT K H b (ms.map V.int) ∧ Q (.bl (HT.lexLt ns ms)) H
theorem op_ltT (hu : X.A.units < cLine) : OpR X (compareOp .Lt) (rLtT X.K) := by
  intro pins s σ H x y v u Q I rx ry h
  obtain ⟨a, b, ns, ms, rfl, rfl, ha, hb, q⟩ := h
  cases rx
  cases ry
  obtain ⟨its, r1, p1, _⟩ := I.tuple ha
  obtain ⟨its2, r2, p2, _⟩ := I.tuple hb
  have i1 : IntsAre its.toArray.toList ns := intsAre_of r1
  have i2 : IntsAre its2.toArray.toList ms := intsAre_of r2
  exact HT.lt_tupInts p1 p2 i1 i2 hu ⟨.bl (HT.lexLt ns ms), H, I, rfl, q⟩
/-- t + u, t not empty: u empty gives t itself -/
def rCatT (K : PySem.W.Frag) : R2 := fun x y H Q => ∃ a b xs ys, x = .ref a ∧ y = .ref b ∧ SqT K H a xs ∧ SqT K H b ys ∧ xs ≠ [] ∧ xs.length + ys.length ≤ sizeLine ∧
  (ys = [] → Q (.ref a) H) ∧ (ys ≠ [] → ∀ p, H p = none → Q (.ref p) (upd H p (.tup (xs ++ ys))))
theorem Vals.nil_iff {xs : List V} {us : List Value} (r : Vals xs us) : us = [] ↔ xs = [] := by
  cases r with
  | nil => simp
  | cons _ _ => simp
theorem op_catT : OpR X (binaryOp .Add) (rCatT X.K) := by
  intro pins s σ H x y v u Q I rx ry h
  obtain ⟨a, b, xs, ys, rfl, rfl, ha, hb, hx, hz, q1, q2⟩ := h
  cases rx
  cases ry
  obtain ⟨its, r1, p1, _⟩ := I.tuple ha
  obtain ⟨its2, r2, p2, _⟩ := I.tuple hb
  refine HT.cat_tup p1 p2 (fun z => hx (r1.nil_iff.mp z)) (fun z => ⟨.ref a, H, I, rfl, q1 (r2.nil_iff.mp z)⟩) (fun z => ?_) (by rw [← r1.length, ← r2.length]; exact hz)
  refine ⟨.ref s.heap.objs.size, _, I.laid (t' := s.toks) (o := .tup (xs ++ ys)) (fun b ob q => Heap.get?_push_of_some _ q) (Nat.le_refl _) ?_, rfl, q2 (fun w => z (r2.nil_iff.mpr w)) _ (I.hok.fresh (Nat.le_refl _))⟩
  exact ⟨by rw [List.length_append]; exact hz, _, r1.append r2, IsTup.new _ _⟩
/-- tuple(t) -/
theorem call_tupleT : CallR X (.type "tuple") (fun xs H Q => ∃ a ys, xs = [.ref a] ∧ SqT X.K H a ys ∧ Q (.ref a) H) := by
  intro pins s σ H xs us Q I r h
  obtain ⟨a, ys, rfl, ha, q⟩ := h
  obtain ⟨u, rfl, ru⟩ := vals1 r
  cases ru
  obtain ⟨its, _, p1, _⟩ := I.tuple ha
  exact call_tuple_same (items := its.toArray) p1 ⟨.ref a, H, I, rfl, q⟩
end
end L2

namespace L2
open PySem PySem.Spec PyProof.Rows

/-! ### places -/
/-- the place that an index of any sign means -/
def ixN (n : Nat) (i : Int) : Option Nat := if 0 ≤ i then (if i < n then some i.toNat else none) else if -(n : Int) ≤ i then some (i + n).toNat else none
def atI {α : Type} (xs : List α) (i : Int) : Option α := (ixN xs.length i).bind fun j => xs[j]?
theorem ixN_seq {n : Nat} {i : Int} {j : Nat} (h : ixN n i = some j) : seqIndex? i n = some j ∧ j < n ∧ -(n : Int) ≤ i ∧ i < n := by
  unfold ixN at h
  by_cases h0 : 0 ≤ i
  · rw [if_pos h0] at h
    by_cases h1 : i < n
    · rw [if_pos h1] at h
      have e : i.toNat = j := Option.some.inj h
      exact ⟨by rw [seqIndex_of h0 h1, e], by omega, by omega, h1⟩
    · rw [if_neg h1] at h; cases h
  · rw [if_neg h0] at h
    by_cases h1 : -(n : Int) ≤ i
    · rw [if_pos h1] at h
      have e : (i + n).toNat = j := Option.some.inj h
      exact ⟨by rw [seqIndex_neg (by omega) h1, e], by omega, h1, by omega⟩
    · rw [if_neg h1] at h; cases h
theorem atI_get {α : Type} {xs : List α} {i : Int} {v : α} (h : atI xs i = some v) : ∃ j, seqIndex? i xs.length = some j ∧ xs[j]? = some v ∧ j < xs.length ∧ -(xs.length : Int) ≤ i ∧ i < xs.length := by
  unfold atI at h
  cases e : ixN xs.length i with
  | none => rw [e] at h; cases h
  | some j =>
    rw [e] at h
    obtain ⟨h1, h2, h3, h4⟩ := ixN_seq e
    exact ⟨j, h1, h, h2, h3, h4⟩
theorem atI_nat {α : Type} {xs : List α} {j : Nat} {v : α} (h : xs[j]? = some v) : atI xs (j : Int) = some v := by
  have hj : j < xs.length := (List.getElem?_eq_some_iff.mp h).1
  have e : ixN xs.length (j : Int) = some j := by
    unfold ixN
    rw [if_pos (by omega), if_pos (by omega)]; simp
  unfold atI; rw [e]; exact h
theorem atI_last {α : Type} (xs : List α) (v : α) : atI (xs ++ [v]) (-1) = some v := by
  have hl : (xs ++ [v]).length = xs.length + 1 := by simp
  have e : ixN (xs ++ [v]).length (-1) = some xs.length := by
    unfold ixN
    rw [hl, if_neg (by decide), if_pos (by omega)]
    congr 1
    omega
  unfold atI
  rw [e]
  show (xs ++ [v])[xs.length]? = some v
  simp

/-! ### what may be subscripted -/
/-- what stands as an index of a plain subscript -/
def PlainIx (b : Expr) : Prop := ∀ o i, subscripted b false o i = operate [o, i] (getItem o i)
/-- a subscript by values -/
def IxR (X : Cx) (r : R2) : Prop :=
  ∀ (value slice : Expr) (pins : List (Addr × Obj)) (s : Shared) (σ : St) (H : Hp) (x y : V) (v u : Value) (Q : VK), Inv X pins σ H s → RelV x v → RelV y u → r x y H Q →
    subscripted slice false v u = operate [v, u] (getItem v u) → wpAny (model X.prog X.w) X.A (subscriptTail value slice v u) (EP X pins σ Q) X.xe s
/-- a call of a builtin's method by values: the receiver, the arguments -/
def MtR (X : Cx) (id : String) (r : V → List V → Hp → VK → Prop) : Prop :=
  ∀ (pins : List (Addr × Obj)) (s : Shared) (σ : St) (H : Hp) (x : V) (xs : List V) (v : Value) (us : List Value) (Q : VK), Inv X pins σ H s → RelV x v → Vals xs us → r x xs H Q →
    wpAny (model X.prog X.w) X.A (call (.builtin id) (v :: us)) (EP X pins σ Q) X.xe s
section
variable {X : Cx} {a b : Expr} {ta tb : TE} {pos : Pos}
theorem IxR.or {r r' : R2} (h : IxR X r) (h' : IxR X r') : IxR X (fun x y H Q => r x y H Q ∨ r' x y H Q) := by
  intro value slice pins s σ H x y v u Q I rx ry q hs
  rcases q with q | q
  · exact h value slice pins s σ H x y v u Q I rx ry q hs
  · exact h' value slice pins s σ H x y v u Q I rx ry q hs
theorem MtR.or {id : String} {r r' : V → List V → Hp → VK → Prop} (h : MtR X id r) (h' : MtR X id r') : MtR X id (fun x xs H Q => r x xs H Q ∨ r' x xs H Q) := by
  intro pins s σ H x xs v us Q I rx rs q
  rcases q with q | q
  · exact h pins s σ H x xs v us Q I rx rs q
  · exact h' pins s σ H x xs v us Q I rx rs q
/-- a[b] -/
theorem pe_ix {r : R2} (hr : IxR X r) (ha : PE X a ta) (hb : PE X b tb) (hs : PlainIx b) : PE X (.Subscript a b pos) (tOp r ta tb) := by
  intro pins s σ H Q I h
  exact Subscript_ (binT ha hb I h fun v u s2 x y H2 I2 rx ry q => hr a b pins s2 σ H2 x y v u Q I2 rx ry q (hs _ _))

def rIxL (K : PySem.W.Frag) : R2 := fun x y H Q => ∃ p xs i v, x = .ref p ∧ y = .int i ∧ SqL K H p xs ∧ atI xs i = some v ∧ Q v H
def rIxT (K : PySem.W.Frag) : R2 := fun x y H Q => ∃ p xs i v, x = .ref p ∧ y = .int i ∧ SqT K H p xs ∧ atI xs i = some v ∧ Q v H
def rIxS : R2 := fun x y H Q => ∃ z i c, x = .str z ∧ y = .int i ∧ z.length ≤ sizeLine ∧ atI z.cps.toList i = some c ∧ Q (.str ⟨#[c]⟩) H
theorem ix_list : IxR X (rIxL X.K) := by
  intro value slice pins s σ H x y v u Q I rx ry h hs
  obtain ⟨p, xs, i, z, rfl, rfl, hq, he, q⟩ := h
  cases rx
  obtain ⟨t, rfl⟩ := ry
  obtain ⟨its, r, pl, hz⟩ := I.list hq
  obtain ⟨j, h1, h2, h3, h4, h5⟩ := atI_get he
  obtain ⟨w, ew, rw'⟩ := r.get h2
  have hl := r.length
  have hn := line63
  have fin : EP X pins σ Q w s := ⟨z, H, I, rw', q⟩
  by_cases h0 : 0 ≤ i
  · have hj : i.toNat = j := by
      rw [seqIndex_of h0 h5] at h1
      exact Option.some.inj h1
    exact item_listR pl.isList h0 (by omega) (by rw [hj]; simpa using ew) fin hs
  · have hj : (i + (its.toArray.size : Int)).toNat = j := by
      rw [seqIndex_neg (by omega) h4] at h1
      rw [List.size_toArray, ← hl]
      exact Option.some.inj h1
    exact subscriptTail_builtinR (x := w) pl.isList.typeIs slot_list_getitem.lookup
      (wpAny_getItem_list_neg (Q := fun r s' => r = w ∧ EP X pins σ Q r s') pl.isList (by omega) (by rw [List.size_toArray] <;> omega) (by omega) (by rw [hj]; simpa using ew) ⟨rfl, fin⟩) hs
theorem ix_tup : IxR X (rIxT X.K) := by
  intro value slice pins s σ H x y v u Q I rx ry h hs
  obtain ⟨p, xs, i, z, rfl, rfl, hq, he, q⟩ := h
  cases rx
  obtain ⟨t, rfl⟩ := ry
  obtain ⟨its, r, pl, hz⟩ := I.tuple hq
  obtain ⟨j, h1, h2, h3, h4, h5⟩ := atI_get he
  obtain ⟨w, ew, rw'⟩ := r.get h2
  have hl := r.length
  have hn := line63
  have fin : EP X pins σ Q w s := ⟨z, H, I, rw', q⟩
  exact subscriptTail_builtinR (x := w) pl.typeIs slot_tuple_getitem.lookup
    (getItem_tuple (j := j) (Q := fun r s' => r = w ∧ EP X pins σ Q r s') pl (by omega) (by omega) (by rw [List.size_toArray, ← hl]; exact h1) (by simpa using ew) ⟨rfl, fin⟩) hs
theorem ix_str : IxR X rIxS := by
  intro value slice pins s σ H x y v u Q I rx ry h hs
  obtain ⟨z, i, c, rfl, rfl, hz, he, q⟩ := h
  obtain ⟨t, rfl⟩ := rx
  obtain ⟨t', rfl⟩ := ry
  obtain ⟨j, h1, h2, h3, h4, h5⟩ := atI_get he
  have hl : z.cps.toList.length = z.length := by simp [Str.length]
  rw [hl] at h1 h4 h5
  have hn := line63
  exact tail_any (typeIs_str s z t) slot_str_getitem.lookup (getItem_str (c := c) (by
    have e1 : decide (i < -(2 ^ 63 : Int)) = false := decide_eq_false (by omega)
    have e2 : decide (i ≥ 2 ^ 63) = false := decide_eq_false (by omega)
    rw [e1, e2, Bool.or_false]) (by rw [h1]; simpa using h2) ⟨.str ⟨#[c]⟩, H, I.tok _, ⟨_, rfl⟩, q⟩) hs
/-- list, tuple or str -/
def rIx (K : PySem.W.Frag) : R2 := fun x y H Q => rIxL K x y H Q ∨ rIxT K x y H Q ∨ rIxS x y H Q
theorem ix_seq : IxR X (rIx X.K) := ix_list.or (ix_tup.or ix_str)

/-! ### xs[i] = v, any sign -/
/-- the list's object behind a store -/
theorem mapSeq_set (its : List Value) (n j : Nat) (u : Value) : Obj.mapSeq (·.setIfInBounds j u) { cls := .type "list", data := .seq its.toArray n } = { cls := .type "list", data := .seq (its.set j u).toArray n } := by
  simp [Obj.mapSeq]
theorem Inv.lst {pins : List (Addr × Obj)} {σ : St} {H : Hp} {s : Shared} {p : Addr} {xs : List V} (I : Inv X pins σ H s) (h : H p = some (.lst xs)) :
    ∃ (its : List Value) (n : Nat), Vals xs its ∧ s.heap.get? p = some { cls := .type "list", data := .seq its.toArray n } ∧ xs.length ≤ sizeLine := by
  obtain ⟨z, its, n, r, e⟩ := I.hok p _ h
  exact ⟨its, n, r, e, z⟩
/-- the list at p is written by an update of its object -/
theorem Inv.lstUpd {pins : List (Addr × Obj)} {σ : St} {H : Hp} {s : Shared} {p : Addr} {xs ys : List V} {its its' : List Value} {n n' : Nat} {f : Obj → Obj} (I : Inv X pins σ H s) (h : H p = some (.lst xs))
    (ho : s.heap.get? p = some { cls := .type "list", data := .seq its.toArray n }) (hf : f { cls := .type "list", data := .seq its.toArray n } = { cls := .type "list", data := .seq its'.toArray n' }) (r : Vals ys its') (hz : ys.length ≤ sizeLine) (t : Nat) :
    Inv X pins σ (upd H p (.lst ys)) { s with heap := s.heap.update p f, toks := t } := by
  have e : (s.heap.update p f).get? p = some { cls := .type "list", data := .seq its'.toArray n' } := by
    rw [Heap.get?_update_self f ho (by rw [hf] <;> rfl), hf]
  refine I.write (x := p) (e := p) (by rw [h]; trivial) (.inl rfl) (fun b u hb q => (Heap.get?_update_other _ _ (Ne.symm hb)).trans q) ⟨_, e⟩ ?_
  exact ⟨hz, its', n', r, e⟩
def rSetL : V → V → V → Hp → (Hp → Prop) → Prop := fun o i v H Q => ∃ p xs k j, o = .ref p ∧ i = .int k ∧ H p = some (.lst xs) ∧ ixN xs.length k = some j ∧ Q (upd H p (.lst (xs.set j v)))
theorem set_list : PSet X rSetL := by
  intro pins s σ H o i v ov iv u Q I ro ri rv h
  obtain ⟨p, xs, k, j, rfl, rfl, hp, hj, q⟩ := h
  cases ro
  obtain ⟨t, rfl⟩ := ri
  obtain ⟨its, n, r, ho, hz⟩ := I.lst hp
  obtain ⟨h1, h2, h3, h4⟩ := ixN_seq hj
  have hl := r.length
  have hn := line63
  have I' : Inv X pins σ (upd H p (.lst (xs.set j v))) { s with heap := s.heap.update p (Obj.mapSeq (·.setIfInBounds j u)) } :=
    I.lstUpd hp ho (mapSeq_set its n j u) (r.set rv j) (by rw [List.length_set]; exact hz) s.toks
  by_cases h0 : 0 ≤ k
  · have hk : k.toNat = j := by
      rw [seqIndex_of h0 h4] at h1
      exact Option.some.inj h1
    exact PySem.W.ki_setAt ho h0 (by omega) (by rw [List.size_toArray, ← hl]; exact h4) (by rw [hk]; exact ⟨_, I', q⟩)
  · have hk : (k + (its.toArray.size : Int)).toNat = j := by
      rw [seqIndex_neg (by omega) h3] at h1
      rw [List.size_toArray, ← hl]
      exact Option.some.inj h1
    exact PySem.W.ki_setBack ho (by omega) (by rw [List.size_toArray, ← hl]; exact h3) (by omega) (by rw [hk]; exact ⟨_, I', q⟩)

/-! ### slices -/
theorem slice_bounds (lo hi : Option Int) (n : Nat) : (sliceBounds lo hi none n).1 = ((HT.sIx n 0 lo : Nat) : Int) ∧ (sliceBounds lo hi none n).2.1 = ((HT.sIx n n hi : Nat) : Int) ∧ (sliceBounds lo hi none n).2.2 = 1 := by
  refine ⟨?_, ?_, rfl⟩
  · cases lo with
    | none => simp [sliceBounds, HT.sIx]
    | some i =>
      simp only [sliceBounds, HT.sIx, Option.getD_none, show (1 : Int) > 0 by decide, if_true]
      by_cases h : i < 0
      · simp only [h, if_true] <;> omega
      · simp only [h, if_false] <;> omega
  · cases hi with
    | none => simp [sliceBounds, HT.sIx]
    | some i =>
      simp only [sliceBounds, HT.sIx, Option.getD_none, show (1 : Int) > 0 by decide, if_true]
      by_cases h : i < 0
      · simp only [h, if_true] <;> omega
      · simp only [h, if_false] <;> omega
theorem slicePick_cut (its : List Value) (lo hi : Option Int) : slicePick its.toArray lo hi none = ((its.drop (HT.sIx its.length 0 lo)).take (HT.sIx its.length its.length hi - HT.sIx its.length 0 lo)).toArray := by
  obtain ⟨h1, h2, h3⟩ := slice_bounds lo hi its.toArray.size
  unfold slicePick
  rw [h1, h2, h3]
  simp only [sliceRange_one, pick_run, List.size_toArray] <;> rfl
/-- xs[lo:hi] of a list: a new list -/
def rSlL (K : PySem.W.Frag) : V → Option Int → Option Int → Hp → VK → Prop := fun x lo hi H Q => ∃ a xs, x = .ref a ∧ SqL K H a xs ∧ ∀ p, H p = none → Q (.ref p) (upd H p (.lst (cutV xs lo hi)))
theorem sl_list : SlR X (rSlL X.K) := by
  intro pins s σ H x v vl vu lo hi sl Q I rx hs pl pu h
  obtain ⟨a, xs, rfl, hx, q⟩ := h
  cases rx
  obtain ⟨its, r, ht, hz⟩ := I.list hx
  have hlen := r.length
  refine ⟨"list", _, slot_list_getitem.lookup, ht.isList.typeIs, ?_⟩
  refine wpAny_getItem_list_slice ht.isList hs pl pu .none (by simp) ?_ (by rw [List.size_toArray] <;> omega)
  rw [slicePick_cut, ← hlen]
  refine ⟨.ref s.heap.objs.size, _, I.laid (t' := s.toks) (o := .lst (cutV xs lo hi)) (fun b ob q => Heap.get?_push_of_some _ q) (Nat.le_refl _) ?_, rfl, q _ (I.hok.fresh (Nat.le_refl _))⟩
  exact ⟨Nat.le_trans (cutV_length xs lo hi) hz, _, 0, (r.drop (HT.sIx xs.length 0 lo)).take (HT.sIx xs.length xs.length hi - HT.sIx xs.length 0 lo), Heap.get?_push_size _ rfl⟩

/-! ### in, not in: flat items -/
def flatV : V → Bool
  | .non => true
  | .bl _ => true
  | .int _ => true
  | .str _ => true
  | _ => false
/-- == of flat values -/
def eqV : V → V → Bool
  | .non, .non => true
  | .bl a, .bl b => a == b
  | .bl a, .int b => (if a then 1 else 0) == b
  | .int a, .bl b => a == (if b then 1 else 0)
  | .int a, .int b => a == b
  | .str a, .str b => a == b
  | _, _ => false
theorem eqAt_V {A : Around} {s : Shared} {y x : V} {u v : Value} (ry : RelV y u) (rx : RelV x v) (fy : flatV y = true) (fx : flatV x = true) : SeqAt.EqAt A s u v (eqV y x) := by
  cases y with
  | non =>
    cases ry
    cases x with
    | non => cases rx; exact SeqAt.EqAt.same _
    | bl b => cases rx; exact SeqAt.EqAt.none_bool b
    | int b => obtain ⟨t, rfl⟩ := rx; exact SeqAt.EqAt.none_int b t
    | str b => obtain ⟨t, rfl⟩ := rx; exact SeqAt.EqAt.none_str b t
    | _ => exact absurd (show false = true from fx) Bool.false_ne_true
  | bl a =>
    cases ry
    cases x with
    | non => cases rx; exact SeqAt.EqAt.bool_none a
    | bl b => cases rx; exact SeqAt.EqAt.bool_bool a b
    | int b => obtain ⟨t, rfl⟩ := rx; exact SeqAt.EqAt.bool_int a b t
    | str b => obtain ⟨t, rfl⟩ := rx; exact SeqAt.EqAt.bool_str a b t
    | _ => exact absurd (show false = true from fx) Bool.false_ne_true
  | int a =>
    obtain ⟨t', rfl⟩ := ry
    cases x with
    | non => cases rx; exact SeqAt.EqAt.int_none a t'
    | bl b => cases rx; exact SeqAt.EqAt.int_bool a t' b
    | int b => obtain ⟨t, rfl⟩ := rx; exact SeqAt.EqAt.int_int a t' b t
    | str b => obtain ⟨t, rfl⟩ := rx; exact SeqAt.EqAt.int_str a t' b t
    | _ => exact absurd (show false = true from fx) Bool.false_ne_true
  | str a =>
    obtain ⟨t', rfl⟩ := ry
    cases x with
    | non => cases rx; exact SeqAt.EqAt.str_none a t'
    | bl b => cases rx; exact SeqAt.EqAt.str_bool a t' b
    | int b => obtain ⟨t, rfl⟩ := rx; exact SeqAt.EqAt.str_int a t' b t
    | str b => obtain ⟨t, rfl⟩ := rx; exact SeqAt.EqAt.str_str a t' b t
    | _ => exact absurd (show false = true from fx) Bool.false_ne_true
  | _ => exact absurd (show false = true from fy) Bool.false_ne_true
/-- the items' answers, read off the values (a value's own answer does not lean on its token) -/
def eqU (x : V) (u : Value) : Bool := match u with
  | .none => eqV .non x
  | .bool b => eqV (.bl b) x
  | .int i _ => eqV (.int i) x
  | .str z _ => eqV (.str z) x
  | _ => false
theorem eqU_of {x y : V} {u : Value} (r : RelV y u) (f : flatV y = true) : eqU x u = eqV y x := by
  cases y with
  | non => cases r; rfl
  | bl b => cases r; rfl
  | int i => obtain ⟨t, rfl⟩ := r; rfl
  | str z => obtain ⟨t, rfl⟩ := r; rfl
  | _ => exact absurd (show false = true from f) Bool.false_ne_true
theorem any_eqU {x : V} : ∀ {xs : List V} {us : List Value}, Vals xs us → xs.all flatV = true → us.any (eqU x) = xs.any fun y => eqV y x
  | _, _, .nil, _ => rfl
  | y :: xs, u :: us, .cons r t, f => by
    rw [List.all_cons, Bool.and_eq_true] at f
    rw [List.any_cons, List.any_cons, eqU_of r f.1, any_eqU t f.2]
theorem mem_eqAt {A : Around} {s : Shared} {x : V} {v : Value} (rx : RelV x v) (fx : flatV x = true) : ∀ {xs : List V} {us : List Value}, Vals xs us → xs.all flatV = true → ∀ u ∈ us, SeqAt.EqAt A s u v (eqU x u)
  | _, _, .nil, _ => fun u hu => by cases hu
  | y :: xs, u :: us, .cons r t, f => fun u' hu => by
    rw [List.all_cons, Bool.and_eq_true] at f
    rcases List.mem_cons.mp hu with rfl | hu
    · rw [eqU_of r f.1]; exact eqAt_V r rx f.1 fx
    · exact mem_eqAt rx fx t f.2 u' hu
def inV (x : V) (xs : List V) : Bool := xs.any fun y => eqV y x
/-- x in a list or tuple of flat items -/
def rIn (K : PySem.W.Frag) (neg : Bool) : R2 := fun x y H Q => ∃ p xs, y = .ref p ∧ (SqL K H p xs ∨ SqT K H p xs) ∧ flatV x = true ∧ xs.all flatV = true ∧ Q (.bl (if neg then !inV x xs else inV x xs)) H
theorem op_in_seq : OpR X (compareOp .In) (rIn X.K false) := by
  intro pins s σ H x y v u Q I rx ry h
  obtain ⟨p, xs, rfl, hq, fx, fs, q⟩ := h
  cases ry
  rcases hq with hq | hq
  · obtain ⟨its, r, pl, hz⟩ := I.list hq
    refine SeqAt.in_listAt (eqU x) pl.isList (fun w hw => mem_eqAt rx fx r fs w (by simpa using hw)) ⟨.bl _, H, I, rfl, ?_⟩
    rw [show its.toArray.any (eqU x) = its.any (eqU x) by simp, any_eqU r fs]
    exact q
  · obtain ⟨its, r, pl, hz⟩ := I.tuple hq
    refine SeqAt.in_tupleAt (eqU x) pl (fun w hw => mem_eqAt rx fx r fs w (by simpa using hw)) ⟨.bl _, H, I, rfl, ?_⟩
    rw [show its.toArray.any (eqU x) = its.any (eqU x) by simp, any_eqU r fs]
    exact q
theorem op_notIn_seq : OpR X (compareOp .NotIn) (rIn X.K true) := by
  intro pins s σ H x y v u Q I rx ry h
  obtain ⟨p, xs, rfl, hq, fx, fs, q⟩ := h
  cases ry
  rcases hq with hq | hq
  · obtain ⟨its, r, pl, hz⟩ := I.list hq
    refine SeqAt.notIn_listAt (eqU x) pl.isList (fun w hw => mem_eqAt rx fx r fs w (by simpa using hw)) ⟨.bl _, H, I, rfl, ?_⟩
    rw [show its.toArray.any (eqU x) = its.any (eqU x) by simp, any_eqU r fs]
    exact q
  · obtain ⟨its, r, pl, hz⟩ := I.tuple hq
    refine SeqAt.notIn_tupleAt (eqU x) pl (fun w hw => mem_eqAt rx fx r fs w (by simpa using hw)) ⟨.bl _, H, I, rfl, ?_⟩
    rw [show its.toArray.any (eqU x) = its.any (eqU x) by simp, any_eqU r fs]
    exact q
theorem op_notIn_str : OpR X (compareOp .NotIn) (fun x y H Q => ∃ i j, x = .str i ∧ y = .str j ∧ Q (.bl (!(!(Builtin.Str.occurrences j i 0 j.length 1).isEmpty))) H) := by
  intro pins s σ H x y v u Q I rx ry h
  obtain ⟨i, j, rfl, rfl, q⟩ := h
  obtain ⟨t, rfl⟩ := rx
  obtain ⟨t', rfl⟩ := ry
  exact notIn_str ⟨.bl _, H, I, rfl, q⟩

/-! ### len, list(x), tuple(x) of any list or tuple that is read -/
theorem call_len_seq : CallR X (.builtin "len") (fun xs H Q => ∃ p ys, xs = [.ref p] ∧ (SqL X.K H p ys ∨ SqT X.K H p ys) ∧ Q (.int ys.length) H) := by
  intro pins s σ H xs us Q I r h
  obtain ⟨p, ys, rfl, hq, q⟩ := h
  obtain ⟨u, rfl, rx⟩ := vals1 r
  cases rx
  have hn := line63
  rcases hq with hq | hq
  · obtain ⟨its, r', pl, hz⟩ := I.list hq
    have hlen := r'.length
    exact Calls.call_len_list pl.isList (by simp only [List.size_toArray] <;> omega) ⟨.int ys.length, H, I.tok _, ⟨s.toks + 1, by rw [List.size_toArray, hlen]⟩, q⟩
  · obtain ⟨its, r', pl, hz⟩ := I.tuple hq
    have hlen := r'.length
    exact len_tuple pl (by simp only [List.size_toArray] <;> omega) ⟨.int ys.length, H, I.tok _, ⟨s.toks + 1, by rw [List.size_toArray, hlen]⟩, q⟩
theorem call_len_str : CallR X (.builtin "len") (fun xs H Q => ∃ z, xs = [.str z] ∧ z.length ≤ sizeLine ∧ Q (.int z.length) H) := by
  intro pins s σ H xs us Q I r h
  obtain ⟨z, rfl, hz, q⟩ := h
  obtain ⟨u, rfl, t, rfl⟩ := vals1 r
  have hn := line63
  exact len_str (by omega) ⟨.int z.length, H, I.tok _, ⟨_, rfl⟩, q⟩
theorem CallR.or {f : Value} {r r' : List V → Hp → VK → Prop} (h : CallR X f r) (h' : CallR X f r') : CallR X f (fun xs H Q => r xs H Q ∨ r' xs H Q) := by
  intro pins s σ H xs us Q I rs q
  rcases q with q | q
  · exact h pins s σ H xs us Q I rs q
  · exact h' pins s σ H xs us Q I rs q
theorem call_list_of : CallR X (.type "list") (fun xs H Q => ∃ p ys, xs = [.ref p] ∧ (SqL X.K H p ys ∨ SqT X.K H p ys) ∧ ∀ l, H l = none → Q (.ref l) (upd H l (.lst ys))) := by
  intro pins s σ H xs us Q I r h
  obtain ⟨p, ys, rfl, hq, q⟩ := h
  obtain ⟨u, rfl, rx⟩ := vals1 r
  cases rx
  have fin : ∀ (its : List Value), Vals ys its → ys.length ≤ sizeLine → ∀ (h' : Heap) (c' : Nat), (∀ b o', s.heap.get? b = some o' → h'.get? b = some o') →
      h'.get? s.heap.objs.size = some { cls := .type "list", dict := none, data := .seq its.toArray c', slots := #[] } → EP X pins σ Q (.ref s.heap.objs.size) { s with heap := h' } := fun its r' hz h' c' kp e =>
    ⟨.ref s.heap.objs.size, _, I.laid (t' := s.toks) kp (Nat.le_refl _) (show ObjOk X.prog X.w _ h' _ (.lst ys) from ⟨hz, its, c', r', e⟩), rfl, q _ (I.hok.fresh (Nat.le_refl _))⟩
  rcases hq with hq | hq
  · obtain ⟨its, r', pl, hz⟩ := I.list hq
    have hlen := r'.length
    obtain ⟨o, ho, hc, n, hd⟩ := pl.isList
    exact call_list_seq p (.inl rfl) ho hc hd (fun h' c' kp e => fin its r' hz h' c' kp e) (by simp only [List.size_toArray] <;> omega)
  · obtain ⟨its, r', pl, hz⟩ := I.tuple hq
    have hlen := r'.length
    obtain ⟨o, ho, hc, n, hd⟩ := pl
    exact call_list_seq p (.inr rfl) ho hc hd (fun h' c' kp e => fin its r' hz h' c' kp e) (by simp only [List.size_toArray] <;> omega)
theorem call_tuple_of : CallR X (.type "tuple") (fun xs H Q => ∃ p ys, xs = [.ref p] ∧ ((SqL X.K H p ys ∧ ∀ l, H l = none → Q (.ref l) (upd H l (.tup ys))) ∨ (SqT X.K H p ys ∧ Q (.ref p) H))) := by
  intro pins s σ H xs us Q I r h
  obtain ⟨p, ys, rfl, h⟩ := h
  obtain ⟨u, rfl, rx⟩ := vals1 r
  cases rx
  rcases h with ⟨hq, q⟩ | ⟨hq, q⟩
  · obtain ⟨its, r', pl, hz⟩ := I.list hq
    have hlen := r'.length
    refine call_tuple_list pl.isList (fun h' kp => ?_) (by simp only [List.size_toArray] <;> omega)
    have I1 : Inv X pins σ H { s with heap := h' } := I.kept (t' := s.toks) kp
    have I2 : Inv X pins σ (upd H h'.objs.size (.tup ys)) { s with heap := h'.push { cls := .type "tuple", data := .seq its.toArray } } :=
      I1.laid (t' := s.toks) (fun b o e => Heap.get?_push_of_some _ e) (Nat.le_refl _) (show ObjOk X.prog X.w _ _ _ (.tup ys) from ⟨hz, its, r', IsTup.new _ _⟩)
    exact ⟨.ref h'.objs.size, _, I2, rfl, q _ (I1.hok.fresh (Nat.le_refl _))⟩
  · obtain ⟨its, r', pl, hz⟩ := I.tuple hq
    exact call_tuple_same pl ⟨.ref p, H, I, rfl, q⟩

/-! ### the call of a builtin's method: o.m(..) -/
/-- the value is of that builtin type -/
def tyV (K : PySem.W.Frag) (T : String) (x : V) (H : Hp) : Prop := match x with
  | .str _ => T = "str"
  | .int _ => T = "int"
  | .ref p => (T = "list" ∧ ∃ xs, SqL K H p xs) ∨ (T = "tuple" ∧ ∃ o, K.lookup p = some o ∧ o.cls = .type "tuple" ∧ o.dict = none) ∨
      (T = "dict" ∧ ((∃ kvs, H p = some (.dK kvs)) ∨ ∃ kvs, H p = some (.dT kvs))) ∨ (T = "dict" ∧ ∃ ep kvs, H p = some (.dX ep kvs)) ∨ (T = "set" ∧ ∃ S n, H p = some (.set S n))
  | _ => False
theorem tyV_is {pins : List (Addr × Obj)} {σ : St} {H : Hp} {s : Shared} {T : String} {x : V} {v : Value} (I : Inv X pins σ H s) (r : RelV x v) (ty : tyV X.K T x H) :
    s.TypeIs v T ∧ ∀ a, v = .ref a → ∃ ob, s.heap.get? a = some ob ∧ ob.dict = none := by
  cases x with
  | str z =>
    obtain ⟨t, rfl⟩ := r
    cases (show T = "str" from ty)
    exact ⟨typeIs_str s z t, fun _ e => nomatch e⟩
  | int i =>
    obtain ⟨t, rfl⟩ := r
    cases (show T = "int" from ty)
    exact ⟨typeIs_int s i t, fun _ e => nomatch e⟩
  | ref p =>
    cases r
    rcases ty with ⟨rfl, xs, hq⟩ | ⟨rfl, o, hk, hc, hd⟩ | ⟨rfl, hk⟩ | ⟨rfl, ep, kvs, hk⟩ | ⟨rfl, S, n, hk⟩
    · obtain ⟨its, _, pl, _⟩ := I.list hq
      refine ⟨pl.isList.typeIs, fun a e => ?_⟩
      cases e
      obtain ⟨o, n, e, c, hd, _⟩ := pl
      exact ⟨o, e, hd⟩
    · refine ⟨⟨o, I.kIn p o hk, hc⟩, fun a e => ?_⟩
      cases e
      exact ⟨o, I.kIn _ o hk, hd⟩
    · have z : ∃ o, s.heap.get? p = some o ∧ o.ExactDict := by
        rcases hk with ⟨kvs, hk⟩ | ⟨kvs, hk⟩
        · obtain ⟨_, _, _, _, o, _, _, e, ex, _⟩ := I.hok p _ hk
          exact ⟨o, e, ex⟩
        · obtain ⟨_, _, _, _, o, _, _, e, ex, _⟩ := I.hok p _ hk
          exact ⟨o, e, ex⟩
      obtain ⟨o, e, ex⟩ := z
      refine ⟨⟨o, e, ex.1⟩, fun a e2 => ?_⟩
      cases e2
      exact ⟨o, e, ex.2.1⟩
    · obtain ⟨_, _, _, _, o, _, e, ex, _⟩ := I.hok p _ hk
      refine ⟨⟨o, e, ex.1⟩, fun a e2 => ?_⟩
      cases e2
      exact ⟨o, e, ex.2.1⟩
    · obtain ⟨o, _, _, _, e, ex, _⟩ := I.hok p _ hk
      refine ⟨⟨o, e, ex.1⟩, fun a e2 => ?_⟩
      cases e2
      exact ⟨o, e, ex.2.1⟩
  | _ => exact False.elim ty
def tBM0 (K : PySem.W.Frag) (T : String) (r : V → List V → Hp → VK → Prop) (to : TE) : TE := fun σ H Q => to σ H fun x H1 => tyV K T x H1 ∧ r x [] H1 Q
def tBM (K : PySem.W.Frag) (T : String) (r : V → List V → Hp → VK → Prop) (to : TE) (t : TA) : TE := fun σ H Q => to σ H fun x H1 => tyV K T x H1 ∧ t σ H1 fun xs H2 => r x xs H2 Q
variable {o e : Expr} {es : List Expr} {to : TE} {t : TA} {name : Str} {apos cpos : Pos} {T id : String} {r : V → List V → Hp → VK → Prop}
theorem pe_bm0 (pa : PlainAttrs T) (slot : Slot T name id) (hty : typeOf (.builtin id) = pure (.type "method_descriptor")) (hm : MtR X id r) (ho : PE X o to)
    (hbase : attributeBase o name X.env (eval o X.env) = eval o X.env := by rfl) (hline : (apos.endLine == cpos.line) = true := by rfl) : PE X (.Call (.Attribute o name apos) [] [] cpos) (tBM0 X.K T r to) := by
  intro pins s σ H Q I h
  refine wpAny_Call_method0_late hbase hline (thn (ho pins s σ H _ I h) fun v s1 ⟨x, H1, I1, r1, ty, q1⟩ => ?_)
  obtain ⟨h1, h2⟩ := tyV_is I1 r1 ty
  exact ⟨T, id, pa, slot, hty, h1, h2, Calls.callWith_builtin rfl (PySem.evalArgs_none (hm pins s1 σ H1 x [] v [] Q I1 r1 .nil q1))⟩
theorem pe_bm (pa : PlainAttrs T) (slot : Slot T name id) (hty : typeOf (.builtin id) = pure (.type "method_descriptor")) (hm : MtR X id r) (ho : PE X o to) (ha : PA X (e :: es) t)
    (hbase : attributeBase o name X.env (eval o X.env) = eval o X.env := by rfl)
    (hfew : ((backTo cpos (starEach (e :: es) X.env)).all (fun x => !x.1) && (backToKw cpos (keywordEach [] X.env)).all (fun x => x.1.isSome)
      && decide ((e :: es).length + ([] : List Keyword).length + (if ([] : List Keyword).isEmpty then 0 else 1) < 30)) = true := by rfl)
    (hline : (apos.endLine == cpos.line) = true := by rfl) (hs : starEach (e :: es) X.env = (false, eval e X.env) :: starEach es X.env := by rfl) (hplain : (backTo cpos (starEach es X.env)).any (·.1) = false := by rfl) :
    PE X (.Call (.Attribute o name apos) (e :: es) [] cpos) (tBM X.K T r to t) := by
  intro pins s σ H Q I h
  refine wpAny_Call_method_late hbase hfew hline rfl (thn (ho pins s σ H _ I h) fun v s1 ⟨x, H1, I1, r1, ty, q1⟩ => ?_)
  obtain ⟨h1, h2⟩ := tyV_is I1 r1 ty
  refine ⟨T, id, pa, slot, hty, h1, h2, ?_⟩
  have hA := ha cpos pins s1 σ H1 _ I1 q1
  rw [hs] at hA ⊢
  refine Calls.callWith_builtin (by show (false || (backTo cpos (starEach es X.env)).any (·.1)) = false; rw [hplain] <;> rfl) (Calls.evalArgs_plain ?_)
  exact thn hA fun us s2 ⟨vs, H2, I2, r2, q2⟩ => hm pins s2 σ H2 x vs v us Q I2 r1 r2 q2
/- xs.append(e), list.index on a module's tuple .. are MtR facts of 06m -/
end
end L2

namespace L2
open PySem PySem.Spec PyProof.Rows

def MtM (X : Cx) (id : String) (r : V → List V → Hp → VK → Prop) : Prop :=
  ∀ (pins : List (Addr × Obj)) (s : Shared) (σ : St) (H : Hp) (x : V) (xs : List V) (v : Value) (us : List Value) (Q : VK), Inv X pins σ H s → RelV x v → Vals xs us → r x xs H Q →
    wpAny (model X.prog X.w) X.A (call (.builtin id) (v :: us)) (EP X pins σ Q) X.xe s

/-! ### lists of values -/
theorem Vals.one : ∀ {x : V} {us : List Value}, Vals [x] us → ∃ u, us = [u] ∧ RelV x u
  | _, _, .cons r .nil => ⟨_, rfl, r⟩
theorem Vals.two : ∀ {x y : V} {us : List Value}, Vals [x, y] us → ∃ u v, us = [u, v] ∧ RelV x u ∧ RelV y v
  | _, _, _, .cons r (.cons q .nil) => ⟨_, _, rfl, r, q⟩
theorem Vals.zero : ∀ {us : List Value}, Vals [] us → us = []
  | _, .nil => rfl
theorem Vals.dropLast {xs : List V} {us : List Value} (h : Vals xs us) : Vals xs.dropLast us.dropLast := by
  induction h with
  | nil => exact .nil
  | cons r t ih =>
    cases t with
    | nil => exact .nil
    | cons q t' => exact .cons r ih
theorem Vals.eraseIdx : ∀ {xs : List V} {us : List Value} (i : Nat), Vals xs us → Vals (xs.eraseIdx i) (us.eraseIdx i)
  | _, _, _, .nil => .nil
  | _, _, 0, .cons _ t => t
  | _, _, i + 1, .cons r t => .cons r (Vals.eraseIdx i t)
theorem Vals.reverse {xs : List V} {us : List Value} (h : Vals xs us) : Vals xs.reverse us.reverse := by
  induction h with
  | nil => exact .nil
  | cons r t ih => rw [List.reverse_cons, List.reverse_cons]; exact Vals.append ih (.cons r .nil)
theorem Vals.rep {xs : List V} {us : List Value} (h : Vals xs us) : ∀ k : Nat, Vals (List.replicate k xs).flatten (List.replicate k us).flatten
  | 0 => .nil
  | k + 1 => by
    rw [List.replicate_succ, List.replicate_succ, List.flatten_cons, List.flatten_cons]
    exact Vals.append h (Vals.rep h k)
theorem erase_last {α : Type} (l : List α) : l.eraseIdx (l.length - 1) = l.dropLast := by
  induction l with
  | nil => rfl
  | cons a r ih =>
    cases r with
    | nil => rfl
    | cons b r =>
      have e : (a :: b :: r).length - 1 = ((b :: r).length - 1) + 1 := by
        have h1 : (a :: b :: r).length = r.length + 2 := rfl
        have h2 : (b :: r).length = r.length + 1 := rfl
        omega
      rw [e, List.eraseIdx_cons_succ, ih]
      all_goals rfl
theorem len_erase {α : Type} : ∀ (l : List α) (i : Nat), (l.eraseIdx i).length ≤ l.length
  | [], _ => Nat.le_refl _
  | _ :: _, 0 => Nat.le_succ _
  | _ :: r, i + 1 => Nat.succ_le_succ (len_erase r i)
theorem foldl_rep (its : List Value) : ∀ (k : Nat) (acc : List Value),
    List.foldl (fun x1 x2 => x1 ++ x2) acc.toArray (List.replicate k its.toArray) = (acc ++ (List.replicate k its).flatten).toArray
  | 0, acc => by simp
  | k + 1, acc => by
    have e : acc.toArray ++ its.toArray = (acc ++ its).toArray := by simp
    have e2 : (acc ++ its) ++ (List.replicate k its).flatten = acc ++ (List.replicate (k + 1) its).flatten := by
      rw [List.replicate_succ, List.flatten_cons, List.append_assoc]
    rw [← e2, ← foldl_rep its k (acc ++ its), ← e, List.replicate_succ, List.foldl_cons]

section
variable {X : Cx} {pins : List (Addr × Obj)} {σ : St} {H : Hp} {s : Shared} {l b : Addr} {xs ys zs : List V}

/-! ### the two steps: a tracked list is rewritten, a new list is laid -/
theorem Inv.lset {its its' : List Value} {n : Nat} {f : Array Value → Array Value} {t' : Nat} (I : Inv X pins σ H s) (hH : H l = some (.lst xs))
    (e : s.heap.get? l = some { cls := .type "list", data := .seq its.toArray n }) (hf : f its.toArray = its'.toArray) (hv : Vals ys its') (hz : ys.length ≤ sizeLine) :
    Inv X pins σ (upd H l (.lst ys)) { s with heap := s.heap.update l (Obj.mapSeq f), toks := t' } := by
  have q := PySem.IsL.update e f
  rw [hf] at q
  refine I.write (x := l) (e := l) (by rw [hH]; exact trivial) (.inl rfl) (fun b' u hb hu => (Heap.get?_update_other s.heap (Obj.mapSeq f) (Ne.symm hb)).trans hu) ⟨_, q⟩ ?_
  exact ⟨hz, its', _, hv, q⟩
theorem Inv.lnew {its : List Value} {t' : Nat} (I : Inv X pins σ H s) (hv : Vals ys its) (hz : ys.length ≤ sizeLine) :
    Inv X pins σ (upd H s.heap.objs.size (.lst ys)) { s with heap := s.heap.push { cls := .type "list", data := .seq its.toArray }, toks := t' } :=
  I.laid (fun _ _ q => Heap.get?_push_of_some _ q) (Nat.le_refl _) ⟨hz, its, 0, hv, Heap.get?_push_size _ rfl⟩
theorem Inv.fresh (I : Inv X pins σ H s) : H s.heap.objs.size = none := I.hok.fresh (Nat.le_refl _)
theorem Inv.lstM (I : Inv X pins σ H s) (hH : H l = some (.lst xs)) : xs.length ≤ sizeLine ∧ ∃ (its : List Value) (n : Nat), Vals xs its ∧ xs.length = its.length ∧ s.heap.get? l = some { cls := .type "list", data := .seq its.toArray n } := by
  obtain ⟨z, its, n, r, e⟩ := I.hok l _ hH
  exact ⟨z, its, n, r, r.length, e⟩

theorem notLongL {n : Nat} (h : n ≤ sizeLine) : Builtin.List.listTooLong n = false := by
  unfold Builtin.List.listTooLong
  exact decide_eq_false (by omega)
end

section
variable {X : Cx}

/-! ### methods -/
def rAppend : V → List V → Hp → VK → Prop := fun x vs H Q => ∃ l xs y, x = .ref l ∧ vs = [y] ∧ H l = some (.lst xs) ∧ xs.length < sizeLine ∧ Q .non (upd H l (.lst (xs ++ [y])))
theorem mt_append : MtM X "list.append" rAppend := by
  intro pins s σ H x vs v us Q I rx rv h
  obtain ⟨l, xs, y, rfl, rfl, hH, hz, q⟩ := h
  cases rx
  obtain ⟨u, rfl, ru⟩ := rv.one
  obtain ⟨z, its, n, r, hl, e⟩ := I.lstM hH
  refine call_meets F.slot_list_append ⟨_, e, rfl⟩ F.entry_list_append (F.args_list_append_2 _ _) (PySem.list_append l its.toArray n u (by rw [List.size_toArray]; omega)) ⟨e, ?_⟩
  refine ⟨.non, _, I.lset (its' := its ++ [u]) hH e (by simp) (r.append (.cons ru .nil)) ?_, rfl, q⟩
  rw [List.length_append, List.length_singleton]
  omega

def rExtend : V → List V → Hp → VK → Prop := fun x vs H Q => ∃ l b xs zs, x = .ref l ∧ vs = [.ref b] ∧ H l = some (.lst xs) ∧ H b = some (.lst zs) ∧ xs.length + zs.length ≤ sizeLine ∧ Q .non (upd H l (.lst (xs ++ zs)))
theorem mt_extend : MtM X "list.extend" rExtend := by
  intro pins s σ H x vs v us Q I rx rv h
  obtain ⟨l, b, xs, zs, rfl, rfl, hH, hB, hz, q⟩ := h
  cases rx
  obtain ⟨u, rfl, ru⟩ := rv.one
  cases ru
  obtain ⟨z, its, n, r, hl, e⟩ := I.lstM hH
  obtain ⟨z2, its2, n2, r2, hl2, e2⟩ := I.lstM hB
  have hsz : its.toArray.size + its2.toArray.size ≤ sizeLine := by rw [List.size_toArray, List.size_toArray]; omega
  have hlong : ¬ (!its.toArray.isEmpty && Builtin.List.listTooLong (its.toArray.size + its2.toArray.size)) = true := by
    rw [notLongL hsz, Bool.and_false]
    exact Bool.false_ne_true
  refine call_meets F.slot_list_extend ⟨_, e, rfl⟩ F.entry_list_extend (F.args_list_extend_2 _ _)
    (AutoSeq1.list_extend_list_list_0 l its.toArray n b its2.toArray n2 hlong (by rw [List.size_toArray]; omega) (by omega)) ⟨e, e2, ?_⟩
  refine ⟨.non, _, I.lset (its' := its ++ its2) hH e (by simp) (r.append r2) ?_, rfl, q⟩
  rw [List.length_append]
  omega

def rPop : V → List V → Hp → VK → Prop := fun x vs H Q => ∃ l xs y, x = .ref l ∧ vs = [] ∧ H l = some (.lst xs) ∧ xs[xs.length - 1]? = some y ∧ Q y (upd H l (.lst xs.dropLast))
theorem mt_pop : MtM X "list.pop" rPop := by
  intro pins s σ H x vs v us Q I rx rv h
  obtain ⟨l, xs, y, rfl, rfl, hH, hy, q⟩ := h
  cases rx
  have hus := rv.zero
  subst hus
  obtain ⟨z, its, n, r, hl, e⟩ := I.lstM hH
  obtain ⟨u, hu, ru⟩ := r.get hy
  have hy' : its.toArray[its.toArray.size - 1]? = some u := by
    show its.toArray[its.length - 1]? = some u
    rw [← Array.getElem?_toList, ← hl]
    exact hu
  refine call_meets F.slot_list_pop ⟨_, e, rfl⟩ F.entry_list_pop (F.args_list_pop_1 _) (MeetsSeq.list_pop_last l its.toArray n u hy' (by rw [List.size_toArray]; omega)) ⟨e, ?_⟩
  refine ⟨y, _, I.lset (its' := its.dropLast) hH e ?_ r.dropLast ?_, ru, q⟩
  · show its.toArray.eraseIdxIfInBounds (its.toArray.size - 1) = its.dropLast.toArray
    rw [List.size_toArray, List.eraseIdxIfInBounds_toArray, erase_last]
  · rw [List.length_dropLast]
    omega

def rPopAt : V → List V → Hp → VK → Prop := fun x vs H Q => ∃ l xs i k y, x = .ref l ∧ vs = [.int i] ∧ H l = some (.lst xs) ∧ -(2 ^ 63) ≤ i ∧ i < 2 ^ 63 ∧ seqIndex? i xs.length = some k ∧ xs[k]? = some y ∧ Q y (upd H l (.lst (xs.eraseIdx k)))
theorem mt_popAt : MtM X "list.pop" rPopAt := by
  intro pins s σ H x vs v us Q I rx rv h
  obtain ⟨l, xs, i, k, y, rfl, rfl, hH, h1, h2, hk, hy, q⟩ := h
  cases rx
  obtain ⟨u, rfl, ru⟩ := rv.one
  obtain ⟨t, rfl⟩ := ru
  obtain ⟨z, its, n, r, hl, e⟩ := I.lstM hH
  obtain ⟨w, hw, rw'⟩ := r.get hy
  refine call_meets F.slot_list_pop ⟨_, e, rfl⟩ F.entry_list_pop (F.args_list_pop_2 _ _)
    (MeetsSeq.list_pop_at l its.toArray n i t k w (fitsIndex_both h1 h2) (by rw [List.size_toArray, ← hl]; exact hk) (by rw [← Array.getElem?_toList]; exact hw) (by rw [List.size_toArray]; omega)) ⟨e, ?_⟩
  refine ⟨y, _, I.lset (its' := its.eraseIdx k) hH e ?_ (r.eraseIdx k) ?_, rw', q⟩
  · show its.toArray.eraseIdxIfInBounds k = (its.eraseIdx k).toArray
    rw [List.eraseIdxIfInBounds_toArray]
  · have := len_erase xs k
    omega

def rReverse : V → List V → Hp → VK → Prop := fun x vs H Q => ∃ l xs, x = .ref l ∧ vs = [] ∧ H l = some (.lst xs) ∧ Q .non (upd H l (.lst xs.reverse))
theorem mt_reverse : MtM X "list.reverse" rReverse := by
  intro pins s σ H x vs v us Q I rx rv h
  obtain ⟨l, xs, rfl, rfl, hH, q⟩ := h
  cases rx
  have hus := rv.zero
  subst hus
  obtain ⟨z, its, n, r, hl, e⟩ := I.lstM hH
  refine call_meets F.slot_list_reverse ⟨_, e, rfl⟩ F.entry_list_reverse (F.args_list_reverse_1 _) (AutoSeq1.list_reverse_list_0 l its.toArray n (by rw [List.size_toArray]; omega)) ⟨e, ?_⟩
  refine ⟨.non, _, I.lset (its' := its.reverse) hH e (by simp) r.reverse ?_, rfl, q⟩
  rw [List.length_reverse]
  omega

def rClear : V → List V → Hp → VK → Prop := fun x vs H Q => ∃ l xs, x = .ref l ∧ vs = [] ∧ H l = some (.lst xs) ∧ Q .non (upd H l (.lst []))
theorem mt_clear : MtM X "list.clear" rClear := by
  intro pins s σ H x vs v us Q I rx rv h
  obtain ⟨l, xs, rfl, rfl, hH, q⟩ := h
  cases rx
  have hus := rv.zero
  subst hus
  obtain ⟨z, its, n, r, hl, e⟩ := I.lstM hH
  refine call_meets F.slot_list_clear ⟨_, e, rfl⟩ F.entry_list_clear (F.args_list_clear_1 _) (AutoSeq1.list_clear_list_0 l its.toArray n (by rw [List.size_toArray]; omega)) ⟨e, ?_⟩
  exact ⟨.non, _, I.lset (its' := []) (ys := []) hH e rfl .nil (Nat.zero_le _), rfl, q⟩

/-! ### list + list, list += list, list * int -/
def rCat : R2 := fun x y H Q => ∃ l b xs zs, x = .ref l ∧ y = .ref b ∧ H l = some (.lst xs) ∧ H b = some (.lst zs) ∧ xs.length + zs.length ≤ sizeLine ∧ ∀ p, H p = none → Q (.ref p) (upd H p (.lst (xs ++ zs)))
theorem op_cat : OpR X (binaryOp .Add) rCat := by
  intro pins s σ H x y v u Q I rx ry h
  obtain ⟨l, b, xs, zs, rfl, rfl, hH, hB, hz, q⟩ := h
  cases rx
  cases ry
  obtain ⟨z, its, n, r, hl, e⟩ := I.lstM hH
  obtain ⟨z2, its2, n2, r2, hl2, e2⟩ := I.lstM hB
  refine PySem.P.add_list e e2 ?_ (by rw [List.size_toArray, List.size_toArray]; omega)
  have ea : its.toArray ++ its2.toArray = (its ++ its2).toArray := by simp
  rw [ea]
  exact ⟨.ref _, _, I.lnew (t' := s.toks) (r.append r2) (by rw [List.length_append]; omega), rfl, q _ I.fresh⟩
/-- a list times an int (a negative one is nothing) -/
def rRep : R2 := fun x y H Q => ∃ l k xs, x = .ref l ∧ y = .int k ∧ H l = some (.lst xs) ∧ -(2 ^ 63) ≤ k ∧ k < 2 ^ 63 ∧ xs.length * k.toNat ≤ sizeLine ∧
  ∀ p, H p = none → Q (.ref p) (upd H p (.lst (List.replicate k.toNat xs).flatten))
theorem len_rep {α : Type} (xs : List α) (k : Nat) : (List.replicate k xs).flatten.length = k * xs.length := by
  induction k with
  | zero => simp
  | succ k ih => rw [List.replicate_succ, List.flatten_cons, List.length_append, ih, Nat.succ_mul, Nat.add_comm]
theorem op_rep : OpR X (binaryOp .Mult) rRep := by
  intro pins s σ H x y v u Q I rx ry h
  obtain ⟨l, k, xs, rfl, rfl, hH, h1, h2, hz, q⟩ := h
  cases rx
  obtain ⟨t, rfl⟩ := ry
  obtain ⟨z, its, n, r, hl, e⟩ := I.lstM hH
  have hlen : its.toArray.size * k.toNat ≤ sizeLine := by rw [List.size_toArray, ← hl]; exact hz
  have hcap : ¬ its.toArray.size * k.toNat > (2 ^ 63 - 1) / 8 := by
    have : (sizeLine : Nat) ≤ (2 ^ 63 - 1) / 8 := by decide
    omega
  have hfit : ¬ (!Builtin.List.listFitsIndex k) = true := by
    rw [fitsIndex_both h1 h2]
    exact Bool.false_ne_true
  have hlong : ¬ Builtin.List.listTooLong (its.toArray.size * k.toNat) = true := by
    rw [notLongL hlen]
    exact Bool.false_ne_true
  have hnew : List.foldl (fun x1 x2 => x1 ++ x2) #[] (List.replicate (if its.toArray.isEmpty = true then 0 else k.toNat) its.toArray) = (List.replicate k.toNat its).flatten.toArray := by
    have f0 : ∀ m : Nat, List.foldl (fun x1 x2 => x1 ++ x2) #[] (List.replicate m its.toArray) = (List.replicate m its).flatten.toArray := fun m => by
      have := foldl_rep its m []
      rw [List.nil_append] at this
      exact this
    rw [f0]
    cases its with
    | nil => simp
    | cons a r' => rw [if_neg (by simp)]
  refine wpAny_binaryOp_repeat_ref (T := "list") (U := "int") (by decide) ⟨_, e, rfl⟩ (fun s' => typeIs_int s' k t) noFill_list_mul F.fills_int_mul F.slot_int_rmul repeat_list F.slot_int_index.lookup
    (call_meets F.slot_int_rmul (typeIs_int s k t) F.entry_int_rmul (F.args_int_rmul_2 _ _) (int___rmul___int_list k t l its.toArray n)
      ⟨e, rfl, ⟨_, e, rfl⟩, call_meets F.slot_list_mul ⟨_, e, rfl⟩ F.entry_list_mul (F.args_list_mul_2 _ _) (AutoListH.list___mul___list_int_3 l its.toArray n k t hfit hcap hlong) ⟨e, ?_⟩⟩)
  rw [hnew]
  exact ⟨.ref _, _, I.lnew (t' := s.toks) (r.rep k.toNat) (by rw [len_rep, Nat.mul_comm]; exact hz), rfl, q _ I.fresh⟩

/-! ### del xs[i] -/
theorem del_list {pins : List (Addr × Obj)} {s : Shared} {σ : St} {H : Hp} {l : Addr} {xs : List V} {i : Int} {t : Tok} {k : Nat} {Q : Unit → Shared → Prop} (I : Inv X pins σ H s) (hH : H l = some (.lst xs))
    (h1 : -(2 ^ 63) ≤ i) (h2 : i < 2 ^ 63) (hk : seqIndex? i xs.length = some k) (h : ∀ s', Inv X pins σ (upd H l (.lst (xs.eraseIdx k))) s' → Q () s') :
    wpAny (model X.prog X.w) X.A (delItem (.ref l) (.int i t)) Q X.xe s := by
  obtain ⟨z, its, n, r, hl, e⟩ := I.lstM hH
  refine PySem.P.delItem_list (k := k) e (fitsIndex_both h1 h2) (by rw [List.size_toArray, ← hl]; exact hk) (h _ ?_) (by rw [List.size_toArray]; omega)
  refine I.lset (its' := its.eraseIdx k) (t' := s.toks) hH e ?_ (r.eraseIdx k) ?_
  · show its.toArray.eraseIdxIfInBounds k = (its.eraseIdx k).toArray
    rw [List.eraseIdxIfInBounds_toArray]
  · have := len_erase xs k
    omega
end

/-! ### xs[a:b] = ys -/
section
variable {prog : Program} {w : World} {A : Around} {E : Value → Shared → Prop} {s : Shared}
theorem splice_eq (its its2 : List Value) (a c : Nat) : its.toArray.extract 0 a ++ its2.toArray ++ its.toArray.extract c its.toArray.size = (its.take a ++ its2 ++ its.drop c).toArray := by
  apply Array.toList_inj.mp
  first
    | (simp
       exact List.take_of_length_le (by simp))
    | simp [List.take_of_length_le]
    | simp
theorem bounds_run {a c n : Nat} (hac : a ≤ c) (hc : c ≤ n) : sliceBounds (some (a : Int)) (some (c : Int)) none n = ((a : Int), (c : Int), 1) := by
  simp only [sliceBounds, Option.getD_none]
  have h1 : ¬ ((a : Int) < 0) := by omega
  have h2 : ¬ ((c : Int) < 0) := by omega
  simp only [h1, h2, if_false, show (1 : Int) > 0 by decide, if_true]
  congr 1
  · omega
  · congr 1; omega
/-- list.__setitem__ with a slice of step one and another list -/
theorem setItem_slice {l b sl : Addr} {items new : Array Value} {n n2 : Nat} {vl vu : Value} {a c : Nat} {Q : Unit → Shared → Prop}
    (e : s.heap.get? l = some { cls := .type "list", data := .seq items n }) (e2 : s.heap.get? b = some { cls := .type "list", data := .seq new n2 }) (hne : l ≠ b)
    (hs : s.heap.IsSliceOf sl vl vu .none) (pl : IsPart vl (some (a : Int))) (pu : IsPart vu (some (c : Int))) (hac : a ≤ c) (hc : c ≤ items.size)
    (hsz : items.size + new.size ≤ sizeLine) (h : Q () { s with heap := s.heap.update l (Obj.mapSeq fun xs => xs.extract 0 a ++ new ++ xs.extract c xs.size) }) :
    wpAny (model prog w) A (setItem (.ref l) (.ref sl) (.ref b)) Q E s := by
  have hl : s.heap.IsList l items := PySem.IsL.isList e
  have hb : s.heap.IsList b new := PySem.IsL.isList e2
  obtain ⟨os, hos, hcs, hds⟩ := id hs
  have hTs : s.TypeIs (.ref sl) "slice" := ⟨os, hos, hcs⟩
  have hstep : ¬ ((rawPart none == rawInt 0) = true) := Bool.false_ne_true
  have hsame : Builtin.List.listSameRef (.ref l) (.ref b) = false := by
    unfold Builtin.List.listSameRef
    exact beq_eq_false_iff_ne.mpr hne
  have hmax : (max (a : Int) (c : Int)).toNat = c := by omega
  have hz' : ((fun xs : Array Value => xs.extract 0 a ++ new ++ xs.extract c xs.size) items).size ≤ sizeLine + 1 := by
    simp only [Array.size_append, Array.size_extract]
    omega
  unfold setItem
  try with_reducible refine wpAny_holding ?_
  first | refine wpAny_bind (wpAny_pure ?_) | skip
  refine wpAny_bind (wpAny_sequenceKey hl.typeIs (by decide) ?_)
  refine wpAny_bind (wpAny_callSpecial?_slot (name := Str.ofString "__setitem__") hl.typeIs slot_list_setitem
    (wpAny_call_entry slot_list_setitem hl.typeIs entry_list_setitem ?_ (args_list_setitem _ _ _)))
  show wpAny _ _ (Builtin.List.listSubscript? (.ref sl) >>= _) _ _ s
  refine wpAny_bind ?_
  unfold Builtin.List.listSubscript?
  refine wpAny_bind (wpAny_specialOf hTs slice_no_index ?_)
  simp only [Option.isNone_none, if_true]
  refine wpAny_pure ?_
  show wpAny _ _ (typeOf (.ref sl) >>= _) _ _ s
  refine wpAny_bind (wpAny_typeOf hTs ?_)
  first
    | rw [if_neg (by decide)]
    | refine PySem.W.KFB.if_not (by decide) ?_
  rw [listSliceParts_eq]
  refine wpAny_bind (wpAny_bind (wpAny_field hos hds (x := .none) rfl (wpAny_bind (wpAny_listPart .none ?_))))
  rw [if_neg hstep]
  refine wpAny_bind (wpAny_field hos hds (x := vl) rfl (wpAny_bind (wpAny_listPart pl ?_)))
  refine wpAny_bind (wpAny_field hos hds (x := vu) rfl (wpAny_bind (wpAny_listPart pu (wpAny_pure ?_))))
  first
    | simp only [hsame, Bool.false_eq_true, if_false]
    | refine PySem.W.KFB.if_not hsame ?_
    | (dsimp only
       rw [if_neg (by rw [hsame]; exact Bool.false_ne_true)])
  refine wpAny_bind (m := Builtin.List.listAllItems (.ref b) "must assign iterable to extended slice") ?_
  unfold Builtin.List.listAllItems
  refine wpAny_bind (wpAny_typeOf hb.typeIs ?_)
  first
    | refine PySem.W.KFB.if_so (by decide) ?_
    | rw [if_pos (by decide)]
    | simp only [beq_self_eq_true, Bool.true_or, if_true]
  unfold Builtin.List.listItems
  refine wpAny_bind (wpAny_seqItems e2 rfl (wpAny_pure ?_))
  refine wpAny_bind (wpAny_bind (wpAny_seqItems e rfl (wpAny_pure ?_)))
  refine wpAny_bind (wpAny_of_eq ((sliceIndices_raw (some (a : Int)) (some (c : Int)) none items.size (by simp)).trans (congrArg (pure : Int × Int × Int → Sem (Int × Int × Int)) (bounds_run hac hc))) ?_)
  show wpAny _ _ (if ((1 : Int) == 1) = true then _ else _) _ _ s
  rw [if_pos (by decide)]
  refine wpAny_bind (wpAny_rule ?_)
  first
    | simp only [notLongL hsz, Bool.false_eq_true, if_false]
    | refine PySem.W.KFB.if_not (notLongL hsz) ?_
  first | refine wpAny_bind (wpAny_pure ?_) | skip
  show wpAny _ _ (updateSeq l (fun xs => xs.extract 0 ((a : Int)).toNat ++ new ++ xs.extract (max (a : Int) (c : Int)).toNat xs.size) >>= _) _ _ s
  rw [hmax, Int.toNat_natCast]
  refine wpAny_bind (wpAny_updateSeq (hz := Nat.le_trans (Nat.le_add_right _ _) hsz) (_hz' := hz') e rfl ?_)
  refine wpAny_bind (wpAny_letGo ?_)
  first
    | exact wpAny_bind (wpAny_pure (wpAny_pure ⟨.none, rfl, wpAny_pure h⟩))
    | exact wpAny_pure ⟨.none, rfl, wpAny_pure h⟩
end

section
variable {X : Cx}
/-- xs[a:c] = ys of another list, at the value level: sl is the slice object that was just made -/
theorem set_slice {pins : List (Addr × Obj)} {s : Shared} {σ : St} {H : Hp} {l b sl : Addr} {xs ys : List V} {a c : Int} {vl vu : Value} {Q : Unit → Shared → Prop} (I : Inv X pins σ H s)
    (hH : H l = some (.lst xs)) (hB : H b = some (.lst ys)) (hne : l ≠ b) (hs : s.heap.IsSliceOf sl vl vu .none) (ra : RelV (.int a) vl) (rc : RelV (.int c) vu) (h0 : 0 ≤ a) (hac : a ≤ c) (hc : c ≤ xs.length)
    (hz : xs.length + ys.length ≤ sizeLine) (h : ∀ s', Inv X pins σ (upd H l (.lst (xs.take a.toNat ++ ys ++ xs.drop c.toNat))) s' → Q () s') :
    wpAny (model X.prog X.w) X.A (setItem (.ref l) (.ref sl) (.ref b)) Q X.xe s := by
  obtain ⟨ta, rfl⟩ := ra
  obtain ⟨tc, rfl⟩ := rc
  obtain ⟨z, its, n, r, hl, e⟩ := I.lstM hH
  obtain ⟨z2, its2, n2, r2, hl2, e2⟩ := I.lstM hB
  obtain ⟨a', rfl⟩ := Int.eq_ofNat_of_zero_le h0
  obtain ⟨c', rfl⟩ := Int.eq_ofNat_of_zero_le (Int.le_trans h0 hac)
  simp only [Int.toNat_natCast] at h
  refine setItem_slice (a := a') (c := c') e e2 hne hs (.int _ _) (.int _ _) (by omega) (by rw [List.size_toArray]; omega) (by rw [List.size_toArray, List.size_toArray]; omega) (h _ ?_)
  refine I.lset (its' := its.take a' ++ its2 ++ its.drop c') (t' := s.toks) hH e ?_ (Vals.append (Vals.append (r.take _) r2) (r.drop _)) ?_
  · exact splice_eq its its2 a' c'
  · rw [List.length_append, List.length_append, List.length_take, List.length_drop]
    omega
end
end L2

namespace Att
open PySem PySem.W PySem.Calls PyProof.Rows

/-! ### the script -/
theorem ints_of_wellAll {P : Params} {h : Heap} : ∀ (ns : List Int) (vs : List Value), WellAll P h vs (ns.map WData.int) → IntsAre vs ns := by
  intro ns
  induction ns with
  | nil =>
    intro vs w
    rw [List.map_nil] at w
    cases w
    exact .nil
  | cons n ns ih =>
    intro vs w
    rw [List.map_cons] at w
    cases w with
    | cons a b =>
      cases a
      exact .cons _ _ (ih _ b)

theorem script_of {l : OpenLaw} {n : Nat} (hn : l.most = some n) {P : Params} {h : Heap} {args : List WData} {vals : List Value}
    (hpre : l.row.toRowW.claim.pre args = true) (hwl : WellAll P h vals args) :
    ∃ a vs ns, vals = [Value.ref a] ∧ args = [WData.list (ns.map WData.int)] ∧ h.get? a = some { cls := .type "list", data := .seq vs.toArray } ∧ IntsAre vs ns ∧ ns.length ≤ n := by
  have hsh : WShape.hasAll [] args [.list .int] = true := (pre_splitW hpre).1
  have hc : l.pre.holds [] { args := args } = true := (pre_splitW hpre).2
  obtain ⟨d, r, rfl, h1, h2⟩ := hasAllW_cons hsh
  obtain rfl := hasAllW_nil h2
  obtain ⟨xs, rfl, h3⟩ := hasW_list h1
  obtain ⟨ns, rfl⟩ := items_int h3
  have hlen : ns.length ≤ n := by
    unfold OpenLaw.pre at hc
    have h4 : (WTm.not (.lt (.lit (.int (n : Int))) (.len (.arg 0)))).holds [] { args := [.list (ns.map .int)] } = true := by
      have h4 := (holds_andW hc).1
      rw [hn] at h4
      exact h4
    have h5 := condW_of h4 (w_not (w_lt w_lit (w_len_list (w_arg rfl))))
    rw [List.length_map] at h5
    refine Nat.le_of_not_lt fun q => ?_
    have q' : (n : Int) < ((ns.length : Nat) : Int) := by omega
    first
      | (rw [decide_eq_true q'] at h5; exact absurd h5 (by decide))
      | (simp at h5; omega)
  cases hwl with
  | cons w1 w2 =>
    cases w2
    cases w1 with
    | list ho hall => exact ⟨_, _, ns, rfl, rfl, ho, ints_of_wellAll ns _ hall, hlen⟩

theorem post_true (l : OpenLaw) (args : List WData) : l.row.toRowW.claim.post args (.bool true) args = true :=
  postW_of (r := l.row.toRowW) (X := (true == true))
    (show WShape.has [] (.bool true) .bool = true by first | rfl | decide | simp [WShape.has, WShape.arms, WShape.armsAll])
    (show (WTm.eq .res (.lit (.bool true))).value [] { args := args, res := some (.bool true), after := args } = some (.bool (true == true)) from w_eq_bool (w_res rfl) w_lit) rfl

/-! ### the attachment: holds_open's last premise (the goal 'hc' behind k_head) from a wpAny of the law's body -/
theorem attach {l : OpenLaw} {n : Nat} {q : Program} {loose : List Str} {XP : (Str → Option Value) → Heap → Prop} {YP : World → Heap → Prop} {d : DefRec} {x : Str}
    (hn : l.most = some n) (hdf : d.params.defaults = [])
    (hbind : ∀ pm cd doc v : Value, bindArgs (docDef d.name d.params d.body d.scope pm cd doc) ⟨[v], []⟩ = pure [(x, v)])
    (hx : d.scope.names.lookup x = some .local ∨ d.scope.names.lookup x = some .cell)
    (hk : d.scope.kind = .function) (hco : d.scope.isCoroutine = false) (hgen : d.scope.isGenerator = false)
    (body : ∀ (w : World) (s₀ s₁ s : Shared) (mg mb : Str → Option Value) (fa : Addr) (o : Obj) (pm cd doc : Value) (a : Addr) (vs : List Value) (ns : List Int),
      Ground q loose [] XP w s₀ mg mb s₁.heap → YP w s₁.heap →
      s₁.heap.get? fa = some o → o.data = .func (docDef d.name d.params d.body d.scope pm cd doc) → s₁.heap.CodeRec cd d.name → mg d.name = some (.ref fa) →
      s₁.heap.get? a = some { cls := .type "list", data := .seq vs.toArray } → IntsAre vs ns → ns.length ≤ n →
      s.gens = #[] → s.os = s₁.os →
      Fr s₁.heap s₁.heap.objs.size s.heap (bindL (envOfC d.name d.scope s₁.heap.objs.size fa cd).kindOf [(x, .ref a)] fun _ => none) →
      Cl s₁.heap.objs.size (cellsFrom (s₁.heap.objs.size + 1) d.scope.names []) s.heap (bindC (envOfC d.name d.scope s₁.heap.objs.size fa cd).kindOf [(x, .ref a)] fun _ => none) →
      wpAny (model l.prog w) (callerA.deeper (envOfC d.name d.scope s₁.heap.objs.size fa cd)) (execs d.body (envOfC d.name d.scope s₁.heap.objs.size fa cd))
        (fun f s' => f = .ret (.bool true) ∧ OldK s₁.heap s'.heap ∧ s'.os = s₁.os ∧ AllBare s'.gens) (fun _ _ => False) s) :
    WalkO q loose XP YP l.row.toRowW d [] (fun f vs => PySem.call f vs) := by
  intro w s₀ s₁ mg mb G Y fa o pm cd doc dV kV ho hd hcd hD hmg hg args vals as hpre hlay hrd hwl hlo
  obtain rfl : dV = .none := Dflts.none hD hdf
  obtain rfl : kV = .none := Dflts.noKw hD
  obtain ⟨a, vs, ns, rfl, rfl, hobj, hints, hlen⟩ := script_of hn hpre hwl
  refine enter_call ?_
  refine call_cells_ret (o := o) (by rw [depth_caller]; decide) ho (fd_plain hd) G.T.nolimit hcd (hbind pm cd doc (.ref a)) (fun y hy => ?_) (fun h₁ tk F X => ?_) hco hgen hk
  · obtain rfl : y = (x, Value.ref a) := List.mem_singleton.mp hy
    rcases hx with e | e
    · exact .inl e
    · exact .inr ⟨e, cellsFrom_some _ _ _ (.inl e)⟩
  · refine wpAny_mono (body w s₀ s₁ { s₁ with heap := h₁, toks := tk } mg mb fa o pm cd doc a vs ns G Y ho (fd_plain hd) hcd hmg hobj hints hlen hg rfl F X) (fun f s' hq => ?_) (fun _ _ hq => hq)
    obtain ⟨rfl, h2, h3, h4⟩ := hq
    exact ⟨.inl ⟨.bool true, .bool true, [], rfl, fun _ => rfl, .bool true, post_true l _, fun _ => ⟨List.Pairwise.nil, fun _ hm => (nomatch hm)⟩⟩, h2, h3, h4⟩

/-- the same from a codeAny of the CALL (for a layer whose function contracts speak of calls) -/
theorem attach_call {l : OpenLaw} {n : Nat} {q : Program} {loose : List Str} {XP : (Str → Option Value) → Heap → Prop} {YP : World → Heap → Prop} {d : DefRec}
    (hn : l.most = some n) (hdf : d.params.defaults = [])
    (call : ∀ (w : World) (s₀ s₁ : Shared) (mg mb : Str → Option Value) (fa : Addr) (o : Obj) (pm cd doc : Value) (a : Addr) (vs : List Value) (ns : List Int),
      Ground q loose [] XP w s₀ mg mb s₁.heap → YP w s₁.heap →
      s₁.heap.get? fa = some o → o.data = .func (docDef d.name d.params d.body d.scope pm cd doc) → s₁.heap.CodeRec cd d.name → mg d.name = some (.ref fa) →
      s₁.heap.get? a = some { cls := .type "list", data := .seq vs.toArray } → IntsAre vs ns → ns.length ≤ n → s₁.gens = #[] →
      codeAny (model l.prog w) callerA (.call (.ref fa) ⟨[.ref a], []⟩) (fun r s' => r = .ok (.ret (.bool true)) ∧ OldK s₁.heap s'.heap ∧ s'.os = s₁.os ∧ AllBare s'.gens) s₁) :
    WalkO q loose XP YP l.row.toRowW d [] (fun f vs => PySem.call f vs) := by
  intro w s₀ s₁ mg mb G Y fa o pm cd doc dV kV ho hd hcd hD hmg hg args vals as hpre hlay hrd hwl hlo
  obtain rfl : dV = .none := Dflts.none hD hdf
  obtain rfl : kV = .none := Dflts.noKw hD
  obtain ⟨a, vs, ns, rfl, rfl, hobj, hints, hlen⟩ := script_of hn hpre hwl
  refine enter_call (codeAny_mono (call w s₀ s₁ mg mb fa o pm cd doc a vs ns G Y ho (fd_plain hd) hcd hmg hobj hints hlen hg) fun r s' hq => ?_)
  obtain ⟨rfl, h2, h3, h4⟩ := hq
  exact ⟨.inl ⟨.bool true, .bool true, [], rfl, fun _ => rfl, .bool true, post_true l _, fun _ => ⟨List.Pairwise.nil, fun _ hm => (nomatch hm)⟩⟩, h2, h3, h4⟩

/-- the same where the top left finished generators (o_head chose holds_openN): nothing may have changed at all and no generator may be left -/
theorem attachN {l : OpenLaw} {n : Nat} {q : Program} {loose : List Str} {XP : (Str → Option Value) → Heap → Prop} {YP : World → Heap → Prop} {d : DefRec} {x : Str}
    (hn : l.most = some n) (hdf : d.params.defaults = [])
    (hbind : ∀ pm cd doc v : Value, bindArgs (docDef d.name d.params d.body d.scope pm cd doc) ⟨[v], []⟩ = pure [(x, v)])
    (hx : d.scope.names.lookup x = some .local ∨ d.scope.names.lookup x = some .cell)
    (hk : d.scope.kind = .function) (hco : d.scope.isCoroutine = false) (hgen : d.scope.isGenerator = false)
    (body : ∀ (w : World) (s₀ s₁ s : Shared) (mg mb : Str → Option Value) (fa : Addr) (o : Obj) (pm cd doc : Value) (a : Addr) (vs : List Value) (ns : List Int),
      Ground q loose [] XP w s₀ mg mb s₁.heap → YP w s₁.heap →
      s₁.heap.get? fa = some o → o.data = .func (docDef d.name d.params d.body d.scope pm cd doc) → s₁.heap.CodeRec cd d.name → mg d.name = some (.ref fa) →
      s₁.heap.get? a = some { cls := .type "list", data := .seq vs.toArray } → IntsAre vs ns → ns.length ≤ n →
      s.gens = #[] → s.os = s₁.os →
      Fr s₁.heap s₁.heap.objs.size s.heap (bindL (envOfC d.name d.scope s₁.heap.objs.size fa cd).kindOf [(x, .ref a)] fun _ => none) →
      Cl s₁.heap.objs.size (cellsFrom (s₁.heap.objs.size + 1) d.scope.names []) s.heap (bindC (envOfC d.name d.scope s₁.heap.objs.size fa cd).kindOf [(x, .ref a)] fun _ => none) →
      wpAny (model l.prog w) (callerA.deeper (envOfC d.name d.scope s₁.heap.objs.size fa cd)) (execs d.body (envOfC d.name d.scope s₁.heap.objs.size fa cd))
        (fun f s' => f = .ret (.bool true) ∧ (∀ b o, s₁.heap.get? b = some o → s'.heap.get? b = some o) ∧ s'.os = s₁.os ∧ s'.gens = #[]) (fun _ _ => False) s) :
    WalkN q loose XP YP l.row.toRowW d [] (fun f vs => PySem.call f vs) := by
  intro w s₀ s₁ mg mb G Y fa o pm cd doc dV kV ho hd hcd hD hmg hg args vals as hpre hlay hrd hwl hlo
  obtain rfl : dV = .none := Dflts.none hD hdf
  obtain rfl : kV = .none := Dflts.noKw hD
  obtain ⟨a, vs, ns, rfl, rfl, hobj, hints, hlen⟩ := script_of hn hpre hwl
  refine enter_callW ?_
  refine call_cells_ret (o := o) (by rw [depth_caller]; decide) ho (fd_plain hd) G.T.nolimit hcd (hbind pm cd doc (.ref a)) (fun y hy => ?_) (fun h₁ tk F X => ?_) hco hgen hk
  · obtain rfl : y = (x, Value.ref a) := List.mem_singleton.mp hy
    rcases hx with e | e
    · exact .inl e
    · exact .inr ⟨e, cellsFrom_some _ _ _ (.inl e)⟩
  · refine wpAny_mono (body w s₀ s₁ { s₁ with heap := h₁, toks := tk } mg mb fa o pm cd doc a vs ns G Y ho (fd_plain hd) hcd hmg hobj hints hlen hg rfl F X) (fun f s' hq => ?_) (fun _ _ hq => hq)
    obtain ⟨rfl, h2, h3, h4⟩ := hq
    exact ⟨.inl ⟨.bool true, .bool true, [], rfl, fun _ => rfl, .bool true, post_true l _, fun _ => ⟨List.Pairwise.nil, fun _ hm => (nomatch hm)⟩⟩, h2, h3, h4⟩

/-! ### rules over ANY heap (no ledger) from facts about the written part K: the library's own take a ledger (News) for what they write -/
section
variable {prog : Program} {w : World} {A : Around} {E : Value → Shared → Prop} {s : Shared} {K : Frag}

/-- a def of the module, or a method (qual 'C.m'), entered: the frame is the next address; cells behind it -/
theorem call_fn {R : Result → Shared → Prop} {name qual : Str} {params : Arguments} {body : List Stmt} {scope : Scope} {dV kV doc pm cdv ct oc : Value} {an od : Option Addr} {osl : Array (Option Value)} {f : Addr} {args : Args} {binds : List (Str × Value)}
    (X : K.In s.heap) (hlim : s.heap.NoLimit) (ho : K.lookup f = some ⟨oc, od, .func (fnOf name qual params body scope dV kV doc pm an cdv ct), osl⟩) (hcd : codeIn K cdv qual = true) (hroom : A.depth < recursionLimit)
    (hbind : BindsTo s (fnOf name qual params body scope dV kV doc pm an cdv ct) args binds)
    (hkind : (binds.all fun y => scope.names.lookup y.1 == some .local || scope.names.lookup y.1 == some .cell) = true)
    (h : ∀ s₁, InCallC s s.heap.objs.size (bindL (envOfC qual scope s.heap.objs.size f cdv).kindOf binds fun _ => none) (cellsFrom (s.heap.objs.size + 1) scope.names [])
        (bindC (envOfC qual scope s.heap.objs.size f cdv).kindOf binds fun _ => none) s₁ →
      wpAny (model prog w) (A.deeper (envOfC qual scope s.heap.objs.size f cdv)) (execs body (envOfC qual scope s.heap.objs.size f cdv))
        (fun fl s' => R (.ok (.ret (match fl with | .ret v => v | _ => .none))) s')
        (fun e s' => wpAny (model prog w) (A.deeper (envOfC qual scope s.heap.objs.size f cdv)) (leaving (envOfC qual scope s.heap.objs.size f cdv) e) (fun _ s'' => R (.error e) s'') (fun e' s'' => R (.error e') s'') s') s₁)
    (hco : scope.isCoroutine = false) (hgen : scope.isGenerator = false) (hk : scope.kind = .function) : codeAny (model prog w) A (.call (.ref f) args) R s := by
  refine codeAny_call_function hroom (X _ _ ho) rfl hco hgen rfl (codeRec_of X hcd) (hbind _ _ _ _ ?_)
  refine wpAny_newFunctionEnv_cells hk (kindsX hkind _) fun env he s₁ x => ?_
  subst he
  exact ⟨hlim.keeps x.toInCall.keep, codeAny_func (h s₁ x)⟩

/-- C(..): dict at size, instance at size + 1, then __init__ -/
theorem make_obj {R : Result → Shared → Prop} {C fI : Addr} {rest : List Value} {kw : List (Str × Value)}
    (X : K.In s.heap) (hm : makesIn K C = true) (hi : findIn K (.ref C) "__init__" = some (some (.ref fI))) (hf : isFn K (.ref fI) = true)
    (h : codeAny (model prog w) (A.under (.builtin "type.__call__" ⟨.ref C :: rest, kw⟩)) (.call (.ref fI) ⟨.ref (s.heap.objs.size + 1) :: rest, kw⟩) (InitBack (s.heap.objs.size + 1) R)
      { s with heap := (s.heap.push emptyDict).push (instObj C s.heap.objs.size) }) : codeAny (model prog w) A (.call (.ref C) ⟨rest, kw⟩) R s := by
  obtain ⟨hh, g, d, t, os⟩ := s
  exact make_core (makes_of X hm) (looks_findIn X hi) (fun self => bind_fn X self (beq_iff_eq.mp hf)) (.inl rfl) h

/-- x.name where the instance's dict holds the name and the class does not -/
theorem get_field {x C : Addr} {ox : Obj} {es : List DictEntry} {n : Nat} {name : Str} {expr : Bool} {v : Value} {Q : Value → Shared → Prop}
    (X : K.In s.heap) (I : PySem.W.InstAt s.heap x ox C (some (dictOf es n))) (hg : plainGet K C name = true) (hh : hasDictIn K C = true) (ha : findIn K (.ref C) name = some none)
    (hl : getL name es = some (some v)) (hv : handedIn v = true) (h : Q v { s with toks := s.toks + 1 }) : wpAny (model prog w) A (getAttr (.ref x) name expr) Q E s :=
  get_value X I (plainGet_of hg).1 (findObj_own hh ha rfl hl) hv h

/-- x.m(..): the method found in the class -/
theorem get_method {x C f : Addr} {ox : Obj} {es : List DictEntry} {n : Nat} {name : Str} {pl : Sem Bool} {Q : Value × List Value → Shared → Prop}
    (X : K.In s.heap) (I : PySem.W.InstAt s.heap x ox C (some (dictOf es n))) (hg : plainGet K C name = true) (hf : findIn K (.ref C) name = some (some (.ref f))) (ht : isFn K (.ref f) = true)
    (hl : getL name es = some none) (h : Q (.ref f, [.ref x]) s) : wpAny (model prog w) A (getMethod (.ref x) name pl) Q E s :=
  method_fn X I (plainGet_of hg).1 (plainGet_of hg).2 hf (beq_iff_eq.mp ht) (by show (lookIn name (dictOf es n)).map _ = _; rw [lookIn_dict, hl]; rfl) h

/-! the whole heap as the ledger: makes every rule that writes through a ledger a rule over any heap -/
def noObjs (h : Heap) : Heap := { h with objs := #[] }
theorem noObjs_get (h : Heap) (b : Addr) : (noObjs h).get? b = none := by
  cases e : (noObjs h).get? b with
  | none => rfl
  | some o => exact absurd (Heap.lt_size e) (Nat.not_lt_zero _)
def ledger (h : Heap) (L d : Addr) : List (Addr × Obj) := (List.range h.objs.size).filterMap fun a => if a = L ∨ a = d then none else (h.get? a).map fun o => (a, o)
theorem mem_ledger {h : Heap} {L d a : Addr} {o : Obj} : (a, o) ∈ ledger h L d ↔ a ≠ L ∧ a ≠ d ∧ h.get? a = some o := by
  unfold ledger
  rw [List.mem_filterMap]
  constructor
  · rintro ⟨b, _, e⟩
    split at e
    · cases e
    · rename_i hb
      obtain ⟨o', ho, e'⟩ := Option.map_eq_some_iff.mp e
      cases e'
      exact ⟨fun q => hb (.inl q), fun q => hb (.inr q), ho⟩
  · rintro ⟨n1, n2, ho⟩
    refine ⟨a, List.mem_range.mpr (Heap.lt_size ho), ?_⟩
    rw [if_neg (show ¬ (a = L ∨ a = d) from fun q => q.elim n1 n2), ho] <;> rfl
theorem news_ledger {h : Heap} {L d : Addr} {od : Obj} (hne : d ≠ L) (ho : h.get? d = some od) : News (noObjs h) L h ([] ++ (d, od) :: ledger h L d) := by
  rintro ⟨a, o⟩ hp
  rcases List.mem_cons.mp hp with e | hp
  · cases e
    exact ⟨ho, hne, noObjs_get _ _⟩
  · obtain ⟨n1, n2, e⟩ := mem_ledger.mp hp
    exact ⟨e, n1, noObjs_get _ _⟩
theorem fr_all {h : Heap} {L : Addr} {m : Str → Option Value} (n : h.Ns L m) : Fr (noObjs h) L h m :=
  ⟨n, fun b o e => (by rw [noObjs_get] at e; cases e), Nat.zero_le _⟩
/-- Upd of the head entry (for append_K, setItem_K ..) -/
theorem upd_ledger {h : Heap} {L d : Addr} {o o' : Obj} : Upd d o o' ((d, o) :: ledger h L d) ((d, o') :: ledger h L d) :=
  .head fun ⟨_, _⟩ hp => (mem_ledger.mp hp).2.1

/-- x.name = v over any heap: L is any namespace of the heap (the frame's, say): its map stays, its object is not told; all else but the dict stays -/
theorem set_field {x C dx L : Addr} {ox : Obj} {m : Str → Option Value} {es es' : List DictEntry} {n n' : Nat} {name : Str} {v : Value} {Q : Unit → Shared → Prop}
    (X : K.In s.heap) (I : PySem.W.InstAt s.heap x ox C (some (dictOf es n))) (hd : ox.dict = some dx) (hL : s.heap.Ns L m) (hne : dx ≠ L)
    (hs : findIn K (.ref C) "__setattr__" = some (some (.builtin "object.__setattr__"))) (hp : plainOver K C = true) (ht : takerIn K C name = some none) (hh : hasDictIn K C = true) (hl : (getL name es).isSome = true)
    (e : (putL name (PyData.keyHash w.params name) (.str name (s.toks + 1)) v es, putN name es n) = (es', n')) (hz : es'.length ≤ 1000)
    (h : ∀ h' : Heap, h'.Ns L m → h'.get? dx = some (dictOf es' n') → (∀ b o, b ≠ dx → b ≠ L → s.heap.get? b = some o → h'.get? b = some o) → Q () { s with heap := h', toks := s.toks + 2 }) :
    wpAny (model prog w) A (setAttr (.ref x) name v) Q E s := by
  obtain ⟨e1, e2⟩ := Prod.mk.inj e
  have hdx : s.heap.get? dx = some (dictOf es n) := by
    have := I.dict
    rw [hd] at this
    exact this
  refine set_plain X I hs (osa_dict (s := { s with toks := s.toks + 1 }) (h₀ := noObjs s.heap) (L := L) (m := m) (od := dictOf es n) (od' := dictOf es' n') (es := es') (n := n') (pre := []) (post := ledger s.heap L dx)
    (fr_all hL) (news_ledger hne hdx) X I hd hp ht hh hl (fun _ q => nomatch q) (fun ⟨_, _⟩ q => (mem_ledger.mp q).2.1) (by rw [putName_dict, e1, e2]) rfl hz fun h' F' N' => ?_)
  exact h h' F'.ns (N'.get (List.Mem.head _)) fun b o n1 n2 ho => N'.get (List.Mem.tail _ (mem_ledger.mpr ⟨n2, n1, ho⟩))
end
end Att

namespace L2
open PySem PySem.Spec PyProof.Rows

theorem vals_ints : ∀ {vs : List Value} {ns : List Int}, IntsAre vs ns → Vals (ns.map V.int) vs
  | _, _, .nil => .nil
  | _, _, .cons n t h => .cons ⟨t, rfl⟩ (vals_ints h)

/-- nothing is tracked but the script, known to the object (or it is an object of the module) -/
def Only (H : Hp) : Prop := ∀ b, H b = none ∨ ∃ o xs, H b = some (.frz o (.lst xs))

/-- THE HEAD: the law's promise, at the heap behind the top. F, the promise of the law's def, may use that base is part of the heap (so K.In base, base.Ns mainGlobals mg stand in Mod) -/
theorem law_call {P : Program} {w : World} {K : PySem.W.Frag} {mg mb : Str → Option Value} {CX : CXT} {k : Nat} {fa a : Addr} {fd : FuncData} {x : Str} {sp : Sp} {s₁ : Shared} {vs : List Value} {ns : List Int}
    (KX : K.In s₁.heap) (hns : s₁.heap.Ns mainGlobals mg) (hb : s₁.heap.Ns builtinsNs mb) (hbb : ∀ x : Str, x ≠ "__name__" → mb x = bootBuiltins x) (hlim : s₁.heap.NoLimit) (hg : s₁.gens = #[])
    (ha : s₁.heap.get? a = some { cls := .type "list", data := .seq vs.toArray }) (hi : IntsAre vs ns) (hl : ns.length ≤ sizeLine) (hr : Room k callerA)
    (F : ∀ base : Heap, K.In base → base.Ns mainGlobals mg → FnOk P w K mg base CX k fa fd [x] sp) (hbind : ∀ (s : Shared) (u : Value), BindsTo s fd ⟨[u], []⟩ [(x, u)])
    (hsp : ∀ H : Hp, Only H → SqL K H a (ns.map V.int) → sp [.ref a] H (fun v _ => v = .bl true) fun _ _ _ => False)
    (hCX : ∀ H e s', CX [] H s₁ (fun _ _ _ => False) e s' → False) :
    codeAny (model P w) callerA (.call (.ref fa) ⟨[.ref a], []⟩) (fun r s' => r = .ok (.ret (.bool true)) ∧ OldK s₁.heap s'.heap ∧ s'.os = s₁.os ∧ AllBare s'.gens) s₁ := by
  have rv := vals_ints hi
  have lenV := hi.length
  -- from an abstract heap in which nothing but the script may be tracked
  have core : ∀ H : Hp, Only H → SqL K H a (ns.map V.int) → HOk P w H s₁.heap → (∀ b, H b ≠ none → b = a) → (H a ≠ none → K.lookup a = none) →
      codeAny (model P w) callerA (.call (.ref fa) ⟨[.ref a], []⟩) (fun r s' => r = .ok (.ret (.bool true)) ∧ OldK s₁.heap s'.heap ∧ s'.os = s₁.os ∧ AllBare s'.gens) s₁ := by
    intro H hO hS hok hA hK
    have base_of : ∀ {b : Addr} {o : Obj}, s₁.heap.get? b = some o → H b = none → (hidT s₁.heap H).get? b = some o := fun e n => hidT_get e n
    have noA : ∀ {b : Addr} {o : Obj} {es : Array DictEntry} {ep : Nat}, s₁.heap.get? b = some o → o.data = .dict es ep → H b = none := fun {b o es ep} e d => by
      cases q : H b with
      | none => rfl
      | some u =>
        have e' : b = a := hA b (by rw [q]; simp)
        subst e'
        rw [ha] at e; cases e
        have d' : Data.seq vs.toArray _ = Data.dict es ep := d
        cases d'
    have nsK : ∀ {b : Addr} {m : Str → Option Value}, s₁.heap.Ns b m → (hidT s₁.heap H).Ns b m := fun {b m} ⟨o, es, ep, e, d, r⟩ => ⟨o, es, ep, base_of e (noA e d), d, r⟩
    have hKb : K.In (hidT s₁.heap H) := fun b o e => base_of (KX b o e) (by
      cases q : H b with
      | none => rfl
      | some u =>
        have e' : b = a := hA b (by rw [q]; simp)
        subst e'
        rw [hK (by rw [q]; simp)] at e; cases e)
    have hM : Mod K mg (hidT s₁.heap H) := ⟨hKb, nsK hns, ⟨mb, nsK hb, hbb⟩, let ⟨mc, h1, h2⟩ := hlim; ⟨mc, nsK h1, h2⟩⟩
    have e0 : Env0 P w K mg (hidT s₁.heap H) callerA [] s₁ H := ⟨rfl, hM, fun b o e => of_hidT e, Nat.le_of_eq (hidT_size _ _), trivial, fun b hb => absurd (show b ∈ ([] : List Addr) from hb) (by simp), hok, .of_eq hg⟩
    refine codeAny_mono ((F _ hKb (nsK hns)).run callerA [] s₁ H ⟨[.ref a], []⟩ [.ref a] [.ref a] _ _ hr e0 (hbind s₁ (.ref a)) (.cons rfl .nil) (hsp H hO hS)) fun r s' h => ?_
    cases r with
    | error e => exact (hCX H e s' h).elim
    | ok fl =>
      cases fl with
      | next => exact False.elim h
      | brk => exact False.elim h
      | cont => exact False.elim h
      | ret u =>
        obtain ⟨v, H', os, bare, un, hok', r', q⟩ := h
        have q' : v = .bl true := q
        subst q'
        obtain rfl : u = Value.bool true := r'
        refine ⟨rfl, OldK.of_keep fun b o e => ?_, os, bare⟩
        cases q : H b with
        | none => exact un.keep b o e q (by intro z; exact absurd (show b ∈ ([] : List Addr) from z) (by simp)) (by simp)
        | some u =>
          rcases hO b with z | ⟨ob, xs, z⟩
          · rw [q] at z; cases z
          · have z2 := un.frzs b ob _ z
            obtain ⟨e1, _⟩ := hok b _ z
            obtain ⟨e2, _⟩ := hok' b _ z2
            rw [e] at e1; cases e1
            exact e2
  cases hk : K.lookup a with
  | some o =>
    -- the script is one of the module's own objects
    have e := KX a o hk
    rw [ha] at e
    cases e
    refine core (fun _ => none) (fun _ => .inl rfl) (.inr ⟨_, vs.toArray, _, hk, rfl, rfl, rfl, by rw [List.size_toArray, lenV]; exact hl, by simpa using rv⟩) (fun b u z => by have z' : (none : Option HO) = some u := z; cases z') (fun b z => absurd rfl z) fun z => absurd rfl z
  | none =>
    refine core (fun b => if b = a then some (.frz { cls := .type "list", data := .seq vs.toArray } (.lst (ns.map V.int))) else none) (fun b => ?_) (.inl (.inr ⟨{ cls := .type "list", data := .seq vs.toArray }, if_pos rfl⟩)) (fun b u z => ?_) (fun b z => ?_) fun _ => hk
    · by_cases hb : b = a
      · exact .inr ⟨_, _, if_pos hb⟩
      · exact .inl (if_neg hb)
    · by_cases hb : b = a
      · have z' := (if_pos hb).symm.trans z
        cases z'
        subst hb
        exact ⟨ha, by rw [List.length_map]; exact hl, vs, _, rv, ha⟩
      · have z' := (if_neg hb).symm.trans z
        cases z'
    · by_cases hb : b = a
      · exact hb
      · exact absurd (if_neg hb) z
end L2

namespace L2
open PySem PySem.Spec PyProof.Rows

abbrev KOf {K : PySem.W.Frag} {h : Heap} (_ : K.In h) : PySem.W.Frag := K

/-- the goal that k_head leaves (case hc), from the law's promise. F gives the function object fd (K's own) once, then the promise over every base -/
theorem walk_of {l : PySem.W.OpenLaw} {n k : Nat} {q : Program} {loose : List Str} {XP : (Str → Option Value) → Heap → Prop} {YP : World → Heap → Prop} {d : DefRec} {K : Params → PySem.W.Frag} {CX : World → CXT} {sp : World → Sp} {x : Str}
    (hn : l.most = some n) (hn2 : n ≤ sizeLine) (hdf : d.params.defaults = []) (hr : Room k callerA)
    (hY : ∀ (w : World) (h : Heap), YP w h → (K w.params).In h)
    (F : ∀ (w : World) (mg : Str → Option Value) (fa : Addr) (h : Heap), (K w.params).In h → h.Ns mainGlobals mg → mg d.name = some (.ref fa) →
      ∃ fd : FuncData, (∀ (s : Shared) (u : Value), BindsTo s fd ⟨[u], []⟩ [(x, u)]) ∧
        ∀ base : Heap, (K w.params).In base → base.Ns mainGlobals mg → FnOk l.prog w (K w.params) mg base (CX w) k fa fd [x] (sp w))
    (hsp : ∀ (w : World) (H : Hp) (a : Addr) (ns : List Int), ns.length ≤ n → Only H → SqL (K w.params) H a (ns.map V.int) → sp w [.ref a] H (fun v _ => v = .bl true) fun _ _ _ => False)
    (hCX : ∀ (w : World) (H : Hp) (s : Shared) (e : Value) (s' : Shared), CX w [] H s (fun _ _ _ => False) e s' → False) :
    PySem.W.WalkO q loose XP YP l.row.toRowW d [] (fun f vs => PySem.call f vs) := by
  refine Att.attach_call hn hdf fun w s₀ s₁ mg mb fa o pm cd doc a vs ns G Y ho hd hcd hmg hobj hints hlen hg => ?_
  have KX := hY w _ Y
  obtain ⟨fd, hb, hF⟩ := F w mg fa _ KX G.T.g hmg
  exact law_call KX G.T.g G.T.b G.T.builtins G.T.nolimit hg hobj hints (Nat.le_trans hlen hn2) hr hF hb (fun H hO hS => hsp w H a ns hlen hO hS) fun H e s' => hCX w H s₁ e s'
/-- the same where the promise hangs on the written part alone: (sp := My.sp_law), no hole under a binder -/
theorem walk_ofK {l : PySem.W.OpenLaw} {n k : Nat} {q : Program} {loose : List Str} {XP : (Str → Option Value) → Heap → Prop} {YP : World → Heap → Prop} {d : DefRec} {K : Params → PySem.W.Frag} {CX : CXT} {sp : PySem.W.Frag → Sp} {x : Str}
    (hn : l.most = some n) (hn2 : n ≤ sizeLine) (hdf : d.params.defaults = []) (hr : Room k callerA)
    (hY : ∀ (w : World) (h : Heap), YP w h → (K w.params).In h)
    (F : ∀ (w : World) (mg : Str → Option Value) (fa : Addr) (h : Heap), (K w.params).In h → h.Ns mainGlobals mg → mg d.name = some (.ref fa) →
      ∃ fd : FuncData, (∀ (s : Shared) (u : Value), BindsTo s fd ⟨[u], []⟩ [(x, u)]) ∧
        ∀ base : Heap, (K w.params).In base → base.Ns mainGlobals mg → FnOk l.prog w (K w.params) mg base CX k fa fd [x] (sp (K w.params)))
    (hsp : ∀ (K : PySem.W.Frag) (H : Hp) (a : Addr) (ns : List Int), ns.length ≤ n → Only H → SqL K H a (ns.map V.int) → sp K [.ref a] H (fun v _ => v = .bl true) fun _ _ _ => False)
    (hCX : ∀ (H : Hp) (s : Shared) (e : Value) (s' : Shared), CX [] H s (fun _ _ _ => False) e s' → False) :
    PySem.W.WalkO q loose XP YP l.row.toRowW d [] (fun f vs => PySem.call f vs) :=
  walk_of (K := K) (CX := fun _ => CX) (sp := fun w => sp (K w.params)) hn hn2 hdf hr hY F (fun w H a ns h1 h2 h3 => hsp (K w.params) H a ns h1 h2 h3) fun _ H s e s' => hCX H s e s'
end L2

/-! SHORT WORDS over the layer: a def of the text, its body, what a loop and a test want. -/
namespace L2
open PySem PySem.Spec PyProof.Rows

/-! ### the text by places -/
/-- the j-th statement of a class's body -/
def inClass (s : Stmt) (j : Nat) : Stmt := match s with
  | .ClassDef _ _ _ body _ _ _ _ _ _ _ => body.getD j (.Pass ⟨0, 0, 0, 0⟩)
  | _ => .Pass ⟨0, 0, 0, 0⟩
def defArgs (s : Stmt) : Arguments := match s with
  | .FunctionDef _ a _ _ _ _ _ _ _ _ => a
  | _ => { posonlyargs := [], args := [], vararg := none, kwonlyargs := [], kw_defaults := [], kwarg := none, defaults := [] }
def defBody (s : Stmt) : List Stmt := match s with
  | .FunctionDef _ _ b _ _ _ _ _ _ _ => b
  | _ => []
def defScope (s : Stmt) : Scope := match s with
  | .FunctionDef _ _ _ _ _ _ sc _ _ _ => sc
  | _ => { kind := .function, names := [], isGenerator := false, isCoroutine := false }

/-! ### no exception leaves a def -/
abbrev CX0 : CXT := fun _ _ _ _ _ _ => False
abbrev E0 : XK := fun _ _ _ => False
theorem pass0 {X : Cx} : Passes CX0 X E0 := fun _ _ _ _ _ _ _ h => h.elim

/-! ### a def (or method) of the text as it stands behind the top -/
structure Fun (K : PySem.W.Frag) (x qual : Str) (st : Stmt) (f : Addr) (fd : FuncData) : Prop where
  ex : ∃ (oc : Value) (od : Option Addr) (kV doc pm : Value) (an : Option Addr) (cdv ct : Value) (osl : Array (Option Value)),
    fd = PySem.W.fnOf x qual (defArgs st) (defBody st) (defScope st) .none kV doc pm an cdv ct ∧ K.lookup f = some ⟨oc, od, .func fd, osl⟩ ∧ PySem.W.codeIn K cdv qual = true
  kp : PySem.W.keepIn K (.ref f) = true
section
variable {P : Program} {w : World} {K : PySem.W.Frag} {mg : Str → Option Value} {base : Heap}
/-- THE RULE for a def: its body as a term of rules, and the reading of that term -/
theorem Fun.ok {x qual : Str} {st : Stmt} {f : Addr} {fd : FuncData} {N ps : List Str} {k : Nat} {sp : Sp} (F : Fun K x qual st f fd) (S : FnScope N ps (defScope st)) (len : ∀ vs H Q E, sp vs H Q E → vs.length = ps.length)
    (hbody : ∀ (cdv : Value) (A : Around) (outer : List Env) (s : Shared) (H : Hp) (vs : List V) (Q : VK) (E : XK), Room k (A.deeper (envOfC qual (defScope st) s.heap.objs.size f cdv)) → sp vs H Q E →
      ∃ t, PSs (cxOf CX0 P w K mg base N qual (defScope st) f cdv A outer s H E).nox (defBody st) t ∧ t { nx := fun _ H' => Q .non H', rt := Q } (start N vs) H) : FnOk P w K mg base CX0 (k + 1) f fd ps sp := by
  obtain ⟨oc, od, kV, doc, pm, an, cdv, ct, osl, rfl, lk, hcd⟩ := F.ex
  refine fn_of lk hcd S len fun A outer s H vs Q E hr hsp => ?_
  obtain ⟨t, h, q⟩ := hbody cdv A outer s H vs Q E hr hsp
  exact ⟨t, h.nox, q⟩
/-- how its arguments bind (no defaults): h is «fun _ _ _ _ _ _ us hl => match us, hl with | [_, _], _ => rfl», one _ a parameter -/
theorem Fun.binds {x qual : Str} {st : Stmt} {f : Addr} {fd : FuncData} {ps : List Str} (F : Fun K x qual st f fd)
    (h : ∀ (kV doc pm : Value) (an : Option Addr) (cdv ct : Value) (us : List Value), us.length = ps.length → bindArgs (PySem.W.fnOf x qual (defArgs st) (defBody st) (defScope st) .none kV doc pm an cdv ct) ⟨us, []⟩ = pure (ps.zip us)) : Binds K fd ps [] := by
  obtain ⟨oc, od, kV, doc, pm, an, cdv, ct, osl, rfl, lk, hcd⟩ := F.ex
  exact .all (h kV doc pm an cdv ct)
theorem fun_mk {x qual : Str} {st : Stmt} {f : Addr} {oc : Value} {od an : Option Addr} {osl : Array (Option Value)} {kV doc pm cdv ct : Value} (l : K.lookup f = some ⟨oc, od, .func (PySem.W.fnOf x qual (defArgs st) (defBody st) (defScope st) .none kV doc pm an cdv ct), osl⟩)
    (c : PySem.W.codeIn K cdv qual = true) (k : PySem.W.keepIn K (.ref f) = true) : Fun K x qual st f (PySem.W.fnOf x qual (defArgs st) (defBody st) (defScope st) .none kV doc pm an cdv ct) := ⟨⟨oc, od, kV, doc, pm, an, cdv, ct, osl, rfl, l, c⟩, k⟩
end
theorem hu_of {A : Around} {k : Nat} (hr : Room k A) : A.units + 1 < cLine := Nat.lt_of_le_of_lt (Nat.add_le_add_left (by decide : 1 ≤ 64) _) hr.units
theorem small1000 {n : Nat} (h : n ≤ 1000) : n < sizeLine := Nat.lt_of_le_of_lt h (by decide)

/-! ### expressions in short: the name that stands in the i-th slot -/
section
variable {X : Cx}
theorem pv (i : Nat) {x : Str} {pos : Pos} (hN : X.N[i]? = some x := by rfl) (hv : Vis X.env.scope x := by first | exact Or.inl rfl | exact Or.inr (Or.inl rfl) | exact Or.inr (Or.inr rfl)) (hd : (x == ("__debug__" : Str)) = false := by decide)
    (hcd : (x == ("__classdict__" : Str)) = false := by decide) : PE X (.Name x pos) (tVar i) := pe_var hN hv hd hcd
end

/-! ### tests -/
theorem iteF {A B : Prop} (h : B) : if false = true then A else B := by
  rw [if_neg Bool.false_ne_true]
  exact h
theorem iteT {A B : Prop} (h : A) : if true = true then A else B := by
  rw [if_pos rfl]
  exact h
theorem ite2 {c A B : Prop} [Decidable c] (h1 : c → A) (h2 : ¬ c → B) : if c then A else B := by
  by_cases h : c
  · rw [if_pos h]
    exact h1 h
  · rw [if_neg h]
    exact h2 h
theorem iteNS {c A B : Prop} [Decidable c] (hc : c) (h : B) : if (!decide c) = true then A else B := by
  rw [decide_eq_true hc]
  exact iteF h

/-! ### heaps -/
/-- all that was tracked is as it was -/
def Same (H H' : Hp) : Prop := ∀ b o, H b = some o → H' b = some o
theorem Same.refl (H : Hp) : Same H H := fun _ _ h => h
theorem Same.trans {H H1 H2 : Hp} (a : Same H H1) (b : Same H1 H2) : Same H H2 := fun c o h => b c o (a c o h)
theorem Same.free {H H' : Hp} (e : Same H H') {l : Addr} (h : H' l = Option.none) : H l = Option.none := by
  cases q : H l with
  | none => rfl
  | some o =>
    rw [e l o q] at h
    cases h
theorem Same.seq {K : PySem.W.Frag} {H H' : Hp} {a : Addr} {xs : List V} (e : Same H H') (h : SqL K H a xs) : SqL K H' a xs := by
  rcases h with (h | ⟨o, h⟩) | h
  · exact .inl (.inl (e _ _ h))
  · exact .inl (.inr ⟨o, e _ _ h⟩)
  · exact .inr h

/-! ### lists of pairs as tables -/
section
variable {κ : Type} [DecidableEq κ]
def valV (kvs : List (κ × V)) (k : κ) : Option V := (kvs.find? fun kv => decide (kv.1 = k)).map (·.2)
/-- in its place, or at the end -/
def putK (kvs : List (κ × V)) (k : κ) (v : V) : List (κ × V) :=
  if (kvs.any fun kv => decide (kv.1 = k)) = true then kvs.map (fun kv => if kv.1 = k then (kv.1, v) else kv) else kvs ++ [(k, v)]
def dropK (kvs : List (κ × V)) (k : κ) : List (κ × V) := kvs.filter fun kv => decide (kv.1 ≠ k)

theorem valV_nil {k : κ} : valV ([] : List (κ × V)) k = none := rfl
theorem valV_pos {p : κ × V} {r : List (κ × V)} {k : κ} (e : p.1 = k) : valV (p :: r) k = some p.2 := by simp [valV, List.find?_cons, e]
theorem valV_neg {p : κ × V} {r : List (κ × V)} {k : κ} (e : ¬ p.1 = k) : valV (p :: r) k = valV r k := by simp [valV, List.find?_cons, e]
theorem valV_any (k : κ) : ∀ kvs : List (κ × V), (kvs.any fun kv => decide (kv.1 = k)) = (valV kvs k).isSome
  | [] => rfl
  | p :: r => by
    rw [List.any_cons]
    by_cases e : p.1 = k
    · simp only [valV_pos e, decide_eq_true e, Bool.true_or, Option.isSome_some]
    · rw [valV_neg e, decide_eq_false e, Bool.false_or]; exact valV_any k r
theorem valV_map (k j : κ) (y : V) : ∀ kvs : List (κ × V), valV (kvs.map fun kv => if kv.1 = k then (kv.1, y) else kv) j = (valV kvs j).map fun x => if j = k then y else x
  | [] => rfl
  | p :: r => by
    have ih := valV_map k j y r
    rw [List.map_cons]
    by_cases h : p.1 = k
    · rw [if_pos h]
      by_cases e : p.1 = j
      · rw [valV_pos (p := (p.1, y)) e, valV_pos e, Option.map_some, if_pos (e.symm.trans h)]
      · rw [valV_neg (p := (p.1, y)) e, valV_neg e, ih]
    · rw [if_neg h]
      by_cases e : p.1 = j
      · rw [valV_pos (p := p) e, valV_pos e, Option.map_some, if_neg (fun z => h (e.trans z))]
      · rw [valV_neg (p := p) e, valV_neg e, ih]
theorem valV_snoc (k j : κ) (y : V) : ∀ kvs : List (κ × V), valV kvs k = none → valV (kvs ++ [(k, y)]) j = if j = k then some y else valV kvs j
  | [], _ => by
    by_cases e : k = j
    · rw [if_pos e.symm]; exact valV_pos (p := (k, y)) e
    · rw [if_neg (fun z => e z.symm)]; exact valV_neg (p := (k, y)) e
  | p :: r, hn => by
    rw [List.cons_append]
    have hk : ¬ p.1 = k := fun z => by rw [valV_pos z] at hn; cases hn
    rw [valV_neg hk] at hn
    have ih := valV_snoc k j y r hn
    by_cases e : p.1 = j
    · rw [valV_pos e, valV_pos e, if_neg (fun z => hk (e.trans z))]
    · rw [valV_neg e, valV_neg e, ih]
theorem valV_put (kvs : List (κ × V)) (k j : κ) (y : V) : valV (putK kvs k y) j = if j = k then some y else valV kvs j := by
  unfold putK
  by_cases a : (kvs.any fun kv => decide (kv.1 = k)) = true
  · rw [if_pos a, valV_map]
    rw [valV_any] at a
    by_cases e : j = k
    · obtain ⟨x, hx⟩ := Option.isSome_iff_exists.mp a
      rw [if_pos e, e, hx, Option.map_some, if_pos rfl]
    · rw [if_neg e]
      cases valV kvs j with
      | none => rfl
      | some x => rw [Option.map_some, if_neg e]
  · rw [if_neg a]
    refine valV_snoc k j y kvs ?_
    rw [valV_any] at a
    cases q : valV kvs k with
    | none => rfl
    | some x => rw [q] at a; exact (a rfl).elim
theorem length_putK (kvs : List (κ × V)) (k : κ) (v : V) : (putK kvs k v).length ≤ kvs.length + 1 := by
  unfold putK
  split
  · rw [List.length_map]; omega
  · rw [List.length_append, List.length_cons, List.length_nil]; omega
theorem putK_new {kvs : List (κ × V)} {k : κ} (v : V) (h : valV kvs k = none) : putK kvs k v = kvs ++ [(k, v)] := by
  unfold putK
  rw [valV_any, h]
  exact if_neg (by decide)

theorem RelO.isSome_eq {o : Option V} {u : Option Value} (r : RelO o u) : o.isSome = u.isSome := by
  cases o with
  | none => cases u with
    | none => rfl
    | some _ => exact (show False from r).elim
  | some _ => cases u with
    | none => exact (show False from r).elim
    | some _ => rfl
theorem RelO.getD {o : Option V} {u : Option Value} {d : V} {d' : Value} (r : RelO o u) (rd : RelV d d') : RelV (o.getD d) (u.getD d') := by
  cases o with
  | none => cases u with
    | none => exact rd
    | some _ => exact (show False from r).elim
  | some _ => cases u with
    | none => exact (show False from r).elim
    | some _ => exact r

/-- raw tables of the same keys -/
theorem KV.val {kvs : List (κ × V)} {vs : List (κ × Value)} (r : KV kvs vs) (k : κ) : RelO (valV kvs k) (valueAt vs k) := by
  unfold KV at r
  induction r with
  | nil => exact True.intro
  | @cons p q ps qs h t ih =>
    obtain ⟨h1, h2⟩ := h
    by_cases e : p.1 = k
    · have e' : q.1 = k := h1.symm.trans e
      have b : valueAt (q :: qs) k = some q.2 := by simp [valueAt, List.find?_cons, e']
      rw [valV_pos e, b]; exact h2
    · have e' : ¬ q.1 = k := fun z => e (h1.trans z)
      have b : valueAt (q :: qs) k = valueAt qs k := by simp [valueAt, List.find?_cons, e']
      rw [valV_neg e, b]; exact ih
theorem KV.any {kvs : List (κ × V)} {vs : List (κ × Value)} (r : KV kvs vs) (k : κ) : (kvs.any fun kv => decide (kv.1 = k)) = vs.any fun kv => decide (kv.1 = k) := by
  unfold KV at r
  induction r with
  | nil => rfl
  | cons h t ih => rw [List.any_cons, List.any_cons, ih, h.1]
theorem KV.repl {kvs : List (κ × V)} {vs : List (κ × Value)} (r : KV kvs vs) (k : κ) {y : V} {u : Value} (ry : RelV y u) :
    KV (kvs.map fun kv => if kv.1 = k then (kv.1, y) else kv) (vs.map fun kv => if kv.1 = k then (kv.1, u) else kv) := by
  unfold KV at r ⊢
  induction r with
  | nil => exact .nil
  | @cons p q ps qs h t ih =>
    rw [List.map_cons, List.map_cons]
    refine .cons ?_ ih
    obtain ⟨h1, h2⟩ := h
    by_cases e : p.1 = k
    · rw [if_pos e, if_pos (h1.symm.trans e)]; exact ⟨h1, ry⟩
    · rw [if_neg e, if_neg (fun z => e (h1.trans z))]; exact ⟨h1, h2⟩
theorem KV.put {kvs : List (κ × V)} {vs : List (κ × Value)} (r : KV kvs vs) (k : κ) {y : V} {u : Value} (ry : RelV y u) : KV (putK kvs k y) (stored vs k u) := by
  unfold putK stored
  rw [r.any k]
  by_cases e : (vs.any fun kv => decide (kv.1 = k)) = true
  · rw [if_pos e, if_pos e]; exact r.repl k ry
  · rw [if_neg e, if_neg e]; exact Paired.snoc r ⟨rfl, ry⟩
theorem KV.drop {kvs : List (κ × V)} {vs : List (κ × Value)} (r : KV kvs vs) (k : κ) : KV (dropK kvs k) (without vs k) := by
  unfold KV at r ⊢
  unfold dropK without
  induction r with
  | nil => exact .nil
  | @cons p q ps qs h t ih =>
    obtain ⟨h1, h2⟩ := h
    rw [List.filter_cons, List.filter_cons]
    by_cases e : p.1 = k
    · have a : ¬ decide (p.1 ≠ k) = true := by simp [e]
      have b : ¬ decide (q.1 ≠ k) = true := by simp [h1.symm.trans e]
      rw [if_neg a, if_neg b]; exact ih
    · have e' : ¬ q.1 = k := fun z => e (h1.trans z)
      have a : decide (p.1 ≠ k) = true := by simp [e]
      have b : decide (q.1 ≠ k) = true := by simp [e']
      rw [if_pos a, if_pos b]; exact .cons ⟨h1, h2⟩ ih
theorem KV.keys {kvs : List (κ × V)} {vs : List (κ × Value)} (r : KV kvs vs) : kvs.map (·.1) = vs.map (·.1) := by
  unfold KV at r
  induction r with
  | nil => rfl
  | cons h t ih => rw [List.map_cons, List.map_cons, ih, h.1]
theorem KV.length {kvs : List (κ × V)} {vs : List (κ × Value)} (r : KV kvs vs) : kvs.length = vs.length := Paired.length r
theorem dropK_le (kvs : List (κ × V)) (k : κ) : (dropK kvs k).length ≤ kvs.length := List.length_filter_le _ _
end
/-! ### a dict's pairs: keys that differ -/
section
variable {κ : Type} [DecidableEq κ]
theorem valV_not {kvs : List (κ × V)} {k : κ} (h : valV kvs k = none) : ¬ k ∈ kvs.map (·.1) := by
  intro m
  obtain ⟨p, hp, e⟩ := List.mem_map.mp m
  have q : (kvs.any fun kv => decide (kv.1 = k)) = true := List.any_eq_true.mpr ⟨p, hp, decide_eq_true e⟩
  rw [valV_any, h] at q
  exact absurd q (by simp)
theorem valV_in {kvs : List (κ × V)} {k : κ} {v : V} (h : valV kvs k = some v) : k ∈ kvs.map (·.1) := by
  have q : (kvs.any fun kv => decide (kv.1 = k)) = true := by
    rw [valV_any, h]
    all_goals rfl
  obtain ⟨p, hp, e⟩ := List.any_eq_true.mp q
  exact List.mem_map.mpr ⟨p, hp, of_decide_eq_true e⟩
theorem nd_snoc : ∀ {l : List κ} {k : κ}, l.Nodup → ¬ k ∈ l → (l ++ [k]).Nodup
  | [], k, _, _ => by simp
  | a :: r, k, h, hk => by
    obtain ⟨h1, h2⟩ := List.nodup_cons.mp h
    show (a :: (r ++ [k])).Nodup
    refine List.nodup_cons.mpr ⟨fun m => ?_, nd_snoc h2 fun m => hk (List.mem_cons.mpr (Or.inr m))⟩
    rcases List.mem_append.mp m with q | q
    · exact h1 q
    · exact hk (List.mem_cons.mpr (Or.inl (List.mem_singleton.mp q).symm))
theorem nd_putK {kvs : List (κ × V)} {k : κ} (v : V) (hn : (kvs.map (·.1)).Nodup) (h : valV kvs k = none) : ((putK kvs k v).map (·.1)).Nodup := by
  rw [putK_new v h, List.map_append]
  exact nd_snoc hn (valV_not h)
theorem dropK_pos {p : κ × V} {r : List (κ × V)} {k : κ} (e : p.1 = k) : dropK (p :: r) k = dropK r k := by
  unfold dropK
  rw [List.filter_cons, if_neg (by simp [e])]
theorem dropK_neg {p : κ × V} {r : List (κ × V)} {k : κ} (e : ¬ p.1 = k) : dropK (p :: r) k = p :: dropK r k := by
  unfold dropK
  rw [List.filter_cons, if_pos (by simp [e])]
theorem dropK_no : ∀ {kvs : List (κ × V)} {k : κ}, ¬ k ∈ kvs.map (·.1) → dropK kvs k = kvs
  | [], _, _ => rfl
  | p :: r, k, h => by
    have h' : ¬ k ∈ r.map (·.1) := fun m => by
      obtain ⟨q, hq, e⟩ := List.mem_map.mp m
      exact h (List.mem_map.mpr ⟨q, List.mem_cons.mpr (Or.inr hq), e⟩)
    rw [dropK_neg fun e => h (List.mem_map.mpr ⟨p, List.mem_cons.mpr (Or.inl rfl), e⟩), dropK_no h']
theorem dropK_mem {kvs : List (κ × V)} {k : κ} {p : κ × V} (h : p ∈ dropK kvs k) : p ∈ kvs := (List.mem_filter.mp h).1
theorem nd_dropK : ∀ {kvs : List (κ × V)} {k : κ}, (kvs.map (·.1)).Nodup → ((dropK kvs k).map (·.1)).Nodup
  | [], _, _ => List.nodup_nil
  | p :: r, k, h => by
    have h : (p.1 :: r.map (·.1)).Nodup := h
    obtain ⟨h1, h2⟩ := List.nodup_cons.mp h
    by_cases e : p.1 = k
    · rw [dropK_pos e]
      exact nd_dropK h2
    · rw [dropK_neg e]
      show (p.1 :: (dropK r k).map (·.1)).Nodup
      refine List.nodup_cons.mpr ⟨fun m => h1 ?_, nd_dropK h2⟩
      obtain ⟨q, hq, eq⟩ := List.mem_map.mp m
      exact List.mem_map.mpr ⟨q, dropK_mem hq, eq⟩
theorem dropK_len : ∀ {kvs : List (κ × V)} {k : κ}, (kvs.map (·.1)).Nodup → k ∈ kvs.map (·.1) → (dropK kvs k).length + 1 = kvs.length
  | [], _, _, m => by simp at m
  | p :: r, k, h, m => by
    have h : (p.1 :: r.map (·.1)).Nodup := h
    have m : k = p.1 ∨ k ∈ r.map (·.1) := List.mem_cons.mp m
    obtain ⟨h1, h2⟩ := List.nodup_cons.mp h
    by_cases e : p.1 = k
    · subst e
      rw [dropK_pos rfl, dropK_no h1]
      all_goals rfl
    · have m' : k ∈ r.map (·.1) := m.resolve_left fun z => e z.symm
      have q := dropK_len h2 m'
      rw [dropK_neg e, List.length_cons, List.length_cons]
      omega
end
end L2

namespace L2
open PySem PySem.Spec PyProof.Rows

/-! ### a comprehension's block: what it sees of the def around it -/
def clAcc (cells : List (Str × Addr)) : List (Str × NameKind) → List (Str × Addr) → List (Str × Addr)
  | [], acc => acc
  | (n, k) :: r, acc => clAcc cells r (if k == .free then (n, (cells.lookup n).getD 0) :: acc else acc)
def clOf (names : List (Str × NameKind)) (cells : List (Str × Addr)) : List (Str × Addr) := clAcc cells names []

theorem clos_aux {env : Env} : ∀ (l : List (Str × NameKind)) (acc : List (Str × Addr)), (∀ x ∈ l, x.2 = .free → (env.cells.lookup x.1).isSome = true) →
    (forIn l acc fun (x : Str × NameKind) (r : List (Str × Addr)) => if (x.2 == NameKind.free) = true then do let a ← cellOf env x.1; pure (ForInStep.yield ((x.1, a) :: r)) else pure (ForInStep.yield r)) = (pure (clAcc env.cells l acc) : Sem _)
  | [], acc, _ => rfl
  | (n, k) :: r, acc, h => by
    rw [List.forIn_cons]
    have hr : ∀ x ∈ r, x.2 = .free → (env.cells.lookup x.1).isSome = true := fun x hx => h x (List.mem_cons_of_mem _ hx)
    cases hk : (k == NameKind.free) with
    | true =>
      have hs := h (n, k) List.mem_cons_self (by simpa using hk)
      obtain ⟨a, ha⟩ := Option.isSome_iff_exists.mp hs
      have hc : cellOf env n = pure a := by unfold cellOf; rw [ha]
      simp only [hc, pure_bind, if_true]
      rw [clos_aux r _ hr]
      simp only [clAcc, hk, ha, Option.getD_some, if_true]
    | false =>
      simp only [pure_bind, Bool.false_eq_true, if_false]
      rw [clos_aux r _ hr]
      simp only [clAcc, hk, Bool.false_eq_true, if_false]
theorem closure_of {scope : Scope} {env : Env} (h : ∀ x ∈ scope.names, x.2 = .free → (env.cells.lookup x.1).isSome = true) : closureFor scope env = pure (clOf scope.names env.cells) := by
  have e := clos_aux (env := env) scope.names [] h
  unfold closureFor
  first
    | exact e
    | (simp only [bind_pure]; exact e)
    | (rw [show (forIn scope.names [] _ : Sem (List (Str × Addr))) = _ from e]; rfl)
theorem clAcc_mem {cells : List (Str × Addr)} {all : List (Str × NameKind)} : ∀ (l : List (Str × NameKind)) (acc : List (Str × Addr)), (∀ x ∈ l, x ∈ all) → (∀ p ∈ acc, (p.1, NameKind.free) ∈ all ∧ p.2 = (cells.lookup p.1).getD 0) →
    ∀ p ∈ clAcc cells l acc, (p.1, NameKind.free) ∈ all ∧ p.2 = (cells.lookup p.1).getD 0
  | [], acc, _, h => h
  | (n, k) :: r, acc, hl, h => by
    refine clAcc_mem r _ (fun x hx => hl x (List.mem_cons_of_mem _ hx)) ?_
    intro p hp
    cases hk : (k == NameKind.free) with
    | true =>
      rw [hk, if_pos rfl] at hp
      rcases List.mem_cons.mp hp with rfl | hp
      · have : k = .free := by simpa using hk
        subst this
        exact ⟨hl _ List.mem_cons_self, rfl⟩
      · exact h p hp
    | false =>
      rw [hk, if_neg Bool.false_ne_true] at hp
      exact h p hp
theorem clOf_lookup {names : List (Str × NameKind)} {cells : List (Str × Addr)} {x : Str} {c : Addr} (e : (clOf names cells).lookup x = some c) : (x, NameKind.free) ∈ names ∧ c = (cells.lookup x).getD 0 :=
  clAcc_mem (all := names) names [] (fun _ h => h) (fun p hp => absurd hp (by simp)) (x, c) (PySem.mem_of_lookup e)
theorem clAcc_has {cells : List (Str × Addr)} {x : Str} : ∀ (l : List (Str × NameKind)) (acc : List (Str × Addr)), ((x, NameKind.free) ∈ l ∨ ∃ c, acc.lookup x = some c) → ∃ c, (clAcc cells l acc).lookup x = some c
  | [], acc, h => by
    rcases h with h | h
    · simp at h
    · exact h
  | (n, k) :: r, acc, h => by
    refine clAcc_has r _ ?_
    rcases h with h | ⟨c, h⟩
    · rcases List.mem_cons.mp h with e | h
      · have e1 : x = n := congrArg Prod.fst e
        have e2 : NameKind.free = k := congrArg Prod.snd e
        subst e1; subst e2
        refine .inr ⟨(cells.lookup x).getD 0, ?_⟩
        simp
      · exact .inl h
    · refine .inr ?_
      cases hk : (k == NameKind.free) with
      | true =>
        rw [if_pos rfl, List.lookup_cons]
        cases hx : (x == n) with
        | true => exact ⟨_, rfl⟩
        | false => exact ⟨c, h⟩
      | false =>
        rw [if_neg Bool.false_ne_true]
        exact ⟨c, h⟩
theorem relabel_free {env : Env} : ∀ {names : List (Str × NameKind)} {x : Str}, names.lookup x = some .free →
    (names.map fun (n, k) => if (k == NameKind.free && env.scope.kind == .function && env.kindOf n == some .cell) then (n, NameKind.cell) else (n, k)).lookup x = some .free ∨
    (names.map fun (n, k) => if (k == NameKind.free && env.scope.kind == .function && env.kindOf n == some .cell) then (n, NameKind.cell) else (n, k)).lookup x = some .cell
  | [], _, h => by simp at h
  | (n, k) :: r, x, h => by
    have ih := @relabel_free env r x
    rw [List.map_cons]
    cases hx : x == n with
    | true =>
      simp only [List.lookup_cons, hx] at h
      cases h
      by_cases hc : (NameKind.free == NameKind.free && env.scope.kind == .function && env.kindOf n == some .cell) = true
      · right; simp only [if_pos hc, List.lookup_cons, hx]
      · left; simp only [if_neg hc, List.lookup_cons, hx]
    | false =>
      simp only [List.lookup_cons, hx] at h
      by_cases hc : (k == NameKind.free && env.scope.kind == .function && env.kindOf n == some .cell) = true
      · simp only [if_pos hc, List.lookup_cons, hx]; exact ih h
      · simp only [if_neg hc, List.lookup_cons, hx]; exact ih h
theorem relabel_back {env : Env} : ∀ {names : List (Str × NameKind)} {x : Str}, (∀ y ∈ names, y.2 ≠ .cell) →
    ((names.map fun (n, k) => if (k == NameKind.free && env.scope.kind == .function && env.kindOf n == some .cell) then (n, NameKind.cell) else (n, k)).lookup x = some .cell ∨
    (names.map fun (n, k) => if (k == NameKind.free && env.scope.kind == .function && env.kindOf n == some .cell) then (n, NameKind.cell) else (n, k)).lookup x = some .free) → (x, NameKind.free) ∈ names
  | [], _, _, h => by simp at h
  | (n, k) :: r, x, hc0, h => by
    have ih := @relabel_back env r x (fun y hy => hc0 y (List.mem_cons_of_mem _ hy))
    have hk0 : k ≠ .cell := hc0 (n, k) List.mem_cons_self
    rw [List.map_cons] at h
    cases hx : x == n with
    | true =>
      have e : x = n := eq_of_beq hx
      subst e
      by_cases hc : (k == NameKind.free && env.scope.kind == .function && env.kindOf x == some .cell) = true
      · have hk : k = .free := by
          rw [Bool.and_eq_true, Bool.and_eq_true] at hc
          exact eq_of_beq hc.1.1
        subst hk
        exact List.mem_cons_self
      · simp only [if_neg hc, List.lookup_cons, hx] at h
        rcases h with h | h
        · exact absurd (Option.some.inj h) hk0
        · have := Option.some.inj h
          subst this
          exact List.mem_cons_self
    | false =>
      by_cases hc : (k == NameKind.free && env.scope.kind == .function && env.kindOf n == some .cell) = true
      · simp only [if_pos hc, List.lookup_cons, hx] at h
        exact List.mem_cons_of_mem _ (ih h)
      · simp only [if_neg hc, List.lookup_cons, hx] at h
        exact List.mem_cons_of_mem _ (ih h)

def impOk (N : List Str) (scope : Scope) : List (Option Nat) → List Str → Bool
  | [], [] => true
  | none :: r, _ :: ns => impOk N scope r ns
  | some j :: r, x :: ns => (decide (N[j]? = some x) && decide (scope.names.lookup x = some .free)) && impOk N scope r ns
  | _, _ => false
theorem impOk_len {N : List Str} {scope : Scope} : ∀ {imp : List (Option Nat)} {N' : List Str}, impOk N scope imp N' = true → imp.length = N'.length
  | [], [], _ => rfl
  | none :: r, _ :: ns, h => congrArg (· + 1) (impOk_len (imp := r) (N' := ns) h)
  | some j :: r, x :: ns, h => congrArg (· + 1) (impOk_len (imp := r) (N' := ns) (Bool.and_eq_true_iff.mp h).2)
  | [], _ :: _, h => nomatch h
  | none :: _, [], h => nomatch h
  | some _ :: _, [], h => nomatch h
theorem impOk_at {N : List Str} {scope : Scope} : ∀ {imp : List (Option Nat)} {N' : List Str} {i j : Nat}, impOk N scope imp N' = true → imp[i]? = some (some j) → ∃ x, N'[i]? = some x ∧ N[j]? = some x ∧ scope.names.lookup x = some .free
  | [], [], i, j, _, e => by simp at e
  | none :: r, _ :: ns, 0, j, _, e => by simp at e
  | none :: r, _ :: ns, i + 1, j, h, e => by
    have := impOk_at (imp := r) (N' := ns) (i := i) (j := j) h (by simpa using e)
    simpa using this
  | some k :: r, x :: ns, 0, j, h, e => by
    have e' : k = j := by simpa using e
    subst e'
    have h1 := (Bool.and_eq_true_iff.mp (Bool.and_eq_true_iff.mp h).1)
    exact ⟨x, rfl, of_decide_eq_true h1.1, of_decide_eq_true h1.2⟩
  | some k :: r, x :: ns, i + 1, j, h, e => by
    have := impOk_at (imp := r) (N' := ns) (i := i) (j := j) (Bool.and_eq_true_iff.mp h).2 (by simpa using e)
    simpa using this
  | [], _ :: _, _, _, h, _ => nomatch h
  | none :: _, [], _, _, h, _ => nomatch h
  | some _ :: _, [], _, _, h, _ => nomatch h
/-- the names of a block (N'), of the def around it (N), which of the def's are seen within (imp: by the block's slot the def's slot) -/
structure CompSc (N N' : List Str) (fsc scope : Scope) (imp : List (Option Nat)) : Prop where
  kind : scope.kind = .function
  nocell : ∀ y ∈ scope.names, y.2 ≠ .cell
  names : ∀ y ∈ scope.names, y.2 = .local → scope.names.lookup y.1 = some .local
  free : ∀ y ∈ scope.names, y.2 = .free → fsc.names.lookup y.1 = some .cell ∨ fsc.names.lookup y.1 = some .free
  ok : impOk N scope imp N' = true
def pull (imp : List (Option Nat)) (σ : St) : St := imp.map fun o => match o with
  | none => none
  | some j => (σ[j]?).getD none
def compCx (X : Cx) (N' : List Str) (scope : Scope) (s3 : Shared) (H2 : Hp) (ex : List Addr) : Cx :=
  { X with N := N', s₀ := s3, H₀ := H2, env := compEnvC scope (clOf scope.names X.env.cells) s3.heap.objs.size X.env, outer := X.stack, ex := ex, fn := fun _ => false, pn := [], xe := fun _ _ => False }

abbrev lobj (its : List Value) (n : Nat) : Obj := { cls := .type "list", data := .seq its.toArray n }

theorem comp_inv {X : Cx} {pins : List (Addr × Obj)} {σ : St} {H : Hp} {s : Shared} {N' : List Str} {fsc scope : Scope} {imp : List (Option Nat)} {fp : List Addr} {h1 : Heap} {t : Nat} {m : Str → Option Value}
    (I : Inv X pins σ H s) (hfp : ∀ b ∈ fp, FpOk X pins H b) (hfo : ∀ b ∈ fp, b < s.heap.objs.size) (S : CompSc X.N N' fsc scope imp) (hsc : X.env.scope = fsc)
    (hns : h1.Ns (s.heap.push (lobj [] 0)).objs.size m) (old : ∀ b o, (s.heap.push (lobj [] 0)).get? b = some o → h1.get? b = some o) :
    Inv (compCx X N' scope { s with heap := s.heap.push (lobj [] 0) } H (s.heap.objs.size :: fp)) [] (pull imp σ) H { s with heap := h1, toks := t } := by
  subst hsc
  have hC : (s.heap.push (lobj [] 0)).objs.size = s.heap.objs.size + 1 := by rw [Heap.size_push]
  have old0 : ∀ b o, s.heap.get? b = some o → (s.heap.push (lobj [] 0)).get? b = some o := fun b o e => Heap.get?_push_of_some _ e
  have old1 : ∀ b o, s.heap.get? b = some o → h1.get? b = some o := fun b o e => old b o (old0 b o e)
  have cells_of : ∀ {x : Str} {c : Addr}, (clOf scope.names X.env.cells).lookup x = some c → X.env.cells.lookup x = some c := fun {x c} e => by
    obtain ⟨hm, hc⟩ := clOf_lookup e
    obtain ⟨c', e'⟩ := I.ok.has x (S.free _ hm rfl)
    rw [e', Option.getD_some] at hc
    rw [e', hc]
  have hfr : ∀ b ∈ frs X.stack, b < s.heap.objs.size := fun b hb => by
    obtain ⟨_, o, ho, _⟩ := I.stack.mem hb
    exact Heap.lt_size ho
  have hex : ∀ b ∈ s.heap.objs.size :: fp, b ≠ (s.heap.push (lobj [] 0)).objs.size ∧ (∀ x c, X.env.cells.lookup x = some c → c ≠ b) ∧ b ∉ frs X.stack ∧ ∀ o, X.base.get? b ≠ some o := fun b hb => by
    rcases List.mem_cons.mp hb with rfl | hb
    · refine ⟨by rw [hC]; exact Nat.ne_of_lt (Nat.lt_succ_self _), fun x c e z => ?_, fun z => Nat.lt_irrefl _ (hfr _ z), fun o e => ?_⟩
      · obtain ⟨v, q⟩ := I.cell x c e
        have := q.lt
        rw [z] at this
        exact Nat.lt_irrefl _ this
      · exact Nat.lt_irrefl _ (Nat.lt_of_lt_of_le (Heap.lt_size e) (Nat.le_trans I.ok.bsz I.sz))
    · obtain ⟨f0, f1, f2, f3, f4, f5⟩ := hfp b hb
      have hlt := hfo b hb
      refine ⟨by rw [hC]; exact Nat.ne_of_lt (Nat.lt_succ_of_lt hlt), f4, fun z => ?_, fun o e => ?_⟩
      · rcases List.mem_cons.mp (I.stkSub b z) with e | e
        · exact f1 e
        · exact f2 e
      · rcases f3 with f3 | f3
        · exact I.ok.noex b o e f3
        · exact Nat.lt_irrefl _ (Nat.lt_of_lt_of_le (Heap.lt_size e) (Nat.le_trans I.ok.bsz f3))
  have Ik : Inv X pins σ H { s with heap := s.heap.push (lobj [] 0), toks := s.toks } := I.kept old0
  refine ⟨⟨I.ok.mod, S.kind, I.ok.glob, I.ok.blt, Nat.le_refl _, fun x y c h1 h2 => I.ok.inj x y c (cells_of h1) (cells_of h2), fun x hx => ?_, fun x c h => (nomatch h), I.ok.hd, I.ok.frames, .inl rfl,
      fun b hb => ⟨(hex b hb).1, fun x c e => (hex b hb).2.1 x c (cells_of e)⟩, fun b o e => ⟨(Ik.bs b o e).1, (I.bs b o e).2⟩, ?_, fun b o e hb => (hex b hb).2.2.2 o e, fun b hb => (hex b hb).2.2.1, Ik.stack, I.stkFree⟩,
    rfl, I.bare, Un.kept old, ⟨m, hns, fun i x v e1 e2 e3 => ?_⟩, fun x c e => ?_, I.hok.fresh (by show s.heap.objs.size ≤ (s.heap.push (lobj [] 0)).objs.size; rw [hC]; exact Nat.le_succ _), fun x c e => I.freeC x c (cells_of e), fun p hp => absurd (show p ∈ ([] : List (Addr × Obj)) from hp) (by simp), I.hok.kept old1, ?_⟩
  · have hx' : (x, NameKind.free) ∈ scope.names := relabel_back S.nocell hx
    exact clAcc_has _ _ (.inl hx')
  · show X.base.objs.size ≤ (s.heap.push (lobj [] 0)).objs.size
    rw [hC]
    exact Nat.le_succ_of_le (Nat.le_trans I.ok.bsz I.sz)
  · -- a name of the def's, by its cell
    unfold pull at e2
    rw [List.getElem?_map] at e2
    cases hi : imp[i]? with
    | none => rw [hi] at e2; cases e2
    | some oj =>
      rw [hi] at e2
      cases oj with
      | none => cases e2
      | some j =>
        obtain ⟨x', e1', e4, e5⟩ := impOk_at S.ok hi
        have e1'' : N'[i]? = some x := e1
        rw [e1''] at e1'
        cases e1'
        have e2' : σ[j]? = some (some v) := by
          have q : (σ[j]?).getD none = some v := Option.some.inj e2
          cases hs : σ[j]? with
          | none => rw [hs] at q; cases q
          | some o => rw [hs] at q; exact congrArg some q
        have hmem : (x, NameKind.free) ∈ scope.names := PySem.mem_of_lookup e5
        have hk := S.free _ hmem rfl
        obtain ⟨m0, hn0, hl0⟩ := I.loc
        obtain ⟨u, r, l⟩ := hl0 j x v e4 e2' (.inr hk)
        refine ⟨u, r, ?_⟩
        rcases l with ⟨hkl, _⟩ | ⟨_, c, ec, hcell⟩
        · have hkl' : X.env.scope.names.lookup x = some .local := hkl
          rcases hk with hk | hk <;> (rw [hk] at hkl'; cases hkl')
        · obtain ⟨c', ec'⟩ := clAcc_has (cells := X.env.cells) scope.names [] (.inl hmem)
          have := cells_of ec'
          rw [ec] at this
          cases this
          have hr := relabel_free (env := X.env) e5
          exact .inr ⟨hr.symm, c, ec', let ⟨o, ho, hd⟩ := hcell; ⟨o, old1 _ _ ho, hd⟩⟩
  · obtain ⟨v, o, ho, hd⟩ := I.cell x c (cells_of e)
    exact ⟨v, o, old1 _ _ ho, hd⟩
  · show (pull imp σ).length = N'.length
    unfold pull
    rw [List.length_map, impOk_len S.ok]

/-- behind the block: the def's own state again, the new list tracked -/
theorem comp_back {X : Cx} {pins pins' : List (Addr × Obj)} {σ σ' : St} {H H' : Hp} {s s' : Shared} {N' : List Str} {scope : Scope} {fp : List Addr} {h2 : Heap} {acc : List V} {its : List Value} {n : Nat}
    (I : Inv X pins σ H s) (hfp : ∀ b ∈ fp, FpOk X pins H b)
    (J : Inv (compCx X N' scope { s with heap := s.heap.push (lobj [] 0) } H (s.heap.objs.size :: fp)) pins' σ' H' s') (hD : H' s.heap.objs.size = none)
    (hsb : Heap.SameBut (s.heap.push (lobj [] 0)).objs.size s'.heap h2) (ho : s'.heap.get? s.heap.objs.size = some (lobj its n)) (hv : Vals acc its) (hl : acc.length ≤ sizeLine) :
    Inv X pins σ (upd H' s.heap.objs.size (.lst acc)) { s' with heap := h2 } := by
  have hC : (s.heap.push (lobj [] 0)).objs.size = s.heap.objs.size + 1 := by rw [Heap.size_push]
  have hU := J.base
  have old0 : ∀ b o, s.heap.get? b = some o → (s.heap.push (lobj [] 0)).get? b = some o := fun b o e => Heap.get?_push_of_some _ e
  have neD : ∀ b o, s.heap.get? b = some o → b ≠ s.heap.objs.size := fun b o e => Nat.ne_of_lt (Heap.lt_size e)
  have neC : ∀ b o, s.heap.get? b = some o → b ≠ (s.heap.push (lobj [] 0)).objs.size := fun b o e => by rw [hC]; exact Nat.ne_of_lt (Nat.lt_succ_of_lt (Heap.lt_size e))
  have nex : ∀ b o, s.heap.get? b = some o → b ∉ fp → b ∉ s.heap.objs.size :: fp := fun b o e hb z => by
    rcases List.mem_cons.mp z with z | z
    · exact neD b o e z
    · exact hb z
  have HD : H s.heap.objs.size = none := I.hok.fresh (Nat.le_refl _)
  have HC : H' (s.heap.push (lobj [] 0)).objs.size = none := J.free
  have ha : h2.get? s.heap.objs.size = some (lobj its n) := (hsb.2 _ (by rw [hC]; exact Nat.ne_of_lt (Nat.lt_succ_self _))).trans ho
  refine I.call' (s' := { s' with heap := h2 }) (ch := fp) J.os ⟨fun b o e q hb hx => ?_, fun b o e q hb hx => ?_, fun b o e q hx => ?_, fun b o e hx => ?_, fun b xs e => ?_, fun b o u e => ?_, fun b ps e => ?_⟩ (fun b u e => ?_) J.bare (fun b hb => ?_)
  · exact (hsb.2 b (neC b o e)).trans (hU.keep b o (old0 b o e) q hb (nex b o e hx))
  · obtain ⟨sl, z⟩ := hU.slot b o (old0 b o e) q hb (nex b o e hx)
    exact ⟨sl, (hsb.2 b (neC b o e)).trans z⟩
  · rw [upd_ne (neD b o e)]
    exact hU.free b o (old0 b o e) q (nex b o e hx)
  · obtain ⟨o', z⟩ := hU.there b o (old0 b o e) (nex b o e hx)
    exact ⟨o', (hsb.2 b (neC b o e)).trans z⟩
  · rw [upd_ne (ne_of_none e HD)]
    exact hU.tups b xs e
  · rw [upd_ne (ne_of_none e HD)]
    exact hU.frzs b o u e
  · rw [upd_ne (ne_of_none e HD)]
    exact hU.tbls b ps e
  · by_cases hb : b = s.heap.objs.size
    · subst hb
      rw [upd_same] at e
      cases e
      exact ⟨hl, its, n, hv, ha⟩
    · rw [upd_ne hb] at e
      refine (J.hok b u e).stay (fun c v hc q => (hsb.2 c ?_).trans q) (fun c q => by rw [upd_ne (ne_of_none q hD)]; exact q) fun c xs q => by rw [upd_ne (ne_of_none q hD)]; exact q
      rcases hc with rfl | hc
      · exact ne_of_none e HC
      · exact ne_of_none hc HC
  · obtain ⟨f0, f1, f2, f3, f4, f5⟩ := hfp b hb
    exact ⟨f3, f1, f4, f5⟩

section
variable {prog : Program} {w : World} {A : Around} {R : Result → Shared → Prop} {s : Shared}
theorem compLoop_any {elt target iter : Expr} {ifs : List Expr} {scope : Scope} {pos : Pos} {it acc : Value} {env : Env} (I : Nat → Shared → Prop)
    (turn : ∀ n s, I n s → wpAny (model prog w) A (pyNext it) (fun r s₁ => match r with
      | none => R (.ok .next) s₁
      | some v => wpAny (model prog w) A (letOwnedTupleGo target it v) (fun _ s₂ => wpAny (model prog w) A (assign target env v) (fun _ s₂ =>
          wpAny (model prog w) A (forIn ifs true fun c r => if r = true then do let ok ← isTrue c env (eval c env); pure (ForInStep.yield ok) else pure (ForInStep.yield r)) (fun ok s₃ =>
            if ok = true then wpAny (model prog w) A (eval elt env) (fun x s₄ =>
              wpAny (model prog w) A (call (.builtin "list.append") [acc, x]) (fun _ s₅ => ∃ m, m < n ∧ I m s₅) (notedBy (model prog w) A env fun e s' => R (.error e) s') s₄) (notedBy (model prog w) A env fun e s' => R (.error e) s') s₃
            else ∃ m, m < n ∧ I m s₃) (notedBy (model prog w) A env fun e s' => R (.error e) s') s₂) (notedBy (model prog w) A env fun e s' => R (.error e) s') s₂) (notedBy (model prog w) A env fun e s' => R (.error e) s') s₁) (notedBy (model prog w) A env fun e s' => R (.error e) s') s)
    (n : Nat) (h : I n s) :
    codeAny (model prog w) A (.compLoop (.ListComp elt [⟨target, iter, ifs, 0⟩] scope pos) 0 it acc env) R s := by
  refine codeAny_loop rfl I (fun n s hI => ?_) n h
  show wpAny _ A ((compTurn (.ListComp elt [⟨target, iter, ifs, 0⟩] scope pos) 0 it acc env).onRaise (fun x => do noteFrame x env; theTreesLotGoes x)) _ _ s
  refine wpAny_noted ?_
  rw [compTurn_list]
  refine wpAny_bind (wpAny_standAt (wpAny_bind (wpAny_mono (turn n s hI) (fun r s₁ h₁ => ?_) fun _ _ h' => h')))
  cases r with
  | none => exact wpAny_pure h₁
  | some v =>
    refine wpAny_bind (wpAny_mono h₁ (fun _ s₂ h₂ => ?_) fun _ _ h' => h')
    refine wpAny_bind (wpAny_mono h₂ (fun _ s₂ h₂ => wpAny_bind (wpAny_mono h₂ (fun ok s₃ h₃ => ?_) fun _ _ h' => h')) fun _ _ h' => h')
    cases ok with
    | false => exact wpAny_pure ⟨rfl, h₃⟩
    | true =>
      exact wpAny_bind (wpAny_bind (wpAny_mono h₃ (fun x s₄ h₄ => wpAny_bind (wpAny_mono h₄ (fun _ s₅ h₅ => wpAny_pure (wpAny_pure ⟨rfl, h₅⟩)) fun _ _ h' => h')) fun _ _ h' => h'))
end

/-- the tests of a comprehension -/
def PFs (X : Cx) (ifs : List Expr) (t : TT) : Prop :=
  ∀ (pins : List (Addr × Obj)) (s : Shared) (σ : St) (H : Hp) (Q : Bool → Hp → Prop), Inv X pins σ H s → t σ H Q →
    wpAny (model X.prog X.w) X.A (forIn ifs true fun c r => if r = true then do let ok ← isTrue c X.env (eval c X.env); pure (ForInStep.yield ok) else pure (ForInStep.yield r)) (TP X pins σ Q) X.xe s
def tAll : TT := fun _ H Q => Q true H
theorem pf_nil {X : Cx} : PFs X [] tAll := fun _ _ _ H _ I h => wpAny_tests_nil ⟨H, I, h⟩
theorem pf_one {X : Cx} {c : Expr} {t : TT} (h : PT X c t) : PFs X [c] t := fun pins s σ H Q I q => wpAny_tests_one (h pins s σ H Q I q)

/-- W: by the turn, a measure, the block's names, the list so far -/
def tComp (imp : List (Option Nat)) (wi : TI) (g : TG) (tt : TT) (te : TE) : TE := fun σ H Q => wi σ H fun J H1 => ∃ W : Nat → Nat → St → List V → Hp → Prop, (∃ m, W 0 m (pull imp σ) [] H1) ∧ ∀ i m σ1 acc H2, W i m σ1 acc H2 →
  (J.stop i H2 ∧ ∀ p, H2 p = none → Q (.ref p) (upd H2 p (.lst acc))) ∨
  (J.go i H2 ∧ acc.length < sizeLine ∧ ∃ Nn : St → List V → Hp → Prop, (∀ σ' acc' H', Nn σ' acc' H' → ∃ m', m' < m ∧ W (i + 1) m' σ' acc' H') ∧
    ∀ x H3, J.yld i H2 x H3 → g x σ1 H3 fun σ2 H4 => tt σ2 H4 fun b H5 => if b = true then te σ2 H5 fun v H6 => Nn σ2 (acc ++ [v]) H6 else Nn σ2 acc H5)

theorem comp_core {X : Cx} {tg iter elt : Expr} {ifs : List Expr} {scope fsc : Scope} {pos : Pos} {N' : List Str} {imp : List (Option Nat)} {g : TG} {tt : TT} {te : TE} {pins : List (Addr × Obj)} {s : Shared} {σ : St} {H : Hp}
    (hc : X.calm = true) (S : CompSc X.N N' fsc scope imp) (hsc : X.env.scope = fsc)
    (hg : ∀ s3 H2 ex, PG (compCx X N' scope s3 H2 ex) tg g) (hf : ∀ s3 H2 ex, PFs (compCx X N' scope s3 H2 ex) ifs tt) (he : ∀ s3 H2 ex, PE (compCx X N' scope s3 H2 ex) elt te)
    {it : Addr} {fp : List Addr} {tn : Nat → Heap → Prop} {J : It} {W : Nat → Nat → St → List V → Hp → Prop} {Q : V → Hp → Prop} {RR : Value → Addr → Result → Shared → Prop}
    (I : Inv X pins σ H s) (T : Turn X.prog X.w X.K tg J fp it tn) (st0 : tn 0 s.heap) (hfp : ∀ b ∈ fp, FpOk X pins H b) (w0 : ∃ m, W 0 m (pull imp σ) [] H)
    (turn : ∀ i m σ1 acc H2, W i m σ1 acc H2 → (J.stop i H2 ∧ ∀ p, H2 p = none → Q (.ref p) (upd H2 p (.lst acc))) ∨
      (J.go i H2 ∧ acc.length < sizeLine ∧ ∃ Nn : St → List V → Hp → Prop, (∀ σ' acc' H', Nn σ' acc' H' → ∃ m', m' < m ∧ W (i + 1) m' σ' acc' H') ∧
        ∀ x H3, J.yld i H2 x H3 → g x σ1 H3 fun σ2 H4 => tt σ2 H4 fun b H5 => if b = true then te σ2 H5 fun v H6 => Nn σ2 (acc ++ [v]) H6 else Nn σ2 acc H5))
    (hR : ∀ (s' : Shared) (C : Addr) (m : Str → Option Value), s'.heap.Ns C m → s.heap.objs.size ≤ C →
      (∀ h2, Heap.SameBut C s'.heap h2 → ∃ H', Inv X pins σ H' { s' with heap := h2 } ∧ H' C = none ∧ Q (.ref s.heap.objs.size) H') → RR (.ref s.heap.objs.size) C (.ok .next) s') {E : Value → Shared → Prop} :
    wpAny (model X.prog X.w) X.A (newList []) (fun acc s₃ => wpAny (model X.prog X.w) X.A (newFunctionEnv scope X.env.globals (clOf scope.names X.env.cells) [] X.env.qual none .none (some X.env)) (fun cenv s₄ =>
      codeAny (model X.prog X.w) X.A (.compStart (.ListComp elt [⟨tg, iter, ifs, 0⟩] scope pos) 0 (.ref it) acc { cenv with scope := relabel scope X.env }) (RR acc cenv.locals) s₄) E s₃) E s := by
  refine wpAny_newObj_type (wpAny_newFunctionEnv S.nocell (by intro y hy; simp at hy) (fun h₁ hns₁ hsb₁ => ?_) S.kind)
  dsimp only at hns₁ hsb₁ ⊢
  have hfo : ∀ b ∈ fp, b < s.heap.objs.size := fun b hb => by
    obtain ⟨o, e, _⟩ := T.obj _ _ st0 b hb
    exact Heap.lt_size e
  have hC : (s.heap.push (lobj [] 0)).objs.size = s.heap.objs.size + 1 := by rw [Heap.size_push]
  have old : ∀ b o, (s.heap.push (lobj [] 0)).get? b = some o → h₁.get? b = some o := fun b o e => hsb₁.extBut b o (Nat.ne_of_lt (Heap.lt_size e)) (Heap.get?_push_of_some _ e)
  have old0 : ∀ b o, s.heap.get? b = some o → h₁.get? b = some o := fun b o e => old b o (Heap.get?_push_of_some _ e)
  have I1 := comp_inv (t := s.toks + ([] : List (Str × Value)).length) I hfp hfo S hsc hns₁ old
  have st1 : tn 0 h₁ := T.keep _ _ _ st0 fun b _ o e => old0 b o e
  -- the iterator's objects and the list may turn within the block
  have stat : ∀ {σ' : St} {pl : List (Addr × Obj)} {H' : Hp} {s' : Shared}, Inv (compCx X N' scope { s with heap := s.heap.push (lobj [] 0) } H (s.heap.objs.size :: fp)) pl σ' H' s' → (∀ p ∈ pl, p.1 = s.heap.objs.size) → (∀ b ∈ fp, H' b = none) →
      ∀ b ∈ fp, FpOk (compCx X N' scope { s with heap := s.heap.push (lobj [] 0) } H (s.heap.objs.size :: fp)) pl H' b := fun {σ' pl H' s'} J0 hpl hn b hb => by
    have z := J0.ok.exf b (List.mem_cons_of_mem _ hb)
    refine ⟨hn b hb, z.1, J0.ok.exfs b (List.mem_cons_of_mem _ hb), .inl (List.mem_cons_of_mem _ hb), z.2, fun p hp => ?_⟩
    have hp' : p ∈ pl := hp
    rw [hpl p hp']
    exact Ne.symm (Nat.ne_of_lt (hfo b hb))
  obtain ⟨m0, w0⟩ := w0
  have ENDS : ∀ (s' : Shared) (σ1 : St) (H1 : Hp) (acc : List V) (its : List Value) (n0 : Nat), Inv (compCx X N' scope { s with heap := s.heap.push (lobj [] 0) } H (s.heap.objs.size :: fp)) [] σ1 H1 s' → H1 s.heap.objs.size = none →
      s'.heap.get? s.heap.objs.size = some (lobj its n0) → Vals acc its → acc.length ≤ sizeLine → (∀ p, H1 p = none → Q (.ref p) (upd H1 p (.lst acc))) → RR (.ref s.heap.objs.size) (s.heap.push (lobj [] 0)).objs.size (.ok .next) s' := by
    intro s' σ1 H1 acc its n0 J1 hD ho hv hl q
    obtain ⟨m, hn, _⟩ := J1.loc
    refine hR s' _ m hn (by rw [hC]; exact Nat.le_succ _) fun h2 hsb => ⟨_, comp_back I hfp J1 hD hsb ho hv hl, ?_, q _ hD⟩
    rw [upd_ne (by rw [hC]; exact Nat.succ_ne_self _)]
    exact J1.free
  have loop : ∀ s₃ : Shared, s₃ = { s with heap := h₁, toks := s.toks + ([] : List (Str × Value)).length } →
      codeAny (model X.prog X.w) X.A (.compLoop (.ListComp elt [⟨tg, iter, ifs, 0⟩] scope pos) 0 (.ref it) (.ref s.heap.objs.size) (compEnvC scope (clOf scope.names X.env.cells) (s.heap.push (lobj [] 0)).objs.size X.env))
        (RR (.ref s.heap.objs.size) (s.heap.push (lobj [] 0)).objs.size) s₃ := by
    rintro s₃ rfl
    refine compLoop_any (fun n s' => ∃ i σ1 acc its n0 H1, Inv (compCx X N' scope { s with heap := s.heap.push (lobj [] 0) } H (s.heap.objs.size :: fp)) [] σ1 H1 s' ∧ tn i s'.heap ∧ (∀ b ∈ fp, H1 b = none) ∧ H1 s.heap.objs.size = none ∧
      s'.heap.get? s.heap.objs.size = some (lobj its n0) ∧ Vals acc its ∧ acc.length ≤ sizeLine ∧ W i n σ1 acc H1) ?_ m0
      ⟨0, pull imp σ, [], [], 0, H, I1, st1, fun b hb => (hfp b hb).1, I.hok.fresh (Nat.le_refl _), old _ _ (Heap.get?_push_size _ rfl), .nil, Nat.zero_le _, w0⟩
    rintro n s' ⟨i, σ1, acc, its, n0, H1, J1, st, fr, hD, ho, hv, hl, w⟩
    rcases turn i n σ1 acc H1 w with ⟨stop, qn⟩ | ⟨go, hlt, Nn, hN, step⟩
    · -- the end
      have P1 := J1.pins_of (pins' := [(s.heap.objs.size, lobj its n0)]) fun p hp => by
        have e : p = (s.heap.objs.size, lobj its n0) := by simpa using hp
        subst e
        exact ⟨ho, hD, (J1.ok.exf _ List.mem_cons_self).1, J1.ok.exfs _ List.mem_cons_self, fun v z => by have z' : Data.seq its.toArray n0 = Data.cell v := z; cases z'⟩
      have hpl : ∀ p ∈ [(s.heap.objs.size, lobj its n0)], p.1 = s.heap.objs.size := fun p hp => by
        have e : p = (s.heap.objs.size, lobj its n0) := by simpa using hp
        rw [e]
      refine thn (T.done (compCx X N' scope { s with heap := s.heap.push (lobj [] 0) } H (s.heap.objs.size :: fp)) rfl rfl rfl hc i _ s' σ1 H1 _ P1 (stat P1 hpl fr) st stop) fun r s1 ⟨hr, J2⟩ => ?_
      subst hr
      exact ENDS s1 σ1 H1 acc its n0 (J2.pins_of fun p hp => absurd hp (by simp)) hD (J2.pin (s.heap.objs.size, lobj its n0) (by simp [compCx])).1 hv hl qn
    · have hpl : ∀ p ∈ [(s.heap.objs.size, lobj its n0)], p.1 = s.heap.objs.size := fun p hp => by
        have e : p = (s.heap.objs.size, lobj its n0) := by simpa using hp
        rw [e]
      have P1 := J1.pins_of (pins' := [(s.heap.objs.size, lobj its n0)]) fun p hp => by
        have e : p = (s.heap.objs.size, lobj its n0) := by simpa using hp
        subst e
        exact ⟨ho, hD, (J1.ok.exf _ List.mem_cons_self).1, J1.ok.exfs _ List.mem_cons_self, fun v z => by have z' : Data.seq its.toArray n0 = Data.cell v := z; cases z'⟩
      refine thn (T.item (compCx X N' scope { s with heap := s.heap.push (lobj [] 0) } H (s.heap.objs.size :: fp)) rfl rfl rfl hc i _ s' σ1 H1 _ P1 (stat P1 hpl fr) st go) fun r s1 ⟨u, hr, h1⟩ => ?_
      subst hr
      refine thn h1 fun _ s2 ⟨x, H2, J2, rx, y2, st2, fr2⟩ => ?_
      have J2' := J2.pinned (stat J2 hpl fr2) (T.obj _ _ st2)
      -- what is true at the end of a turn
      have pinD : ∀ {σ7 : St} {H7 : Hp} {s7 : Shared}, Inv (compCx X N' scope { s with heap := s.heap.push (lobj [] 0) } H (s.heap.objs.size :: fp)) ([(s.heap.objs.size, lobj its n0)] ++ pinsAt fp s2.heap) σ7 H7 s7 →
          s7.heap.get? s.heap.objs.size = some (lobj its n0) ∧ H7 s.heap.objs.size = none ∧ tn (i + 1) s7.heap ∧ ∀ b ∈ fp, H7 b = none := fun {σ7 H7 s7} J7 => by
        have z := J7.pin (s.heap.objs.size, lobj its n0) (List.mem_append_right _ (List.mem_append_left _ (List.mem_singleton.mpr rfl)))
        refine ⟨z.1, z.2.1, T.keep _ _ _ st2 fun b hb o e => (J7.pin (b, o) (List.mem_append_right _ (List.mem_append_right _ (mem_pinsAt hb e)))).1, fun b hb => ?_⟩
        obtain ⟨o, e, d⟩ := T.obj _ _ st2 b hb
        exact (J7.pin (b, o) (List.mem_append_right _ (List.mem_append_right _ (mem_pinsAt hb e)))).2.1
      refine wpAny_mono (hg _ _ _ _ s2 σ1 H2 x u _ J2' rx (step x H2 y2)) (fun _ s3 ⟨σ3, H3, J3, q3⟩ => ?_) fun _ _ z => False.elim z
      refine wpAny_mono (hf _ _ _ _ s3 σ3 H3 _ J3 q3) (fun b s4 ⟨H4, J4, q4⟩ => ?_) fun _ _ z => False.elim z
      cases b with
      | false =>
        rw [if_neg Bool.false_ne_true] at q4
        rw [if_neg Bool.false_ne_true]
        obtain ⟨m', hm, w4⟩ := hN _ _ _ q4
        obtain ⟨a1, a2, a3, a4⟩ := pinD J4
        exact ⟨m', hm, i + 1, σ3, acc, its, n0, H4, J4.pins_of fun p hp => absurd hp (by simp), a3, a4, a2, a1, hv, hl, w4⟩
      | true =>
        rw [if_pos rfl] at q4
        rw [if_pos rfl]
        refine wpAny_mono (he _ _ _ _ s4 σ3 H4 _ J4 q4) (fun uv s5 ⟨v, H5, J5, r5, q5⟩ => ?_) fun _ _ z => False.elim z
        obtain ⟨m', hm, w5⟩ := hN _ _ _ q5
        obtain ⟨a1, a2, a3, a4⟩ := pinD J5
        have hlen := hv.length
        refine call_meets F.slot_list_append ⟨_, a1, rfl⟩ F.entry_list_append (F.args_list_append_2 _ _) (PySem.list_append s.heap.objs.size its.toArray n0 uv (by rw [List.size_toArray]; omega)) ⟨a1, ?_⟩
        have qU := PySem.IsL.update a1 (·.push uv)
        have hex := J5.ok.exf _ (List.mem_cons_self (a := s.heap.objs.size) (l := fp))
        have keepU : ∀ b o, b ≠ s.heap.objs.size → s5.heap.get? b = some o → (s5.heap.update s.heap.objs.size (Obj.mapSeq (·.push uv))).get? b = some o := fun b o hb e => (Heap.get?_update_other s5.heap _ (Ne.symm hb)).trans e
        have J6 : Inv (compCx X N' scope { s with heap := s.heap.push (lobj [] 0) } H (s.heap.objs.size :: fp)) [] σ3 H5 { s5 with heap := s5.heap.update s.heap.objs.size (Obj.mapSeq (·.push uv)), toks := s5.toks } :=
          (J5.pins_of (pins' := []) fun p hp => absurd hp (by simp)).turned keepU a2 hex.1 (.inl List.mem_cons_self) hex.2 (fun p hp => absurd (show p ∈ ([] : List (Addr × Obj)) from hp) (by simp))
        refine ⟨m', hm, i + 1, σ3, acc ++ [v], its ++ [uv], _, H5, J6, T.keep _ _ _ a3 fun b hb o e => keepU b o (Nat.ne_of_lt (hfo b hb)) e, a4, a2, by simpa using qU, hv.append (.cons r5 .nil), ?_, w5⟩
        rw [List.length_append, List.length_singleton]
        omega
  exact codeAny_compStart_list (loop _ rfl) (T.self _ 0 _ _ _ st1 (loop _ rfl))

theorem compSc_cells {X : Cx} {N' : List Str} {fsc scope : Scope} {imp : List (Option Nat)} {pins : List (Addr × Obj)} {s : Shared} {σ : St} {H : Hp} (I : Inv X pins σ H s) (S : CompSc X.N N' fsc scope imp) (hsc : X.env.scope = fsc) :
    closureFor scope X.env = pure (clOf scope.names X.env.cells) := closure_of fun x hx e => by
  subst hsc
  obtain ⟨c, hc⟩ := I.ok.has x.1 (S.free x hx e)
  rw [hc]
  rfl

/-- [elt for tg in iter if c] -/
theorem pe_comp {X : Cx} {tg iter elt : Expr} {ifs : List Expr} {scope fsc : Scope} {pos : Pos} {N' : List Str} {imp : List (Option Nat)} {wi : TI} {g : TG} {tt : TT} {te : TE}
    (S : CompSc X.N N' fsc scope imp) (hi : PI X tg iter wi)
    (hg : ∀ s3 H2 ex, PG (compCx X N' scope s3 H2 ex) tg g) (hf : ∀ s3 H2 ex, PFs (compCx X N' scope s3 H2 ex) ifs tt) (he : ∀ s3 H2 ex, PE (compCx X N' scope s3 H2 ex) elt te)
    (hc : X.calm = true := by rfl) (hsc : X.env.scope = fsc := by rfl) (hs : ∀ x, foldedSetIterable iter X.env x = pure x := by intro _; rfl) : PE X (.ListComp elt [⟨tg, iter, ifs, 0⟩] scope pos) (tComp imp wi g tt te) := by
  intro pins s σ H Q I h
  rw [eval_ListComp]
  refine wpAny_comprehension_free (use := none) rfl hs (compSc_cells I S hsc) S.kind S.names (thn (hi pins s σ H _ I h) fun xv s₁ h₁ => thn h₁ fun itv s₂ h₂ => ?_)
  obtain ⟨it, fp, tn, J, H2, e, I2, T, st2, f2, W, w0, turn⟩ := h₂
  subst e
  refine comp_core (RR := fun acc C => compPost (model X.prog X.w) X.A X.xe none (EP X pins σ Q) acc C) hc S hsc hg hf he I2 T st2 f2 w0 turn ?_
  intro s' C m hn _ k
  exact ⟨m, hn, fun h2 hsb => let ⟨H', J', _, q⟩ := k h2 hsb; ⟨V.ref s₂.heap.objs.size, H', J', rfl, q⟩⟩

/-- name = [elt for tg in iter if c], on one line -/
theorem ps_setcomp {X : Cx} {i : Nat} {y : Str} {tg iter elt : Expr} {ifs : List Expr} {scope fsc : Scope} {pos py spos : Pos} {N' : List Str} {imp : List (Option Nat)} {wi : TI} {g : TG} {tt : TT} {te : TE}
    (hN : X.N.Nodup) (hyi : X.N[i]? = some y) (hy : X.env.scope.names.lookup y = some .local) (S : CompSc X.N N' fsc scope imp) (hi : PI X tg iter wi)
    (hg : ∀ s3 H2 ex, PG (compCx X N' scope s3 H2 ex) tg g) (hf : ∀ s3 H2 ex, PFs (compCx X N' scope s3 H2 ex) ifs tt) (he : ∀ s3 H2 ex, PE (compCx X N' scope s3 H2 ex) elt te)
    (hsw : swapsWith (.ListComp elt [⟨tg, iter, ifs, 0⟩] scope pos) (some (.Name y py)) spos.line X.env = pure true := by rfl)
    (hc : X.calm = true := by rfl) (hsc : X.env.scope = fsc := by rfl) (hs : ∀ x, foldedSetIterable iter X.env x = pure x := by intro _; rfl) :
    PS X (.Assign [.Name y py] (.ListComp elt [⟨tg, iter, ifs, 0⟩] scope pos) spos) (tAsg (tComp imp wi g tt te) (gName i)) := by
  intro pins s σ H D I h
  rw [exec_Assign_Name_used _ _ _ _ hsw]
  refine wpAny_bind (wpAny_standAt (wpAny_bind ?_))
  show wpAny _ _ (do let _ ← comprehension (.ListComp elt [⟨tg, iter, ifs, 0⟩] scope pos) scope X.env _ (newList []) false (eval iter X.env) (some (assign (.Name y py) X.env))) _ _ s
  refine wpAny_bind (wpAny_mono (wpAny_comprehension_free (use := some (assign (.Name y py) X.env)) (Q := fun _ s' => SP X pins D .next s') rfl hs (compSc_cells I S hsc) S.kind S.names
    (thn (hi pins s σ H _ I h) fun xv s₁ h₁ => thn h₁ fun itv s₂ h₂ => ?_)) (fun _ s' hq => wpAny_pure (wpAny_pure hq)) fun _ _ e => e)
  obtain ⟨it, fp, tn, J, H2, e, I2, T, st2, f2, W, w0, turn⟩ := h₂
  subst e
  refine comp_core (Q := fun v H' => gName i v σ H' D.nx) (RR := fun acc C => compPost (model X.prog X.w) X.A X.xe (some (assign (.Name y py) X.env)) (fun _ s' => SP X pins D .next s') acc C) hc S hsc hg hf he I2 T st2 f2 w0 turn ?_
  intro s' C m hn hCne k
  show wpAny _ _ (assign (.Name y py) X.env (.ref s₂.heap.objs.size)) _ _ s'
  obtain ⟨H0, J0, hC0, q0⟩ := k s'.heap (.refl ..)
  have J0' : Inv X pins σ H0 s' := J0
  refine wpAny_assign_Name (store_ok2 J0' hN hyi (.inl hy) (show RelV (.ref s₂.heap.objs.size) (.ref s₂.heap.objs.size) from rfl) (fun s3 J3 hch => ?_) (.inr hy))
  obtain ⟨a, hsa, ha⟩ := hch
  obtain ⟨f0, f1, f2', f3, f4, f5⟩ := I2.fpOk hCne hC0
  have haC : a ≠ C := by
    rcases ha with rfl | ha
    · exact Ne.symm f1
    · exact f4 _ _ ha
  have hn3 : s3.heap.Ns C m := hn.sameBut hsa (Ne.symm haC)
  refine ⟨m, hn3, fun h2 hsb => ?_⟩
  exact ⟨_, H0, J3.turned (fun b o hb e => (hsb.2 b hb).trans e) hC0 f1 f3 f4 f5, q0⟩
end L2

namespace L2
open PySem PySem.Spec PyProof.Rows
open Sem (wp)

/-! ### keys as they lie in the heap -/
def KAt (P : Program) (w : World) (h : Heap) : KD → Value → Prop
  | .inl k, u => keyIs k u = true
  | .inr ks, u => ∃ b, u = Value.ref b ∧ IsTupleKey (mixKind P w) h ks b
def drawsX : KD → Nat
  | .inl _ => 1
  | .inr ks => ks.length + 1
section
variable {P : Program} {w : World} {A : Around} {E : Value → Shared → Prop} {s : Shared}
theorem KAt.inj {h : Heap} {x y : KD} {u : Value} (hx : KAt P w h x u) (hy : KAt P w h y u) : x = y := by
  cases x with
  | inl k =>
    cases y with
    | inl j => exact congrArg Sum.inl ((mixKind P w).inj u k j hx hy)
    | inr js =>
      obtain ⟨b, rfl, _⟩ := hy
      rcases keyIs_shape hx with ⟨i, t, _, e⟩ | ⟨i, t, _, e⟩ <;> cases e
  | inr ks =>
    obtain ⟨b, rfl, hb⟩ := hx
    cases y with
    | inl j => rcases keyIs_shape hy with ⟨i, t, _, e⟩ | ⟨i, t, _, e⟩ <;> cases e
    | inr js =>
      obtain ⟨c, e, hc⟩ := hy
      cases e
      exact congrArg Sum.inr (hb.inj hc)
theorem KAt.pyHash {k : KD} {u : Value} {Q : Int → Shared → Prop} (hu : A.units < cLine) (hk : KAt P w s.heap k u) (h : Q (hashX P w k) { s with toks := s.toks + drawsX k }) : wpAny (model P w) A (PySem.pyHash u) Q E s := by
  cases k with
  | inl k => exact (mixKind P w).pyHash hk h
  | inr ks =>
    obtain ⟨b, rfl, hb⟩ := hk
    exact (tupleKind (mixKind P w)).pyHash hu hb h
theorem IsTupleKey.isTuple {knd : PySem.KeyKind P w Key} {h : Heap} {ks : List Key} {a : Addr} (x : IsTupleKey knd h ks a) : ∃ items, h.IsTuple a items := by
  obtain ⟨o, items, n, ho, hc, hd, _⟩ := x
  exact ⟨items, o, ho, hc, n, hd⟩
theorem KAt.eqBool {x y : KD} {u v : Value} {Q : Bool → Shared → Prop} (hu : A.units < cLine) (hx : KAt P w s.heap x u) (hy : KAt P w s.heap y v) (h : Q (decide (x = y)) s) : wpAny (model P w) A (PySem.eqBool u v) Q E s := by
  cases x with
  | inl k =>
    cases y with
    | inl j =>
      refine (mixKind P w).eqBool hx hy ?_
      have e : decide ((Sum.inl k : KD) = Sum.inl j) = decide (k = j) := by
        by_cases z : k = j
        · rw [z, decide_eq_true rfl, decide_eq_true rfl]
        · rw [decide_eq_false z, decide_eq_false (fun q => z (Sum.inl.inj q))]
      rw [← e]; exact h
    | inr js =>
      obtain ⟨b, rfl, hb⟩ := hy
      obtain ⟨items, hi⟩ := IsTupleKey.isTuple hb
      rw [decide_eq_false (fun q => nomatch q)] at h
      rcases keyIs_shape hx with ⟨i, t, _, e⟩ | ⟨i, t, _, e⟩
      · subst e; exact SeqAt.EqAt.int_tuple i t hi hu _ _ _ _ h
      · subst e; exact SeqAt.EqAt.str_tuple i t hi hu _ _ _ _ h
  | inr ks =>
    obtain ⟨b, rfl, hb⟩ := hx
    cases y with
    | inl j =>
      obtain ⟨items, hi⟩ := IsTupleKey.isTuple hb
      rw [decide_eq_false (fun q => nomatch q)] at h
      rcases keyIs_shape hy with ⟨i, t, _, e⟩ | ⟨i, t, _, e⟩
      · subst e; exact SeqAt.EqAt.tuple_int i t hi hu _ _ _ _ h
      · subst e; exact SeqAt.EqAt.tuple_str i t hi hu _ _ _ _ h
    | inr js =>
      obtain ⟨c, rfl, hc⟩ := hy
      refine wpAny_eqBool_tuple hu hb hc ?_
      have e : decide ((Sum.inr ks : KD) = Sum.inr js) = decide (ks = js) := by
        by_cases z : ks = js
        · rw [z, decide_eq_true rfl, decide_eq_true rfl]
        · rw [decide_eq_false z, decide_eq_false (fun q => z (Sum.inr.inj q))]
      rw [← e]; exact h
theorem KAt.quiet {k : KD} {u : Value} {Q : Bool → Shared → Prop} (hk : KAt P w s.heap k u) (h : Q true s) : wpAny (model P w) A (eqIsQuiet 8 u) Q E s := by
  cases k with
  | inl k => rw [eqIsQuiet_byValue _ ((mixKind P w).byValue k u hk)]; exact wpAny_pure h
  | inr ks =>
    obtain ⟨b, rfl, hb⟩ := hk
    exact wpAny_eqIsQuiet_tuple hb h
theorem KAt.strs {h : Heap} {k k' : KD} {x : Str} {t : Tok} {v : Value} (hk : KAt P w h k (.str x t)) (hv : KAt P w h k' v) : v.isStr x = decide (k' = k) := by
  cases k with
  | inr ks => obtain ⟨b, e, _⟩ := hk; cases e
  | inl k =>
    have hs := (mixKind P w).strs k x t v hk
    cases k' with
    | inr ks =>
      obtain ⟨b, rfl, _⟩ := hv
      rw [decide_eq_false (fun q => nomatch q)]
      rfl
    | inl j =>
      rw [← hs]
      show (mixKind P w).is k v = _
      rw [KeyKind.is_eq_decide (knd := mixKind P w) hv k]
      by_cases z : k = j
      · rw [z, decide_eq_true rfl, decide_eq_true rfl]
      · rw [decide_eq_false z, decide_eq_false (fun q => z (Sum.inl.inj q).symm)]
theorem KAt.keeps {h h' : Heap} {k : KD} {u : Value} {d : Addr} {o : Obj} {es ep} (x : KAt P w h k u) (ho : h.get? d = some o) (hd : o.data = .dict es ep) (hs : Heap.SameBut d h h') : KAt P w h' k u := by
  cases k with
  | inl k => exact x
  | inr ks => obtain ⟨b, rfl, hb⟩ := x; exact ⟨b, rfl, hb.keeps ho hd hs⟩

theorem wp_if {α : Type} {M : Model} {c : Prop} [Decidable c] {a b : Sem α} {Q : α → Shared → Prop} (h1 : c → wpAny M A a Q E s) (h2 : ¬ c → wpAny M A b Q E s) : wpAny M A (if c then a else b) Q E s := by
  by_cases h : c
  · rw [if_pos h]; exact h1 h
  · rw [if_neg h]; exact h2 h
/-! ### the table -/
abbrev Tab := List (KD × Value × Value)
theorem ent_at {es : Array DictEntry} {xs : Tab} (he : es.toList = xs.map (entX P w)) (j : Nat) : es[j]? = (xs[j]?).map (entX P w) := by
  rw [← Array.getElem?_toList, he, List.getElem?_map]
theorem ent_size {es : Array DictEntry} {xs : Tab} (he : es.toList = xs.map (entX P w)) : es.size = xs.length := by
  rw [← Array.length_toList, he, List.length_map]
theorem tab_uniq {xs : Tab} (hn : (xs.map (·.1)).Nodup) {i j : Nat} {k : KD} {p q : Value × Value} (hi : xs[i]? = some (k, p)) (hj : xs[j]? = some (k, q)) : i = j := by
  have hi' : (xs.map (·.1))[i]? = some k := by rw [List.getElem?_map, hi]; rfl
  have hj' : (xs.map (·.1))[j]? = some k := by rw [List.getElem?_map, hj]; rfl
  exact (List.getElem?_inj (List.getElem?_eq_some_iff.mp hi').1 hn).mp (hi'.trans hj'.symm)

theorem tellsX {u : Value} {k : KD} {stored : List Value} {Q : Bool → Shared → Prop} (hk : KAt P w s.heap k u) (hst : ∀ v ∈ stored, ∃ k', KAt P w s.heap k' v) (h : Q false s) : wpAny (model P w) A (tableMayTell u stored) Q E s := by
  unfold tableMayTell
  split
  · exact wpAny_pure h
  · refine wpAny_bind (hk.quiet ?_)
    simp only [Bool.not_true, Bool.false_eq_true, if_false]
    refine wpAny_bind ?_
    refine wpAny_forIn_list _ (fun rest r s' => s' = s ∧ r = (none, ()) ∧ ∀ v ∈ rest, ∃ k', KAt P w s.heap k' v) _ ?_ ?_ _ _ ⟨rfl, rfl, hst⟩
    · rintro x rest r s' ⟨rfl, rfl, hr⟩
      obtain ⟨k', hb⟩ := hr x List.mem_cons_self
      refine wpAny_bind (hb.quiet ?_)
      simp only [Bool.not_true, Bool.false_eq_true, if_false]
      exact wpAny_pure ⟨rfl, rfl, fun v hv => hr v (List.mem_cons_of_mem _ hv)⟩
    · rintro r s' ⟨rfl, rfl, _⟩
      exact wpAny_pure h

theorem findX {d : Addr} {u : Value} {o : Obj} {es ep} {xs : Tab} {k : KD} {Q : Option Nat → Shared → Prop} (hu : A.units < cLine) (hk : KAt P w s.heap k u) (ho : s.heap.get? d = some o) (hd : o.data = .dict es ep)
    (he : es.toList = xs.map (entX P w)) (his : ∀ x ∈ xs, KAt P w s.heap x.1 x.2.1) (hn : (xs.map (·.1)).Nodup)
    (hnone : (∀ (j : Nat) (p : Value × Value), xs[j]? ≠ some (k, p)) → Q none s) (hsome : ∀ (j : Nat) (p : Value × Value), xs[j]? = some (k, p) → Q (some j) s) :
    wpAny (model P w) A (dictFind d u (hashX P w k)) Q E s := by
  have hsz : es.size = xs.length := ent_size he
  have haskey : ∀ (j : Nat) (p : Value × Value), xs[j]? = some (k, p) → ((es[j]?.map (·.hash)) == some (hashX P w k)) = true := by
    intro j p hj
    rw [ent_at he j, hj]
    simp [entX]
  have hget : ∀ (x : Nat), x < es.size → ∃ k' v v', xs[x]? = some (k', v, v') ∧ es[x]? = some ⟨hashX P w k', v, v'⟩ ∧ KAt P w s.heap k' v := by
    intro x hx
    obtain ⟨⟨k', v, v'⟩, hkv⟩ : ∃ y, xs[x]? = some y := ⟨xs[x]'(by rw [← hsz]; exact hx), List.getElem?_eq_getElem _⟩
    exact ⟨k', v, v', hkv, by rw [ent_at he x, hkv]; rfl, his _ (List.mem_of_getElem? hkv)⟩
  have hmem : ∀ e ∈ es, ∃ x ∈ xs, e = entX P w x := by
    intro e hin
    have : e ∈ xs.map (entX P w) := he ▸ Array.mem_toList_iff.mpr hin
    obtain ⟨x, hx, rfl⟩ := List.mem_map.mp this
    exact ⟨x, hx, rfl⟩
  have hjl : ∀ (j : Nat) (p : KD × Value × Value), xs[j]? = some p → j < es.size := fun j p hj => by
    rw [hsz]; exact (List.getElem?_eq_some_iff.mp hj).1
  have hst : ∀ v ∈ (placesWithHash es.size (fun i => es[i]?.map (·.hash)) (hashX P w k)).filterMap (fun i => es[i]?.map (·.key)), ∃ k', KAt P w s.heap k' v := by
    intro v hv
    obtain ⟨i, _, hi⟩ := List.mem_filterMap.mp hv
    cases hei : es[i]? with
    | none => rw [hei] at hi; cases hi
    | some e =>
      rw [hei] at hi
      obtain rfl : e.key = v := by simpa using hi
      obtain ⟨x, hx, rfl⟩ := hmem e (Array.mem_of_getElem? hei)
      exact ⟨x.1, his x hx⟩
  -- none of the places that are left
  have rest_none : ∀ i, ([] : List Nat) = (List.range' i (es.size - i)).filter (fun i => (es[i]?.map (·.hash)) == some (hashX P w k)) → i ≤ es.size → (∀ (j : Nat) p, j < i → xs[j]? ≠ some (k, p)) → ∀ (j : Nat) (p : Value × Value), xs[j]? ≠ some (k, p) := by
    intro i hr hi hno j p hj
    rcases Nat.lt_or_ge j i with h | h
    · exact hno j p h hj
    · have h2 := hjl j _ hj
      have := List.filter_eq_nil_iff.mp hr.symm j (List.mem_range'_1.mpr ⟨h, by omega⟩)
      exact this (haskey j p hj)
  have skip : ∀ (i x : Nat), (∀ (j : Nat), i ≤ j → j < x → ((es[j]?.map (·.hash)) == some (hashX P w k)) = false) → (∀ (j : Nat) p, j < i → xs[j]? ≠ some (k, p)) → ∀ (j : Nat) p, j < x → xs[j]? ≠ some (k, p) := by
    intro i x hs hno j p hjx hj
    rcases Nat.lt_or_ge j i with h | h
    · exact hno j p h hj
    · have := hs j h hjx
      rw [haskey j p hj] at this
      cases this
  have next : ∀ (x : Nat) k' (q : Value × Value), xs[x]? = some (k', q) → ¬ k' = k → (∀ (j : Nat) p, j < x → xs[j]? ≠ some (k, p)) → ∀ (j : Nat) p, j < x + 1 → xs[j]? ≠ some (k, p) := by
    intro x k' q hx hne hno j p hjx hj
    rcases Nat.lt_or_ge j x with h | h
    · exact hno j p h hj
    · have e : j = x := by omega
      subst e
      rw [hx] at hj
      injection hj with hj
      injection hj with hj
      exact hne hj
  have shape : (∃ i t, u = Value.int i t) ∨ (∃ x t, u = Value.str x t) ∨ ∃ b, u = Value.ref b := by
    cases k with
    | inl k =>
      rcases keyIs_shape hk with ⟨i, t, _, e⟩ | ⟨i, t, _, e⟩
      · exact .inl ⟨i, t, e⟩
      · exact .inr (.inl ⟨i, t, e⟩)
    | inr ks => obtain ⟨b, e, _⟩ := hk; exact .inr (.inr ⟨b, e⟩)
  rcases shape with ⟨ui, ut, rfl⟩ | ⟨x, t, rfl⟩ | ⟨a, rfl⟩
  · unfold dictFind
    try with_reducible refine wpAny_holding ?_
    refine wpAny_bind (wpAny_dictEntries ho hd ?_)
    dsimp only
    refine wp_if (fun _ => ?_) (fun _ => ?_)
    · -- plain
      refine wpAny_bind ?_
      refine wpAny_forIn_list _
        (fun rest b s' => s' = s ∧ b = (none, ()) ∧ ∃ i, rest = (List.range' i (es.size - i)).filter (fun i => (es[i]?.map (·.hash)) == some (hashX P w k)) ∧ i ≤ es.size ∧ ∀ j p, j < i → xs[j]? ≠ some (k, p)) _ ?_ ?_ _ _
        ⟨rfl, rfl, 0, by rw [placesWithHash, List.range_eq_range', Nat.sub_zero], Nat.zero_le _, fun _ _ h => absurd h (Nat.not_lt_zero _)⟩
      · rintro x rest b s' ⟨rfl, rfl, i, hr, hi, hno⟩
        obtain ⟨hix, hxn, hpx, hskip, hrest⟩ := filter_range'_cons _ _ _ _ _ hr.symm
        have hlt : x < es.size := by omega
        obtain ⟨k', v, v', hkv, hex, hib⟩ := hget x hlt
        have hnx := skip i x hskip hno
        have hrest' : rest = (List.range' (x + 1) (es.size - (x + 1))).filter (fun i => (es[i]?.map (·.hash)) == some (hashX P w k)) := by rw [hrest]; congr 2; omega
        rw [hex]
        dsimp only
        by_cases hh : (hashX P w k' == hashX P w k) = true
        · rw [if_pos hh]
          refine wpAny_bind (wpAny_dictEpoch ho hd (wpAny_bind (KAt.eqBool (x := k') (y := k) hu hib hk (wpAny_bind (wpAny_dictEpoch ho hd ?_)))))
          show wpAny _ _ (if (ep != ep) = true then _ else _) _ E _
          rw [if_neg (by simp)]
          by_cases hkk : k' = k
          · rw [decide_eq_true hkk]
            subst hkk
            exact wpAny_bind (wpAny_rule (wpAny_pure (wpAny_pure (hsome x _ hkv))))
          · rw [decide_eq_false hkk]
            exact wpAny_bind (wpAny_rule (wpAny_pure ⟨rfl, rfl, x + 1, hrest', hlt, next x k' _ hkv hkk hnx⟩))
        · rw [if_neg hh]
          refine wpAny_pure ⟨rfl, rfl, x + 1, hrest', hlt, next x k' _ hkv (fun e => hh (by rw [e]; simp)) hnx⟩
      · rintro b s' ⟨rfl, rfl, i, hr, hi, hno⟩
        exact wpAny_pure (hnone (rest_none i hr hi hno))
    · -- the others
      by_cases hone : (((placesWithHash es.size (fun i => es[i]?.map (·.hash)) (hashX P w k)).filterMap (fun i => es[i]?.map (·.key))) == [Value.int ui ut]) = true <;>
      (first | rw [if_pos hone] | rw [if_neg hone]) <;> (first | refine wpAny_bind (wpAny_pure ?_) | refine wpAny_bind (tellsX hk hst ?_)) <;> (
        rw [if_neg (by simp)]
        refine wpAny_bind ?_
        refine wpAny_forIn_list _
          (fun rest b s' => s' = s ∧ ∃ i hit, b = (none, hit) ∧ rest = (List.range' i (es.size - i)).filter (fun i => (es[i]?.map (·.hash)) == some (hashX P w k)) ∧ i ≤ es.size ∧
            ((hit = none ∧ ∀ j p, j < i → xs[j]? ≠ some (k, p)) ∨ ∃ j p, hit = some j ∧ j < i ∧ xs[j]? = some (k, p))) _ ?_ ?_ _ _
          ⟨rfl, 0, none, rfl, by rw [placesWithHash, List.range_eq_range', Nat.sub_zero], Nat.zero_le _, .inl ⟨rfl, fun _ _ h => absurd h (Nat.not_lt_zero _)⟩⟩
        · rintro x rest b s' ⟨rfl, i, hit, rfl, hr, hi, hH⟩
          obtain ⟨hix, hxn, hpx, hskip, hrest⟩ := filter_range'_cons _ _ _ _ _ hr.symm
          have hlt : x < es.size := by omega
          have hrest' : rest = (List.range' (x + 1) (es.size - (x + 1))).filter (fun i => (es[i]?.map (·.hash)) == some (hashX P w k)) := by rw [hrest]; congr 2; omega
          obtain ⟨k', v, v', hkv, hex, hib⟩ := hget x hlt
          have hHx : (hit = none ∧ ∀ j p, j < x → xs[j]? ≠ some (k, p)) ∨ ∃ j p, hit = some j ∧ j < x ∧ xs[j]? = some (k, p) := by
            rcases hH with ⟨h0, hno⟩ | ⟨j, p, h1, hji, hj⟩
            · exact .inl ⟨h0, skip i x hskip hno⟩
            · exact .inr ⟨j, p, h1, by omega, hj⟩
          have hstay : ¬ k' = k → ((hit = none ∧ ∀ j p, j < x + 1 → xs[j]? ≠ some (k, p)) ∨ ∃ j p, hit = some j ∧ j < x + 1 ∧ xs[j]? = some (k, p)) := by
            intro hne
            rcases hHx with ⟨h0, hno⟩ | ⟨j, p, h1, hjx, hj⟩
            · exact .inl ⟨h0, next x k' _ hkv hne hno⟩
            · exact .inr ⟨j, p, h1, by omega, hj⟩
          rw [hex]
          dsimp only
          by_cases hh : (hashX P w k' == hashX P w k) = true
          · rw [if_pos hh]
            refine wpAny_bind (wpAny_dictEpoch ho hd (wpAny_bind (KAt.eqBool (x := k') (y := k) hu hib hk (wpAny_bind (wpAny_dictEpoch ho hd ?_)))))
            show wpAny _ _ (if (ep != ep) = true then _ else _) _ E _
            rw [if_neg (by simp)]
            by_cases hkk : k' = k
            · rw [decide_eq_true hkk]
              subst hkk
              rcases hHx with ⟨rfl, _⟩ | ⟨j, p, _, hjx, hj⟩
              · first | rw [if_pos rfl] | skip
                simp only [Option.isSome_none, Bool.false_eq_true, if_false]
                first | refine wpAny_bind (wpAny_pure ?_) | skip
                refine wpAny_bind (wpAny_rule ?_)
                split
                · exact wpAny_pure (wpAny_pure (hsome x _ hkv))
                · exact wpAny_pure ⟨rfl, x + 1, some x, rfl, hrest', hlt, .inr ⟨x, _, rfl, Nat.lt_succ_self x, hkv⟩⟩
              · exact absurd (tab_uniq hn hj hkv) (by omega)
            · rw [decide_eq_false hkk]
              simp only [Bool.false_eq_true, if_false]
              refine wpAny_bind (wpAny_rule ?_)
              first | rw [if_neg (by simp)] | skip
              first
                | exact wpAny_pure ⟨rfl, x + 1, hit, rfl, hrest', hlt, hstay hkk⟩
                | exact wpAny_bind (wpAny_pure (wpAny_pure ⟨rfl, x + 1, hit, rfl, hrest', hlt, hstay hkk⟩))
          · rw [if_neg hh]
            exact wpAny_pure ⟨rfl, x + 1, hit, rfl, hrest', hlt, hstay (fun e => hh (by rw [e]; simp))⟩
        · rintro b s' ⟨rfl, i, hit, rfl, hr, hi, hH⟩
          rcases hH with ⟨rfl, hno⟩ | ⟨j, p, rfl, _, hj⟩
          · exact wpAny_pure (hnone (rest_none i hr hi hno))
          · exact wpAny_pure (hsome j p hj))
  · unfold dictFind
    try with_reducible refine wpAny_holding ?_
    refine wpAny_bind (wpAny_dictEntries ho hd ?_)
    dsimp only
    refine wp_if (fun hstrs => ?_) (fun _ => ?_)
    ·
      have hfun : ∀ e ∈ es, e.key.isStr x = true ↔ ∃ p, e = entX P w (k, p) ∧ (k, p) ∈ xs := by
        intro e hin
        obtain ⟨y, hy, rfl⟩ := hmem e hin
        have hs := KAt.strs hk (his y hy)
        show y.2.1.isStr x = true ↔ _
        rw [hs]
        constructor
        · intro z
          have z := of_decide_eq_true z
          refine ⟨y.2, ?_, ?_⟩
          · rw [← z]
          · rw [← z]; exact hy
        · rintro ⟨p, e1, e2⟩
          refine decide_eq_true ?_
          have h1 : y.2.1 = p.1 := congrArg DictEntry.key e1
          have := his _ e2
          have h2 := his y hy
          rw [h1] at h2
          exact KAt.inj h2 this
      unfold foundByValue
      cases hf : es.findIdx? (fun e => e.key.isStr x) with
      | none =>
        refine wpAny_pure (hnone fun j p hj => ?_)
        have hin : entX P w (k, p) ∈ es := by
          have : es[j]? = some (entX P w (k, p)) := by rw [ent_at he j, hj]; rfl
          exact Array.mem_of_getElem? this
        have := Array.findIdx?_eq_none_iff.mp hf _ hin
        have h2 := (hfun _ hin).mpr ⟨p, rfl, List.mem_of_getElem? hj⟩
        rw [h2] at this
        cases this
      | some i =>
        obtain ⟨hlt, hi, _⟩ := Array.findIdx?_eq_some_iff_getElem.mp hf
        obtain ⟨k', v, v', hkv, hex, hib⟩ := hget i hlt
        have hkk : k' = k := by
          have e1 : es[i] = ⟨hashX P w k', v, v'⟩ := by
            have := Array.getElem?_eq_getElem hlt
            rw [hex] at this
            exact (Option.some.inj this).symm
          rw [e1] at hi
          have := KAt.strs hk hib
          rw [show v.isStr x = true from hi] at this
          exact of_decide_eq_true this.symm
        subst hkk
        simp only [hex]
        refine wpAny_bind (wpAny_dictEpoch ho hd (wpAny_bind (KAt.eqBool (x := k') (y := k') hu hib hk (wpAny_bind (wpAny_dictEpoch ho hd ?_)))))
        show wpAny _ _ (if (ep != ep) = true then _ else _) _ E _
        rw [if_neg (by simp), decide_eq_true rfl]
        exact wpAny_bind (wpAny_rule (wpAny_pure (hsome i _ hkv)))
    ·
      refine wp_if (fun _ => ?_) (fun _ => ?_)
      · -- plain
        refine wpAny_bind ?_
        refine wpAny_forIn_list _
          (fun rest b s' => s' = s ∧ b = (none, ()) ∧ ∃ i, rest = (List.range' i (es.size - i)).filter (fun i => (es[i]?.map (·.hash)) == some (hashX P w k)) ∧ i ≤ es.size ∧ ∀ j p, j < i → xs[j]? ≠ some (k, p)) _ ?_ ?_ _ _
          ⟨rfl, rfl, 0, by rw [placesWithHash, List.range_eq_range', Nat.sub_zero], Nat.zero_le _, fun _ _ h => absurd h (Nat.not_lt_zero _)⟩
        · rintro x rest b s' ⟨rfl, rfl, i, hr, hi, hno⟩
          obtain ⟨hix, hxn, hpx, hskip, hrest⟩ := filter_range'_cons _ _ _ _ _ hr.symm
          have hlt : x < es.size := by omega
          obtain ⟨k', v, v', hkv, hex, hib⟩ := hget x hlt
          have hnx := skip i x hskip hno
          have hrest' : rest = (List.range' (x + 1) (es.size - (x + 1))).filter (fun i => (es[i]?.map (·.hash)) == some (hashX P w k)) := by rw [hrest]; congr 2; omega
          rw [hex]
          dsimp only
          by_cases hh : (hashX P w k' == hashX P w k) = true
          · rw [if_pos hh]
            refine wpAny_bind (wpAny_dictEpoch ho hd (wpAny_bind (KAt.eqBool (x := k') (y := k) hu hib hk (wpAny_bind (wpAny_dictEpoch ho hd ?_)))))
            show wpAny _ _ (if (ep != ep) = true then _ else _) _ E _
            rw [if_neg (by simp)]
            by_cases hkk : k' = k
            · rw [decide_eq_true hkk]
              subst hkk
              exact wpAny_bind (wpAny_rule (wpAny_pure (wpAny_pure (hsome x _ hkv))))
            · rw [decide_eq_false hkk]
              exact wpAny_bind (wpAny_rule (wpAny_pure ⟨rfl, rfl, x + 1, hrest', hlt, next x k' _ hkv hkk hnx⟩))
          · rw [if_neg hh]
            refine wpAny_pure ⟨rfl, rfl, x + 1, hrest', hlt, next x k' _ hkv (fun e => hh (by rw [e]; simp)) hnx⟩
        · rintro b s' ⟨rfl, rfl, i, hr, hi, hno⟩
          exact wpAny_pure (hnone (rest_none i hr hi hno))
      · -- the others
        by_cases hone : (((placesWithHash es.size (fun i => es[i]?.map (·.hash)) (hashX P w k)).filterMap (fun i => es[i]?.map (·.key))) == [Value.str x t]) = true <;>
        (first | rw [if_pos hone] | rw [if_neg hone]) <;> (first | refine wpAny_bind (wpAny_pure ?_) | refine wpAny_bind (tellsX hk hst ?_)) <;> (
          rw [if_neg (by simp)]
          refine wpAny_bind ?_
          refine wpAny_forIn_list _
            (fun rest b s' => s' = s ∧ ∃ i hit, b = (none, hit) ∧ rest = (List.range' i (es.size - i)).filter (fun i => (es[i]?.map (·.hash)) == some (hashX P w k)) ∧ i ≤ es.size ∧
              ((hit = none ∧ ∀ j p, j < i → xs[j]? ≠ some (k, p)) ∨ ∃ j p, hit = some j ∧ j < i ∧ xs[j]? = some (k, p))) _ ?_ ?_ _ _
            ⟨rfl, 0, none, rfl, by rw [placesWithHash, List.range_eq_range', Nat.sub_zero], Nat.zero_le _, .inl ⟨rfl, fun _ _ h => absurd h (Nat.not_lt_zero _)⟩⟩
          · rintro x rest b s' ⟨rfl, i, hit, rfl, hr, hi, hH⟩
            obtain ⟨hix, hxn, hpx, hskip, hrest⟩ := filter_range'_cons _ _ _ _ _ hr.symm
            have hlt : x < es.size := by omega
            have hrest' : rest = (List.range' (x + 1) (es.size - (x + 1))).filter (fun i => (es[i]?.map (·.hash)) == some (hashX P w k)) := by rw [hrest]; congr 2; omega
            obtain ⟨k', v, v', hkv, hex, hib⟩ := hget x hlt
            have hHx : (hit = none ∧ ∀ j p, j < x → xs[j]? ≠ some (k, p)) ∨ ∃ j p, hit = some j ∧ j < x ∧ xs[j]? = some (k, p) := by
              rcases hH with ⟨h0, hno⟩ | ⟨j, p, h1, hji, hj⟩
              · exact .inl ⟨h0, skip i x hskip hno⟩
              · exact .inr ⟨j, p, h1, by omega, hj⟩
            have hstay : ¬ k' = k → ((hit = none ∧ ∀ j p, j < x + 1 → xs[j]? ≠ some (k, p)) ∨ ∃ j p, hit = some j ∧ j < x + 1 ∧ xs[j]? = some (k, p)) := by
              intro hne
              rcases hHx with ⟨h0, hno⟩ | ⟨j, p, h1, hjx, hj⟩
              · exact .inl ⟨h0, next x k' _ hkv hne hno⟩
              · exact .inr ⟨j, p, h1, by omega, hj⟩
            rw [hex]
            dsimp only
            by_cases hh : (hashX P w k' == hashX P w k) = true
            · rw [if_pos hh]
              refine wpAny_bind (wpAny_dictEpoch ho hd (wpAny_bind (KAt.eqBool (x := k') (y := k) hu hib hk (wpAny_bind (wpAny_dictEpoch ho hd ?_)))))
              show wpAny _ _ (if (ep != ep) = true then _ else _) _ E _
              rw [if_neg (by simp)]
              by_cases hkk : k' = k
              · rw [decide_eq_true hkk]
                subst hkk
                rcases hHx with ⟨rfl, _⟩ | ⟨j, p, _, hjx, hj⟩
                · first | rw [if_pos rfl] | skip
                  simp only [Option.isSome_none, Bool.false_eq_true, if_false]
                  first | refine wpAny_bind (wpAny_pure ?_) | skip
                  refine wpAny_bind (wpAny_rule ?_)
                  split
                  · exact wpAny_pure (wpAny_pure (hsome x _ hkv))
                  · exact wpAny_pure ⟨rfl, x + 1, some x, rfl, hrest', hlt, .inr ⟨x, _, rfl, Nat.lt_succ_self x, hkv⟩⟩
                · exact absurd (tab_uniq hn hj hkv) (by omega)
              · rw [decide_eq_false hkk]
                simp only [Bool.false_eq_true, if_false]
                refine wpAny_bind (wpAny_rule ?_)
                first | rw [if_neg (by simp)] | skip
                first
                  | exact wpAny_pure ⟨rfl, x + 1, hit, rfl, hrest', hlt, hstay hkk⟩
                  | exact wpAny_bind (wpAny_pure (wpAny_pure ⟨rfl, x + 1, hit, rfl, hrest', hlt, hstay hkk⟩))
            · rw [if_neg hh]
              exact wpAny_pure ⟨rfl, x + 1, hit, rfl, hrest', hlt, hstay (fun e => hh (by rw [e]; simp))⟩
          · rintro b s' ⟨rfl, i, hit, rfl, hr, hi, hH⟩
            rcases hH with ⟨rfl, hno⟩ | ⟨j, p, rfl, _, hj⟩
            · exact wpAny_pure (hnone (rest_none i hr hi hno))
            · exact wpAny_pure (hsome j p hj))
  · unfold dictFind
    try with_reducible refine wpAny_holding ?_
    refine wpAny_bind (wpAny_dictEntries ho hd ?_)
    dsimp only
    have hany : ¬ (es.any fun e => e.key == Value.ref a && e.hash != hashX P w k) = true := by
      rw [← Array.any_toList, List.any_eq_true]
      rintro ⟨e, hin, hc⟩
      obtain ⟨x, hx, rfl⟩ := hmem e (Array.mem_toList_iff.mp hin)
      simp only [entX, Bool.and_eq_true, beq_iff_eq, bne_iff_ne, ne_eq] at hc
      obtain ⟨hxa, hne⟩ := hc
      have := his x hx
      rw [hxa] at this
      exact hne (by rw [KAt.inj this hk])
    refine wp_if (fun _ => ?_) (fun _ => ?_)
    · -- plain
      refine wpAny_bind ?_
      refine wpAny_forIn_list _
        (fun rest b s' => s' = s ∧ b = (none, ()) ∧ ∃ i, rest = (List.range' i (es.size - i)).filter (fun i => (es[i]?.map (·.hash)) == some (hashX P w k)) ∧ i ≤ es.size ∧ ∀ j p, j < i → xs[j]? ≠ some (k, p)) _ ?_ ?_ _ _
        ⟨rfl, rfl, 0, by rw [placesWithHash, List.range_eq_range', Nat.sub_zero], Nat.zero_le _, fun _ _ h => absurd h (Nat.not_lt_zero _)⟩
      · rintro x rest b s' ⟨rfl, rfl, i, hr, hi, hno⟩
        obtain ⟨hix, hxn, hpx, hskip, hrest⟩ := filter_range'_cons _ _ _ _ _ hr.symm
        have hlt : x < es.size := by omega
        obtain ⟨k', v, v', hkv, hex, hib⟩ := hget x hlt
        have hnx := skip i x hskip hno
        have hrest' : rest = (List.range' (x + 1) (es.size - (x + 1))).filter (fun i => (es[i]?.map (·.hash)) == some (hashX P w k)) := by rw [hrest]; congr 2; omega
        rw [hex]
        dsimp only
        by_cases hh : (hashX P w k' == hashX P w k) = true
        · rw [if_pos hh]
          refine wpAny_bind (wpAny_dictEpoch ho hd (wpAny_bind (KAt.eqBool (x := k') (y := k) hu hib hk (wpAny_bind (wpAny_dictEpoch ho hd ?_)))))
          show wpAny _ _ (if (ep != ep) = true then _ else _) _ E _
          rw [if_neg (by simp)]
          by_cases hkk : k' = k
          · rw [decide_eq_true hkk]
            subst hkk
            exact wpAny_bind (wpAny_rule (wpAny_pure (wpAny_pure (hsome x _ hkv))))
          · rw [decide_eq_false hkk]
            exact wpAny_bind (wpAny_rule (wpAny_pure ⟨rfl, rfl, x + 1, hrest', hlt, next x k' _ hkv hkk hnx⟩))
        · rw [if_neg hh]
          refine wpAny_pure ⟨rfl, rfl, x + 1, hrest', hlt, next x k' _ hkv (fun e => hh (by rw [e]; simp)) hnx⟩
      · rintro b s' ⟨rfl, rfl, i, hr, hi, hno⟩
        exact wpAny_pure (hnone (rest_none i hr hi hno))
    · -- the others
      rw [if_neg hany]
      by_cases hone : (((placesWithHash es.size (fun i => es[i]?.map (·.hash)) (hashX P w k)).filterMap (fun i => es[i]?.map (·.key))) == [Value.ref a]) = true <;>
      (first | rw [if_pos hone] | rw [if_neg hone]) <;> (first | refine wpAny_bind (wpAny_pure ?_) | refine wpAny_bind (tellsX hk hst ?_)) <;> (
        rw [if_neg (by simp)]
        refine wpAny_bind ?_
        refine wpAny_forIn_list _
          (fun rest b s' => s' = s ∧ ∃ i hit, b = (none, hit) ∧ rest = (List.range' i (es.size - i)).filter (fun i => (es[i]?.map (·.hash)) == some (hashX P w k)) ∧ i ≤ es.size ∧
            ((hit = none ∧ ∀ j p, j < i → xs[j]? ≠ some (k, p)) ∨ ∃ j p, hit = some j ∧ j < i ∧ xs[j]? = some (k, p))) _ ?_ ?_ _ _
          ⟨rfl, 0, none, rfl, by rw [placesWithHash, List.range_eq_range', Nat.sub_zero], Nat.zero_le _, .inl ⟨rfl, fun _ _ h => absurd h (Nat.not_lt_zero _)⟩⟩
        · rintro x rest b s' ⟨rfl, i, hit, rfl, hr, hi, hH⟩
          obtain ⟨hix, hxn, hpx, hskip, hrest⟩ := filter_range'_cons _ _ _ _ _ hr.symm
          have hlt : x < es.size := by omega
          have hrest' : rest = (List.range' (x + 1) (es.size - (x + 1))).filter (fun i => (es[i]?.map (·.hash)) == some (hashX P w k)) := by rw [hrest]; congr 2; omega
          obtain ⟨k', v, v', hkv, hex, hib⟩ := hget x hlt
          have hHx : (hit = none ∧ ∀ j p, j < x → xs[j]? ≠ some (k, p)) ∨ ∃ j p, hit = some j ∧ j < x ∧ xs[j]? = some (k, p) := by
            rcases hH with ⟨h0, hno⟩ | ⟨j, p, h1, hji, hj⟩
            · exact .inl ⟨h0, skip i x hskip hno⟩
            · exact .inr ⟨j, p, h1, by omega, hj⟩
          have hstay : ¬ k' = k → ((hit = none ∧ ∀ j p, j < x + 1 → xs[j]? ≠ some (k, p)) ∨ ∃ j p, hit = some j ∧ j < x + 1 ∧ xs[j]? = some (k, p)) := by
            intro hne
            rcases hHx with ⟨h0, hno⟩ | ⟨j, p, h1, hjx, hj⟩
            · exact .inl ⟨h0, next x k' _ hkv hne hno⟩
            · exact .inr ⟨j, p, h1, by omega, hj⟩
          rw [hex]
          dsimp only
          by_cases hh : (hashX P w k' == hashX P w k) = true
          · rw [if_pos hh]
            refine wpAny_bind (wpAny_dictEpoch ho hd (wpAny_bind (KAt.eqBool (x := k') (y := k) hu hib hk (wpAny_bind (wpAny_dictEpoch ho hd ?_)))))
            show wpAny _ _ (if (ep != ep) = true then _ else _) _ E _
            rw [if_neg (by simp)]
            by_cases hkk : k' = k
            · rw [decide_eq_true hkk]
              subst hkk
              rcases hHx with ⟨rfl, _⟩ | ⟨j, p, _, hjx, hj⟩
              · first | rw [if_pos rfl] | skip
                simp only [Option.isSome_none, Bool.false_eq_true, if_false]
                first | refine wpAny_bind (wpAny_pure ?_) | skip
                refine wpAny_bind (wpAny_rule ?_)
                split
                · exact wpAny_pure (wpAny_pure (hsome x _ hkv))
                · exact wpAny_pure ⟨rfl, x + 1, some x, rfl, hrest', hlt, .inr ⟨x, _, rfl, Nat.lt_succ_self x, hkv⟩⟩
              · exact absurd (tab_uniq hn hj hkv) (by omega)
            · rw [decide_eq_false hkk]
              simp only [Bool.false_eq_true, if_false]
              refine wpAny_bind (wpAny_rule ?_)
              first | rw [if_neg (by simp)] | skip
              first
                | exact wpAny_pure ⟨rfl, x + 1, hit, rfl, hrest', hlt, hstay hkk⟩
                | exact wpAny_bind (wpAny_pure (wpAny_pure ⟨rfl, x + 1, hit, rfl, hrest', hlt, hstay hkk⟩))
          · rw [if_neg hh]
            exact wpAny_pure ⟨rfl, x + 1, hit, rfl, hrest', hlt, hstay (fun e => hh (by rw [e]; simp))⟩
        · rintro b s' ⟨rfl, i, hit, rfl, hr, hi, hH⟩
          rcases hH with ⟨rfl, hno⟩ | ⟨j, p, rfl, _, hj⟩
          · exact wpAny_pure (hnone (rest_none i hr hi hno))
          · exact wpAny_pure (hsome j p hj))
end
end L2

namespace L2
open PySem PySem.Spec PyProof.Rows
open Sem (wp)

/-! ### what a table holds, and a store -/
def atX (xs : Tab) (k : KD) : Option (Value × Value) := (xs.find? fun x => decide (x.1 = k)).map (·.2)
def putX (k : KD) (v : Value) (x : KD × Value × Value) : KD × Value × Value := if x.1 = k then (x.1, x.2.1, v) else x
def stoX (xs : Tab) (k : KD) (u v : Value) : Tab := if (atX xs k).isSome then xs.map (putX k v) else xs ++ [(k, u, v)]
theorem atX_of_get {xs : Tab} (hn : (xs.map (·.1)).Nodup) {i : Nat} {k : KD} {p : Value × Value} (hx : xs[i]? = some (k, p)) : atX xs k = some p := by
  induction xs generalizing i with
  | nil => simp at hx
  | cons x rest ih =>
    rw [List.map_cons, List.nodup_cons] at hn
    cases i with
    | zero =>
      simp only [List.getElem?_cons_zero, Option.some.injEq] at hx
      subst hx; simp [atX]
    | succ j =>
      simp only [List.getElem?_cons_succ] at hx
      have hmem : k ∈ rest.map (·.1) := List.mem_map.mpr ⟨(k, p), List.mem_of_getElem? hx, rfl⟩
      have hne : ¬ x.1 = k := fun e => hn.1 (e ▸ hmem)
      have := ih hn.2 hx
      simpa [atX, List.find?_cons, hne] using this
theorem atX_none {xs : Tab} {k : KD} (h : ∀ (j : Nat) (p : Value × Value), xs[j]? ≠ some (k, p)) : atX xs k = none := by
  have : (xs.find? fun x => decide (x.1 = k)) = none := by
    rw [List.find?_eq_none]
    intro x hx hk
    obtain ⟨j, hj⟩ := List.mem_iff_getElem?.mp hx
    have hk' : x.1 = k := of_decide_eq_true hk
    exact h j x.2 (by rw [hj, ← hk'])
  simp [atX, this]
theorem keyX_not {xs : Tab} {k : KD} (h : ∀ (j : Nat) (p : Value × Value), xs[j]? ≠ some (k, p)) : k ∉ xs.map (·.1) := by
  intro hm
  obtain ⟨x, hx, rfl⟩ := List.mem_map.mp hm
  obtain ⟨j, hj⟩ := List.mem_iff_getElem?.mp hx
  exact h j x.2 hj
theorem map_putX_not (xs : Tab) (k : KD) (v : Value) (hn : k ∉ xs.map (·.1)) : xs.map (putX k v) = xs := by
  induction xs with
  | nil => rfl
  | cons x xs ih =>
    simp only [List.map_cons, List.mem_cons, not_or] at hn ⊢
    rw [putX, if_neg (fun e => hn.1 e.symm), ih hn.2]
theorem keys_putX (xs : Tab) (k : KD) (v : Value) : (xs.map (putX k v)).map (·.1) = xs.map (·.1) := by
  induction xs with
  | nil => rfl
  | cons x xs ih =>
    simp only [List.map_cons, ih]
    by_cases hk : x.1 = k <;> simp [putX, hk]
theorem modify_putX {β : Type} (f : KD × Value × Value → β) (g : β → β) (k : KD) (v : Value) (hg : ∀ a v₀, g (f (k, a, v₀)) = f (k, a, v)) :
    ∀ {xs : Tab} {j : Nat} {p : Value × Value}, (xs.map (·.1)).Nodup → xs[j]? = some (k, p) → (xs.map f).modify j g = (xs.map (putX k v)).map f := by
  intro xs
  induction xs with
  | nil => intro j p _ hj; simp at hj
  | cons x rest ih =>
    intro j p hn hj
    rw [List.map_cons, List.nodup_cons] at hn
    cases j with
    | zero =>
      simp only [List.getElem?_cons_zero, Option.some.injEq] at hj
      subst hj
      rw [List.map_cons, List.map_cons, map_putX_not rest k v hn.1, putX, if_pos rfl, List.map_cons]
      show g (f (k, p)) :: rest.map f = f (k, p.1, v) :: rest.map f
      rw [show (k, p) = (k, p.1, p.2) from rfl, hg]
    | succ j =>
      simp only [List.getElem?_cons_succ] at hj
      have hmem : k ∈ rest.map (·.1) := List.mem_map.mpr ⟨(k, p), List.mem_of_getElem? hj, rfl⟩
      have hne : ¬ x.1 = k := fun e => hn.1 (e ▸ hmem)
      rw [List.map_cons, List.map_cons, putX, if_neg hne, List.map_cons]
      show f x :: (rest.map f).modify j g = f x :: (rest.map (putX k v)).map f
      rw [ih hn.2 hj]

section
variable {P : Program} {w : World} {A : Around} {E : Value → Shared → Prop} {s : Shared}
/-- the dict at d, its epoch, its table -/
def DX (P : Program) (w : World) (h : Heap) (d : Addr) (ep : Nat) (xs : Tab) : Prop :=
  ∃ o es, h.get? d = some o ∧ o.ExactDict ∧ o.data = .dict es ep ∧ es.toList = xs.map (entX P w) ∧ (∀ x ∈ xs, KAt P w h x.1 x.2.1) ∧ (xs.map (·.1)).Nodup
theorem DX.typeIs {d : Addr} {ep : Nat} {xs : Tab} (m : DX P w s.heap d ep xs) : s.TypeIs (.ref d) "dict" := let ⟨o, _, ho, hc, _⟩ := m; ⟨o, ho, hc.1⟩
theorem getX {d : Addr} {ep : Nat} {xs : Tab} {k : KD} {u : Value} {Q : Option Value → Shared → Prop} (hu : A.units < cLine) (hk : KAt P w s.heap k u) (hm : DX P w s.heap d ep xs)
    (h : Q ((atX xs k).map (·.2)) { s with toks := s.toks + drawsX k }) : wpAny (model P w) A (dictGet d u) Q E s := by
  obtain ⟨o, es, ho, _, hd, he, his, hn⟩ := hm
  unfold dictGet
  try with_reducible refine wpAny_holding ?_
  refine wpAny_bind (hk.pyHash hu (wpAny_bind (findX (s := { s with toks := s.toks + drawsX k }) hu hk ho hd he his hn ?_ ?_)))
  · intro hno
    rw [atX_none hno] at h
    exact wpAny_pure h
  · intro j p hj
    rw [atX_of_get hn hj] at h
    refine wpAny_bind (wpAny_dictEntries (s := { s with toks := s.toks + drawsX k }) ho hd ?_)
    rw [ent_at he j, hj]
    exact wpAny_pure h
theorem setX {d : Addr} {ep : Nat} {xs : Tab} {k : KD} {u v : Value} {Q : Unit → Shared → Prop} (hu : A.units < cLine) (hk : KAt P w s.heap k u) (hm : DX P w s.heap d ep xs)
    (hQ : ∀ h', DX P w h' d (if (atX xs k).isSome then ep else ep + 1) (stoX xs k u v) → Heap.SameBut d s.heap h' → Q () { s with heap := h', toks := s.toks + drawsX k }) (hsz : xs.length ≤ sizeLine) :
    wpAny (model P w) A (dictSet d u v) Q E s := by
  obtain ⟨o, es, ho, hc, hd, he, his, hn⟩ := hm
  unfold dictSet
  try with_reducible refine wpAny_holding ?_
  refine wpAny_bind (hk.pyHash hu ?_)
  unfold dictSetHashed
  try with_reducible refine wpAny_holding ?_
  refine wpAny_bind (findX (s := { s with toks := s.toks + drawsX k }) hu hk ho hd he his hn ?_ ?_)
  · intro hno
    have hnot := keyX_not hno
    have hnone := atX_none hno
    have hQ' : ∀ h', DX P w h' d (ep + 1) (xs ++ [(k, u, v)]) → Heap.SameBut d s.heap h' → Q () { s with heap := h', toks := s.toks + drawsX k } := fun h' m z => hQ h' (by rw [stoX, hnone]; exact m) z
    refine wpAny_bind (wpAny_rule (wpAny_updateDictKeys (hz := by have e := ent_size he; omega) (s := { s with toks := s.toks + drawsX k }) ho hd (hQ' _ ⟨_, _, Heap.get?_update_self _ ho (Obj.isFreed_of_dict (Obj.data_mapDictKeys hd _)),
      hc.mapDictKeys _, Obj.data_mapDictKeys hd _, ?_, ?_, ?_⟩ (Heap.SameBut.update ..))))
    · simp [he, entX]
    · intro x hx
      rcases List.mem_append.mp hx with hx | hx
      · exact (his x hx).keeps ho hd (Heap.SameBut.update ..)
      · simp only [List.mem_singleton] at hx
        subst hx
        exact hk.keeps ho hd (Heap.SameBut.update ..)
    · rw [List.map_append, List.nodup_append]
      refine ⟨hn, by simp, ?_⟩
      intro x hx y hy
      simp only [List.map_cons, List.map_nil, List.mem_singleton] at hy
      subst hy
      exact fun e => hnot (e ▸ hx)
  · intro j p hj
    have hsome := atX_of_get hn hj
    have hQ' : ∀ h', DX P w h' d ep (xs.map (putX k v)) → Heap.SameBut d s.heap h' → Q () { s with heap := h', toks := s.toks + drawsX k } := fun h' m z => hQ h' (by rw [stoX, hsome]; exact m) z
    refine wpAny_bind (wpAny_rule (wpAny_bind (wpAny_updateDict (s := { s with toks := s.toks + drawsX k }) ho hd (wpAny_point (hQ' _ ⟨_, _, Heap.get?_update_self _ ho (Obj.isFreed_of_dict (Obj.data_mapDict hd _)),
      hc.mapDict _, Obj.data_mapDict hd _, ?_, ?_, ?_⟩ (Heap.SameBut.update ..))))))
    · have := modify_putX (entX P w) (fun e : DictEntry => { e with val := v }) k v (fun _ _ => rfl) hn hj
      rw [← he] at this
      obtain ⟨l⟩ := es
      simpa using this
    · intro x hx
      obtain ⟨y, hy, rfl⟩ := List.mem_map.mp hx
      unfold putX
      split <;> exact (his y hy).keeps ho hd (Heap.SameBut.update ..)
    · rw [keys_putX]; exact hn

/-! ### the operations -/
theorem in_x {d : Addr} {ep : Nat} {xs : Tab} {k : KD} {u : Value} {Q : Value → Shared → Prop} (hu : A.units + 1 < cLine) (hk : KAt P w s.heap k u) (hd : (d == sysModules) = false) (hm : DX P w s.heap d ep xs)
    (h : Q (.bool (atX xs k).isSome) { s with toks := s.toks + drawsX k }) : wpAny (model P w) A (compareOp .In u (.ref d)) Q E s := by
  show wpAny _ _ (do return .bool (← contains (.ref d) u)) Q E s
  refine wpAny_bind ?_
  unfold contains
  try with_reducible refine wpAny_holding ?_
  refine wpAny_bind (wpAny_specialOf hm.typeIs slot_dict_contains.lookup ?_)
  show wpAny _ _ (if (some (Value.builtin "dict.__contains__") == some Value.none) = true then _ else _) _ E s
  rw [if_neg (by rw [beq_builtin_none]; exact Bool.false_ne_true)]
  refine wpAny_bind (wpAny_callSpecialUnlessNone?_slot (name := Str.ofString "__contains__") hm.typeIs slot_dict_contains
    (wpAny_call_entry slot_dict_contains hm.typeIs entry_dict_contains ?_ (args_dict_contains _ _)))
  show wpAny _ _ (dictGet d u >>= _) _ _ s
  refine wpAny_bind (getX (A := A.in1) hu hk hm ?_)
  cases hf : atX xs k with
  | some p =>
    rw [hf] at h
    exact wpAny_pure ⟨_, rfl, wpAny_truthy_bool (wpAny_pure h)⟩
  | none =>
    rw [hf] at h
    show wpAny _ _ (Builtin.Dict.pendingKey? d u >>= _) _ _ _
    exact wpAny_bind (wpAny_pendingKey_other hd (wpAny_pure ⟨_, rfl, wpAny_truthy_bool (wpAny_pure h)⟩))
theorem notIn_x {d : Addr} {ep : Nat} {xs : Tab} {k : KD} {u : Value} {Q : Value → Shared → Prop} (hu : A.units + 1 < cLine) (hk : KAt P w s.heap k u) (hd : (d == sysModules) = false) (hm : DX P w s.heap d ep xs)
    (h : Q (.bool (!(atX xs k).isSome)) { s with toks := s.toks + drawsX k }) : wpAny (model P w) A (compareOp .NotIn u (.ref d)) Q E s := by
  show wpAny _ _ (do return .bool (!(← contains (.ref d) u))) Q E s
  refine wpAny_bind ?_
  unfold contains
  try with_reducible refine wpAny_holding ?_
  refine wpAny_bind (wpAny_specialOf hm.typeIs slot_dict_contains.lookup ?_)
  show wpAny _ _ (if (some (Value.builtin "dict.__contains__") == some Value.none) = true then _ else _) _ E s
  rw [if_neg (by rw [beq_builtin_none]; exact Bool.false_ne_true)]
  refine wpAny_bind (wpAny_callSpecialUnlessNone?_slot (name := Str.ofString "__contains__") hm.typeIs slot_dict_contains
    (wpAny_call_entry slot_dict_contains hm.typeIs entry_dict_contains ?_ (args_dict_contains _ _)))
  show wpAny _ _ (dictGet d u >>= _) _ _ s
  refine wpAny_bind (getX (A := A.in1) hu hk hm ?_)
  cases hf : atX xs k with
  | some p =>
    rw [hf] at h
    exact wpAny_pure ⟨_, rfl, wpAny_truthy_bool (wpAny_pure h)⟩
  | none =>
    rw [hf] at h
    show wpAny _ _ (Builtin.Dict.pendingKey? d u >>= _) _ _ _
    exact wpAny_bind (wpAny_pendingKey_other hd (wpAny_pure ⟨_, rfl, wpAny_truthy_bool (wpAny_pure h)⟩))
theorem item_x {d : Addr} {ep : Nat} {xs : Tab} {k : KD} {u : Value} {p : Value × Value} {Q : Value → Shared → Prop} (hu : A.units + 1 < cLine) (hk : KAt P w s.heap k u) (hm : DX P w s.heap d ep xs) (hp : atX xs k = some p)
    (h : Q p.2 { s with toks := s.toks + drawsX k }) : wpAny (model P w) A (getItem (.ref d) u) Q E s := by
  unfold getItem
  try with_reducible refine wpAny_holding ?_
  refine wpAny_bind (wpAny_sequenceKey hm.typeIs (by decide) ?_)
  refine wpAny_bind (wpAny_callSpecial?_slot (name := Str.ofString "__getitem__") hm.typeIs slot_dict_getitem
    (wpAny_call_entry slot_dict_getitem hm.typeIs entry_dict_getitem ?_ (args_dict_getitem _ _)))
  show wpAny _ _ (dictGet d u >>= _) _ _ s
  refine wpAny_bind (getX (A := A.in1) hu hk hm ?_)
  rw [hp]
  exact wpAny_pure ⟨p.2, rfl, wpAny_pure h⟩
theorem setItem_x {d : Addr} {ep : Nat} {xs : Tab} {k : KD} {u v : Value} {Q : Unit → Shared → Prop} (hu : A.units + 1 < cLine) (hk : KAt P w s.heap k u) (hm : DX P w s.heap d ep xs)
    (hQ : ∀ h', DX P w h' d (if (atX xs k).isSome then ep else ep + 1) (stoX xs k u v) → Heap.SameBut d s.heap h' → Q () { s with heap := h', toks := s.toks + drawsX k }) (hsz : xs.length ≤ sizeLine) :
    wpAny (model P w) A (setItem (.ref d) u v) Q E s := by
  unfold setItem
  try with_reducible refine wpAny_holding ?_
  refine wpAny_bind (wpAny_sequenceKey hm.typeIs (by decide) ?_)
  refine wpAny_bind (wpAny_callSpecial?_slot (name := Str.ofString "__setitem__") hm.typeIs slot_dict_setitem
    (wpAny_call_entry slot_dict_setitem hm.typeIs entry_dict_setitem ?_ (args_dict_setitem _ _ _)))
  show wpAny _ _ (Builtin.Dict.notOrdered "__setitem__" ⟨[.ref d, u, v], []⟩ >>= _) _ _ s
  refine wpAny_bind (wpAny_notOrdered_dict hm.typeIs ?_)
  show wpAny _ _ (dictSet d u v >>= _) _ _ s
  exact wpAny_bind (setX (A := A.in1) hu hk hm (fun h' hm' hs' => wpAny_pure ⟨.none, rfl, wpAny_pure (hQ h' hm' hs')⟩) hsz)
theorem meets_get_x (d : Addr) (u : Value) (hd : (d == sysModules) = false) (dflt : Value) :
    MeetsIn P w (Builtin.«dict.get» ⟨[.ref d, u, dflt], []⟩) (fun A R s => A.units + 1 < cLine ∧ ∃ k ep xs, KAt P w s.heap k u ∧ DX P w s.heap d ep xs ∧
      R (.ok (.ret (((atX xs k).map (·.2)).getD dflt))) { s with toks := s.toks + drawsX k }) :=
  .of_wp fun A R s ⟨hu, k, ep, xs, hkey, hm, h⟩ => by
    show wpAny _ _ (dictGet d u >>= _) _ _ s
    refine wpAny_bind (getX (A := A.in1) hu hkey hm ?_)
    cases hf : (atX xs k).map (·.2) with
    | some v =>
      rw [hf] at h
      exact wpAny_pure ⟨v, rfl, h⟩
    | none =>
      rw [hf] at h
      show wpAny _ _ (Builtin.Dict.missed d u >>= _) _ _ _
      exact wpAny_bind (wpAny_missed_other hd (wpAny_pure ⟨dflt, rfl, h⟩))
theorem meets_get1_x (d : Addr) (u : Value) (hd : (d == sysModules) = false) :
    MeetsIn P w (Builtin.«dict.get» ⟨[.ref d, u], []⟩) (fun A R s => A.units + 1 < cLine ∧ ∃ k ep xs, KAt P w s.heap k u ∧ DX P w s.heap d ep xs ∧
      R (.ok (.ret (((atX xs k).map (·.2)).getD .none))) { s with toks := s.toks + drawsX k }) :=
  .of_wp fun A R s ⟨hu, k, ep, xs, hkey, hm, h⟩ => by
    show wpAny _ _ (dictGet d u >>= _) _ _ s
    refine wpAny_bind (getX (A := A.in1) hu hkey hm ?_)
    cases hf : (atX xs k).map (·.2) with
    | some v =>
      rw [hf] at h
      exact wpAny_pure ⟨v, rfl, h⟩
    | none =>
      rw [hf] at h
      show wpAny _ _ (Builtin.Dict.missed d u >>= _) _ _ _
      exact wpAny_bind (wpAny_missed_other hd (wpAny_pure ⟨.none, rfl, h⟩))
theorem meets_len_x (d : Addr) (hd : (d == sysModules) = false) :
    MeetsIn P w (Builtin.«dict.__len__» ⟨[.ref d], []⟩) (fun _ R s => ∃ ep xs, DX P w s.heap d ep xs ∧ R (.ok (.ret (.int xs.length s.toks))) { s with toks := s.toks + 1 }) :=
  .of_wp fun A R s ⟨ep, xs, hm, h⟩ => by
    obtain ⟨o, es, ho, hc, hdat, he, _⟩ := id hm
    have e := ent_size he
    show wpAny _ _ (dictSize d >>= _) _ _ s
    unfold dictSize
    refine wpAny_bind (wpAny_bind (wpAny_dictEntries ho hdat (wpAny_pure ?_)))
    show wpAny _ _ (Builtin.Dict.pendingCount d >>= _) _ _ s
    refine wpAny_bind (wpAny_pendingCount_other hd ?_)
    refine wpAny_ret_mkInt ?_
    rw [Nat.add_zero, e]
    exact h
theorem meets_clear_x (d : Addr) :
    MeetsIn P w (Builtin.«dict.clear» ⟨[.ref d], []⟩) (fun _ R s => ∃ ep xs, DX P w s.heap d ep xs ∧ xs.length ≤ sizeLine ∧
      ∀ h', DX P w h' d (ep + 1) [] → Heap.SameBut d s.heap h' → R (.ok (.ret .none)) { s with heap := h' }) :=
  .of_wp fun A R s ⟨ep, xs, hm, hsz, h⟩ => by
    obtain ⟨o, es, ho, hc, hdat, he, _⟩ := id hm
    have hes : es.size ≤ sizeLine := by have e := ent_size he; omega
    unfold Builtin.«dict.clear»
    refine wpAny_bind ?_
    unfold Builtin.Dict.noArgs
    refine wpAny_bind (wpAny_notOrdered_dict hm.typeIs ?_)
    show wpAny _ _ (pure d) _ _ s
    refine wpAny_pure ?_
    refine wpAny_bind (wpAny_dictEntries ho hdat ?_)
    refine wpAny_bind ?_
    unfold bearsInstanceDictMark
    refine wpAny_bind (wpAny_load ho (wpAny_pure ?_))
    refine wpAny_bind (wpAny_updateDictKeys (hz := hes) ho hdat ?_)
    have hnew : DX P w (s.heap.update d (Obj.mapDictKeys fun _ => #[])) d (ep + 1) [] :=
      ⟨_, _, Heap.get?_update_self _ ho (Obj.isFreed_of_dict (Obj.data_mapDictKeys hdat _)), hc.mapDictKeys _, Obj.data_mapDictKeys hdat _, rfl, fun _ he => by simp at he, List.nodup_nil⟩
    split
    · exact wpAny_bind (wpAny_letGo (wpAny_pure ⟨.none, rfl, h _ hnew (Heap.SameBut.update ..)⟩))
    · exact wpAny_bind (wpAny_pure (wpAny_pure ⟨.none, rfl, h _ hnew (Heap.SameBut.update ..)⟩))
theorem len_x {d : Addr} {ep : Nat} {xs : Tab} {Q : Value → Shared → Prop} (hd : (d == sysModules) = false) (hm : DX P w s.heap d ep xs) (hfit : (xs.length : Int) < 2 ^ 63)
    (h : Q (.int xs.length (s.toks + 1)) { s with toks := s.toks + 1 + 1 }) : wpAny (model P w) A (call (.builtin "len") [.ref d]) Q E s := by
  refine Calls.call_function_entry kind_len plain_len entry_len (args_len1 _) ?_
  unfold Builtin.«len»
  refine wpAny_bind (m := oneArg "len" _) (wpAny_pure ?_)
  refine wpAny_bind (m := callSpecial? (.ref d) (Str.ofString "__len__")) (wpAny_callSpecial?_slot (name := Str.ofString "__len__") hm.typeIs F.slot_dict_len
    (call_meetsIn F.slot_dict_len hm.typeIs F.entry_dict_len (F.args_dict_len_1 _) (meets_len_x d hd) ⟨ep, xs, hm, ?_⟩))
  show wpAny _ _ _ _ _ { s with toks := s.toks + 1 }
  refine wpAny_bind (wpAny_holding (wpAny_pure ?_))
  refine wpAny_bind (wpAny_letGo ?_)
  show wpAny _ _ (if ((xs.length : Nat) : Int) < 0 then _ else _) _ _ _
  rw [if_neg (by omega)]
  show wpAny _ _ (if ((xs.length : Nat) : Int) ≥ 2 ^ 63 then _ else _) _ _ _
  rw [if_neg (by omega)]
  exact wpAny_bind (wpAny_mkInt (wpAny_pure ⟨_, rfl, h⟩))
end
end L2

namespace L2
open PySem
open Sem (wp)
/-! ### the keys, the values of a dict, one after another (by its entries alone) -/
section
variable {P : Program} {w : World} {A : Around} {E : Value → Shared → Prop} {s : Shared}
def RawD (h : Heap) (d : Addr) (es : Array DictEntry) (ep : Nat) : Prop := ∃ o, h.get? d = some o ∧ o.ExactDict ∧ o.data = .dict es ep
theorem RawD.typeIs {d : Addr} {es ep} (m : RawD s.heap d es ep) : s.TypeIs (.ref d) "dict" := let ⟨o, ho, hc, _⟩ := m; ⟨o, ho, hc.1⟩
theorem meets_values_x (d : Addr) (hd : (d == sysModules) = false) :
    MeetsIn P w (Builtin.«dict.values» ⟨[.ref d], []⟩) (fun _ R s => (∃ es ep, RawD s.heap d es ep) ∧
      R (.ok (.ret (.ref s.heap.objs.size))) { s with heap := s.heap.push { cls := .type "dict_values", data := .fields #[.ref d] } }) :=
  .of_wp fun A R s ⟨⟨es, ep, hm⟩, h⟩ => by
    refine wpAny_bind ?_
    unfold Builtin.Dict.noArgs
    refine wpAny_bind (wpAny_notOrdered_dict hm.typeIs ?_)
    show wpAny _ _ (pure d) _ _ s
    refine wpAny_pure ?_
    show wpAny _ _ (Builtin.Dict.showsAll d >>= _) _ _ s
    unfold Builtin.Dict.showsAll
    rw [if_neg (by rw [hd]; exact Bool.false_ne_true)]
    exact wpAny_bind (wpAny_pure (wpAny_bind (wpAny_newObj_type (wpAny_pure ⟨_, rfl, h⟩))))

theorem iter_keys_x {d : Addr} {es : Array DictEntry} {ep : Nat} {Q : Value → Shared → Prop} (hS : (d == sysModules) = false) (hm : RawD s.heap d es ep)
    (hQ : Q (.ref s.heap.objs.size) { s with heap := s.heap.push { cls := .type "dict_keyiterator", data := .fields #[.ref d, .int 0 0, .int es.size 0, .int ep 0] } }) :
    wpAny (model P w) A (pyIter (.ref d)) Q E s := by
  obtain ⟨o, ho, hc, hdat⟩ := id hm
  have hT : s.TypeIs (.ref d) "dict" := hm.typeIs
  refine wpAny_pyIter_slot hT F.slot_dict_iter (wpAny_call_entry F.slot_dict_iter hT F.entry_dict_iter ?_ (F.args_dict_iter_1 _))
  unfold Builtin.«dict.__iter__»
  refine wpAny_bind ?_
  unfold Builtin.Dict.dictSlotNone
  refine wpAny_bind (wpAny_notOrdered_dict hT ?_)
  show wpAny _ _ (pure (Value.ref d)) _ _ s
  refine wpAny_pure ?_
  show wpAny _ _ (Builtin.Dict.showsAll d >>= _) _ _ s
  unfold Builtin.Dict.showsAll
  rw [if_neg (by rw [hS]; exact Bool.false_ne_true)]
  refine wpAny_bind (wpAny_pure (wpAny_bind (wpAny_dictEntries ho hdat (wpAny_bind (wpAny_dictEpoch ho hdat ?_)))))
  refine wpAny_bind (wpAny_newObj_type (wpAny_pure ⟨_, rfl, "dict_keyiterator", _, ⟨_, Heap.get?_push_size _ rfl, rfl⟩, F.slot_dict_keyiterator_next.lookup, ?_⟩))
  simpa [rawInt] using hQ
theorem next_keys_x {it d : Addr} {i ep : Nat} {es : Array DictEntry} {e : DictEntry} {Q : Option Value → Shared → Prop} (hit : s.heap.IsKeyIter it d i es.size ep) (hm : RawD s.heap d es ep) (hx : es[i]? = some e)
    (hQ : ∀ h', h'.IsKeyIter it d (i + 1) es.size ep → Heap.SameBut it s.heap h' → Q (some e.key) { s with heap := h' }) : wpAny (model P w) A (pyNext (.ref it)) Q E s := by
  obtain ⟨o, ho, hc, hd⟩ := id hit
  obtain ⟨od, hod, hcd, hdd⟩ := id hm
  have hT := hit.typeIs
  unfold pyNext
  refine wpAny_bind (wpAny_attempt (wpAny_callSpecial?_slot (name := Str.ofString "__next__") hT F.slot_dict_keyiterator_next (wpAny_call_entry F.slot_dict_keyiterator_next hT F.entry_dict_keyiterator_next ?_ (F.args_dict_keyiterator_next_1 _))))
  refine wpAny_bind (wpAny_pure (wpAny_bind (wpAny_bind ?_)))
  first | refine wpAny_bind (wpAny_typeNameOfWhole_keyiter hT (wpAny_pure ?_)) | refine wpAny_bind (wpAny_typeNameOf_keyiter hT (wpAny_pure ?_))
  refine wpAny_bind (wpAny_fieldsOf ho hd ?_)
  simp only [show Builtin.Dict_items.ownsTuple "dict_keyiterator" = false from by decide, Bool.false_eq_true, if_false]
  show wpAny _ _ (if (Value.ref d == Value.none) = true then _ else _) _ _ s
  rw [if_neg (show ¬ ((Value.ref d == Value.none) = true) from Bool.false_ne_true)]
  refine wpAny_bind (wpAny_pure (wpAny_bind (wpAny_dictEntries hod hdd ?_)))
  rw [if_neg (by simp)]
  refine wpAny_bind (wpAny_pure (wpAny_bind (wpAny_dictEpoch hod hdd ?_)))
  rw [if_neg (by simp)]
  refine wpAny_pure ?_
  simp only [show ¬ ((i : Int) < 0) from by omega, if_false, Int.toNat_natCast, hx]
  refine wpAny_bind ?_
  first | refine wpAny_bind (wpAny_typeNameOfWhole_keyiter hT (wpAny_pure ?_)) | refine wpAny_bind (wpAny_typeNameOf_keyiter hT (wpAny_pure ?_))
  refine wpAny_bind (wpAny_isOneOf_keyiter hT ?_)
  show wpAny _ _ (setField (.ref it) 1 (rawInt ((i : Int) + 1)) >>= _) _ _ s
  refine wpAny_bind (wpAny_setField ho hd (by simp) ?_)
  have hit' : (s.heap.update it (Obj.mapFields (·.setIfInBounds 1 (rawInt ((i : Int) + 1))))).IsKeyIter it d (i + 1) es.size ep :=
    ⟨_, Heap.get?_update_self _ ho (Obj.isFreed_of_fields (Obj.data_mapFields hd _)), (Obj.cls_mapFields ..).trans hc, by rw [Obj.data_mapFields hd]; simp [rawInt]⟩
  have hT' : Shared.TypeIs { s with heap := s.heap.update it (Obj.mapFields (·.setIfInBounds 1 (rawInt ((i : Int) + 1)))) } (.ref it) "dict_keyiterator" := hit'.typeIs
  refine wpAny_bind (wpAny_holding ?_)
  refine wpAny_bind (wpAny_isOneOf_keyiter hT' ?_)
  show wpAny _ _ (pure e.key) _ _ _
  exact wpAny_pure (wpAny_pure ⟨_, rfl, wpAny_pure (hQ _ hit' (Heap.SameBut.update ..))⟩)
theorem end_keys_x {it d : Addr} {i ep : Nat} {es : Array DictEntry} {Q : Option Value → Shared → Prop} (hh : A.handled = none) (hit : s.heap.IsKeyIter it d i es.size ep) (hm : RawD s.heap d es ep) (hge : es.size ≤ i)
    (hQ : ∀ h', Heap.ExtBut it s.heap h' → Q none { s with heap := h' }) : wpAny (model P w) A (pyNext (.ref it)) Q E s := by
  obtain ⟨o, ho, hc, hd⟩ := id hit
  obtain ⟨od, hod, hcd, hdd⟩ := id hm
  have hT := hit.typeIs
  unfold pyNext
  refine wpAny_bind (wpAny_attempt (wpAny_callSpecial?_slot (name := Str.ofString "__next__") hT F.slot_dict_keyiterator_next (wpAny_call_entry F.slot_dict_keyiterator_next hT F.entry_dict_keyiterator_next ?_ (F.args_dict_keyiterator_next_1 _))))
  refine wpAny_bind (wpAny_pure (wpAny_bind (wpAny_bind ?_)))
  first | refine wpAny_bind (wpAny_typeNameOfWhole_keyiter hT (wpAny_pure ?_)) | refine wpAny_bind (wpAny_typeNameOf_keyiter hT (wpAny_pure ?_))
  refine wpAny_bind (wpAny_fieldsOf ho hd ?_)
  simp only [show Builtin.Dict_items.ownsTuple "dict_keyiterator" = false from by decide, Bool.false_eq_true, if_false]
  show wpAny _ _ (if (Value.ref d == Value.none) = true then _ else _) _ _ s
  rw [if_neg (show ¬ ((Value.ref d == Value.none) = true) from Bool.false_ne_true)]
  refine wpAny_bind (wpAny_pure (wpAny_bind (wpAny_dictEntries hod hdd ?_)))
  rw [if_neg (by simp)]
  refine wpAny_bind (wpAny_pure (wpAny_bind (wpAny_dictEpoch hod hdd ?_)))
  rw [if_neg (by simp)]
  refine wpAny_pure ?_
  simp only [show ¬ ((i : Int) < 0) from by omega, if_false, Int.toNat_natCast, Array.getElem?_eq_none hge]
  refine wpAny_bind ?_
  first | refine wpAny_bind (wpAny_typeNameOfWhole_keyiter hT (wpAny_pure ?_)) | refine wpAny_bind (wpAny_typeNameOf_keyiter hT (wpAny_pure ?_))
  show wpAny _ _ (setField (.ref it) 0 .none >>= _) _ _ s
  refine wpAny_bind (wpAny_setField ho hd (by simp) ?_)
  show wpAny _ _ (newExc (.type "StopIteration") [] >>= _) _ _ _
  refine wpAny_bind ?_
  simp only [newExc, newTuple]
  refine wpAny_bind (wpAny_newObj_type ?_ (by size_fits))
  refine wpAny_bind (m := firstArgMember _ _) (wpAny_of_eq (a := Value.none) (by first | rfl | (simp only [firstArgMember]; rfl)) ?_)
  refine wpAny_newObj_type ?_ (by size_fits)
  simp only [raiseNew]
  refine wpAny_bind (wpAny_handled ?_)
  rw [show A.in1.handled = none from hh]
  refine wpAny_bind (wpAny_pure (wpAny_throw ?_))
  refine wpAny_bind (wpAny_isInstance (T := "StopIteration") (b := true) ⟨_, Heap.get?_push_size _ rfl, rfl⟩ isSubtype_stop ?_)
  exact wpAny_pure (hQ _ (((Heap.SameBut.update ..).extBut.push _).push _))

theorem iter_vals_x {v d : Addr} {es : Array DictEntry} {ep : Nat} {Q : Value → Shared → Prop} (hv : s.heap.IsValuesView v d) (hm : RawD s.heap d es ep)
    (hQ : Q (.ref s.heap.objs.size) { s with heap := s.heap.push { cls := .type "dict_valueiterator", data := .fields #[.ref d, .int 0 0, .int es.size 0, .int ep 0] } }) :
    wpAny (model P w) A (pyIter (.ref v)) Q E s := by
  obtain ⟨o, ho, hc, hdat⟩ := id hm
  obtain ⟨ov, hov, hcv, hdv⟩ := id hv
  refine wpAny_pyIter_slot hv.typeIs F.slot_dict_values_iter (wpAny_call_entry F.slot_dict_values_iter hv.typeIs F.entry_dict_values_iter ?_ (F.args_dict_values_iter_1 _))
  unfold Builtin.«dict_values.__iter__»
  refine wpAny_bind (wpAny_pure (wpAny_bind ?_))
  unfold Builtin.Dict_items.dictOf
  refine wpAny_bind (wpAny_field hov hdv (x := .ref d) rfl (wpAny_pure (wpAny_bind ?_)))
  unfold Builtin.Dict_items.newIterator
  refine wpAny_bind (wpAny_dictEntries ho hdat (wpAny_bind (wpAny_dictEpoch ho hdat ?_)))
  simp only [show Builtin.Dict_items.ownsTuple "dict_valueiterator" = false from by decide, Bool.false_eq_true, if_false]
  refine wpAny_newObj_type (wpAny_pure ⟨_, rfl, "dict_valueiterator", _, ⟨_, Heap.get?_push_size _ rfl, rfl⟩, F.slot_dict_valueiterator_next.lookup, ?_⟩)
  simpa [rawInt] using hQ
theorem next_vals_x {it d : Addr} {i ep : Nat} {es : Array DictEntry} {e : DictEntry} {Q : Option Value → Shared → Prop} (hit : s.heap.IsValIter it d i es.size ep) (hm : RawD s.heap d es ep) (hx : es[i]? = some e)
    (hQ : ∀ h', h'.IsValIter it d (i + 1) es.size ep → Heap.SameBut it s.heap h' → Q (some e.val) { s with heap := h' }) : wpAny (model P w) A (pyNext (.ref it)) Q E s := by
  obtain ⟨o, ho, hc, hd⟩ := id hit
  obtain ⟨od, hod, hcd, hdd⟩ := id hm
  have hT := hit.typeIs
  unfold pyNext
  refine wpAny_bind (wpAny_attempt (wpAny_callSpecial?_slot (name := Str.ofString "__next__") hT F.slot_dict_valueiterator_next (wpAny_call_entry F.slot_dict_valueiterator_next hT F.entry_dict_valueiterator_next ?_ (F.args_dict_valueiterator_next_1 _))))
  refine wpAny_bind (wpAny_pure (wpAny_bind (wpAny_bind ?_)))
  first | refine wpAny_bind (wpAny_typeNameOfWhole_valiter hT (wpAny_pure ?_)) | refine wpAny_bind (wpAny_typeNameOf_valiter hT (wpAny_pure ?_))
  refine wpAny_bind (wpAny_fieldsOf ho hd ?_)
  simp only [show Builtin.Dict_items.ownsTuple "dict_valueiterator" = false from by decide, Bool.false_eq_true, if_false]
  show wpAny _ _ (if (Value.ref d == Value.none) = true then _ else _) _ _ s
  rw [if_neg (show ¬ ((Value.ref d == Value.none) = true) from Bool.false_ne_true)]
  refine wpAny_bind (wpAny_pure (wpAny_bind (wpAny_dictEntries hod hdd ?_)))
  rw [if_neg (by simp)]
  refine wpAny_bind (wpAny_pure (wpAny_bind (wpAny_dictEpoch hod hdd ?_)))
  rw [if_neg (by simp)]
  refine wpAny_pure ?_
  simp only [show ¬ ((i : Int) < 0) from by omega, if_false, Int.toNat_natCast, hx]
  refine wpAny_bind ?_
  first | refine wpAny_bind (wpAny_typeNameOfWhole_valiter hT (wpAny_pure ?_)) | refine wpAny_bind (wpAny_typeNameOf_valiter hT (wpAny_pure ?_))
  refine wpAny_bind (wpAny_isOneOf_valiter hT ?_)
  show wpAny _ _ (setField (.ref it) 1 (rawInt ((i : Int) + 1)) >>= _) _ _ s
  refine wpAny_bind (wpAny_setField ho hd (by simp) ?_)
  have hit' : (s.heap.update it (Obj.mapFields (·.setIfInBounds 1 (rawInt ((i : Int) + 1))))).IsValIter it d (i + 1) es.size ep :=
    ⟨_, Heap.get?_update_self _ ho (Obj.isFreed_of_fields (Obj.data_mapFields hd _)), (Obj.cls_mapFields ..).trans hc, by rw [Obj.data_mapFields hd]; simp [rawInt]⟩
  have hT' : Shared.TypeIs { s with heap := s.heap.update it (Obj.mapFields (·.setIfInBounds 1 (rawInt ((i : Int) + 1)))) } (.ref it) "dict_valueiterator" := hit'.typeIs
  refine wpAny_bind (wpAny_holding ?_)
  refine wpAny_bind (wpAny_isOneOf_valiter hT' (wpAny_bind (wpAny_isOneOf_valiter hT' ?_)))
  show wpAny _ _ (pure e.val) _ _ _
  exact wpAny_pure (wpAny_pure ⟨_, rfl, wpAny_pure (hQ _ hit' (Heap.SameBut.update ..))⟩)
theorem end_vals_x {it d : Addr} {i ep : Nat} {es : Array DictEntry} {Q : Option Value → Shared → Prop} (hh : A.handled = none) (hit : s.heap.IsValIter it d i es.size ep) (hm : RawD s.heap d es ep) (hge : es.size ≤ i)
    (hQ : ∀ h', Heap.ExtBut it s.heap h' → Q none { s with heap := h' }) : wpAny (model P w) A (pyNext (.ref it)) Q E s := by
  obtain ⟨o, ho, hc, hd⟩ := id hit
  obtain ⟨od, hod, hcd, hdd⟩ := id hm
  have hT := hit.typeIs
  unfold pyNext
  refine wpAny_bind (wpAny_attempt (wpAny_callSpecial?_slot (name := Str.ofString "__next__") hT F.slot_dict_valueiterator_next (wpAny_call_entry F.slot_dict_valueiterator_next hT F.entry_dict_valueiterator_next ?_ (F.args_dict_valueiterator_next_1 _))))
  refine wpAny_bind (wpAny_pure (wpAny_bind (wpAny_bind ?_)))
  first | refine wpAny_bind (wpAny_typeNameOfWhole_valiter hT (wpAny_pure ?_)) | refine wpAny_bind (wpAny_typeNameOf_valiter hT (wpAny_pure ?_))
  refine wpAny_bind (wpAny_fieldsOf ho hd ?_)
  simp only [show Builtin.Dict_items.ownsTuple "dict_valueiterator" = false from by decide, Bool.false_eq_true, if_false]
  show wpAny _ _ (if (Value.ref d == Value.none) = true then _ else _) _ _ s
  rw [if_neg (show ¬ ((Value.ref d == Value.none) = true) from Bool.false_ne_true)]
  refine wpAny_bind (wpAny_pure (wpAny_bind (wpAny_dictEntries hod hdd ?_)))
  rw [if_neg (by simp)]
  refine wpAny_bind (wpAny_pure (wpAny_bind (wpAny_dictEpoch hod hdd ?_)))
  rw [if_neg (by simp)]
  refine wpAny_pure ?_
  simp only [show ¬ ((i : Int) < 0) from by omega, if_false, Int.toNat_natCast, Array.getElem?_eq_none hge]
  refine wpAny_bind ?_
  first | refine wpAny_bind (wpAny_typeNameOfWhole_valiter hT (wpAny_pure ?_)) | refine wpAny_bind (wpAny_typeNameOf_valiter hT (wpAny_pure ?_))
  show wpAny _ _ (setField (.ref it) 0 .none >>= _) _ _ s
  refine wpAny_bind (wpAny_setField ho hd (by simp) ?_)
  show wpAny _ _ (newExc (.type "StopIteration") [] >>= _) _ _ _
  refine wpAny_bind ?_
  simp only [newExc, newTuple]
  refine wpAny_bind (wpAny_newObj_type ?_ (by size_fits))
  refine wpAny_bind (m := firstArgMember _ _) (wpAny_of_eq (a := Value.none) (by first | rfl | (simp only [firstArgMember]; rfl)) ?_)
  refine wpAny_newObj_type ?_ (by size_fits)
  simp only [raiseNew]
  refine wpAny_bind (wpAny_handled ?_)
  rw [show A.in1.handled = none from hh]
  refine wpAny_bind (wpAny_pure (wpAny_throw ?_))
  refine wpAny_bind (wpAny_isInstance (T := "StopIteration") (b := true) ⟨_, Heap.get?_push_size _ rfl, rfl⟩ isSubtype_stop ?_)
  exact wpAny_pure (hQ _ (((Heap.SameBut.update ..).extBut.push _).push _))
end
end L2

namespace L2
open PySem PySem.Spec PyProof.Rows
open Sem (wp)

/-! ### the pairs of a dict, one after another (by its entries alone) -/
section
variable {P : Program} {w : World} {A : Around} {E : Value → Shared → Prop} {s : Shared}
theorem DX.raw {h : Heap} {d : Addr} {ep : Nat} {xs : Tab} (m : DX P w h d ep xs) : ∃ es, RawD h d es ep ∧ es.toList = xs.map (entX P w) := let ⟨o, es, ho, hc, hd, he, _⟩ := m; ⟨es, ⟨o, ho, hc, hd⟩, he⟩

theorem meets_items_x (d : Addr) (hd : (d == sysModules) = false) :
    MeetsIn P w (Builtin.«dict.items» ⟨[.ref d], []⟩) (fun _ R s => (∃ es ep, RawD s.heap d es ep) ∧
      R (.ok (.ret (.ref s.heap.objs.size))) { s with heap := s.heap.push { cls := .type "dict_items", data := .fields #[.ref d] } }) :=
  .of_wp fun A R s ⟨⟨es, ep, hm⟩, h⟩ => by
    unfold Builtin.«dict.items»
    refine wpAny_bind ?_
    unfold Builtin.Dict.noArgs
    refine wpAny_bind (wpAny_notOrdered_dict hm.typeIs ?_)
    show wpAny _ _ (pure d) _ _ s
    refine wpAny_pure ?_
    show wpAny _ _ (Builtin.Dict.showsAll d >>= _) _ _ s
    unfold Builtin.Dict.showsAll
    rw [if_neg (by rw [hd]; exact Bool.false_ne_true)]
    refine wpAny_bind (wpAny_pure ?_)
    exact wpAny_bind (wpAny_newObj_type (wpAny_pure ⟨_, rfl, h⟩))
theorem iter_items_x {v d : Addr} {es : Array DictEntry} {ep : Nat} {Q : Value → Shared → Prop} (hv : s.heap.IsItemsView v d) (hm : RawD s.heap d es ep)
    (hQ : Q (.ref s.heap.objs.size) { s with heap := s.heap.push { cls := .type "dict_itemiterator", data := .fields #[.none, .bool false, .ref d, .int 0 0, .int es.size 0, .int ep 0, .none, .none] } }) :
    wpAny (model P w) A (pyIter (.ref v)) Q E s := by
  obtain ⟨ov, hov, hcv, hdv⟩ := id hv
  obtain ⟨o, ho, hc, hdat⟩ := id hm
  refine wpAny_pyIter_slot hv.typeIs F.slot_dict_items_iter (wpAny_call_entry F.slot_dict_items_iter hv.typeIs F.entry_dict_items_iter ?_ (F.args_dict_items_iter_1 _))
  unfold Builtin.«dict_items.__iter__»
  refine wpAny_bind (wpAny_pure ?_)
  refine wpAny_bind ?_
  unfold Builtin.Dict_items.dictOf
  refine wpAny_bind (wpAny_field hov hdv (x := .ref d) rfl (wpAny_pure ?_))
  refine wpAny_bind ?_
  unfold Builtin.Dict_items.newIterator
  refine wpAny_bind (wpAny_dictEntries ho hdat ?_)
  refine wpAny_bind (wpAny_dictEpoch ho hdat ?_)
  have hown : Builtin.Dict_items.ownsTuple "dict_itemiterator" = true := by decide
  simp only [hown, if_true]
  refine wpAny_newObj_type (wpAny_pure ⟨_, rfl, "dict_itemiterator", _, ⟨_, Heap.get?_push_size _ rfl, rfl⟩, F.slot_dict_itemiterator_next.lookup, ?_⟩)
    (by simp only [sizeOk, Builtin.Dict_items.ownedTupleFields, List.size_toArray, List.length_append, List.length_cons, List.length_nil, sizeLine_eq]; omega)
  simpa [rawInt, Builtin.Dict_items.ownedTupleFields] using hQ
theorem next_items_x {it d : Addr} {i ep : Nat} {es : Array DictEntry} {e : DictEntry} {ok ov : Value} {Q : Option Value → Shared → Prop} (hit : IsItemIter s.heap it d i es.size ep ok ov)
    (hm : RawD s.heap d es ep) (hx : es[i]? = some e)
    (hQ : ∀ h', IsItemIterOut h' it d (i + 1) es.size ep e.key e.val s.heap.objs.size →
      h'.get? s.heap.objs.size = some { cls := .type "tuple", data := .seq #[e.key, e.val] } → h'.objs.size = s.heap.objs.size + 1 →
      (∀ b o, b ≠ it → s.heap.get? b = some o → h'.get? b = some o) → Q (some (.ref s.heap.objs.size)) { s with heap := h' }) :
    wpAny (model P w) A (pyNext (.ref it)) Q E s := by
  obtain ⟨hp, g, dr, tk, os⟩ := s
  obtain ⟨od, hod, hcd, hdd⟩ := id hm
  have hT : Shared.TypeIs ⟨hp, g, dr, tk, os⟩ (.ref it) "dict_itemiterator" := ⟨_, hit, rfl⟩
  unfold pyNext
  refine wpAny_bind (wpAny_attempt (wpAny_callSpecial?_slot (name := Str.ofString "__next__") hT F.slot_dict_itemiterator_next
    (wpAny_call_entry F.slot_dict_itemiterator_next hT F.entry_dict_itemiterator_next ?_ (F.args_dict_itemiterator_next_1 _))))
  refine wpAny_bind (wpAny_pure ?_)
  refine wpAny_bind ?_
  refine wpAny_bind ?_
  first | refine wpAny_bind (wpAny_typeNameOfWhole_itemiter hT (wpAny_pure ?_)) | refine wpAny_bind (wpAny_typeNameOf_itemiter hT (wpAny_pure ?_))
  refine wpAny_bind (wpAny_fieldsOf hit rfl ?_)
  have hown : Builtin.Dict_items.ownsTuple "dict_itemiterator" = true := by decide
  simp only [hown, if_true]
  show wpAny _ _ (if (Value.ref d == Value.none) = true then _ else _) _ _ _
  rw [if_neg (show ¬ ((Value.ref d == Value.none) = true) from Bool.false_ne_true)]
  refine wpAny_bind (wpAny_pure ?_)
  refine wpAny_bind (wpAny_dictEntries hod hdd ?_)
  rw [if_neg (by simp)]
  refine wpAny_bind (wpAny_pure ?_)
  refine wpAny_bind (wpAny_dictEpoch hod hdd ?_)
  rw [if_neg (by simp)]
  refine wpAny_pure ?_
  obtain ⟨hlt', hxe⟩ := Array.getElem?_eq_some_iff.mp hx
  simp only [show ¬ ((i : Int) < 0) from by omega, if_false, Int.toNat_natCast, hx]
  refine wpAny_bind ?_
  first | refine wpAny_bind (wpAny_typeNameOfWhole_itemiter hT (wpAny_pure ?_)) | refine wpAny_bind (wpAny_typeNameOf_itemiter hT (wpAny_pure ?_))
  refine wpAny_bind (wpAny_isOneOf_itemiter hT ?_)
  show wpAny _ _ (setField (.ref it) 3 (rawInt ((i : Int) + 1)) >>= _) _ _ ⟨hp, g, dr, tk, os⟩
  refine wpAny_bind (wpAny_setField_rec hit (by simp) fun h₁ he₁ hs₁ => ?_)
  replace hs₁ : Heap.SameBut it hp h₁ := hs₁
  replace he₁ : IsItemIter h₁ it d (i + 1) es.size ep ok ov := by
    have e : ((i + 1 : Nat) : Int) = (i : Int) + 1 := by omega
    unfold IsItemIter; rw [e]; simpa [rawInt] using he₁
  have hT₁ : Shared.TypeIs ⟨h₁, g, dr, tk, os⟩ (.ref it) "dict_itemiterator" := ⟨_, he₁, rfl⟩
  refine wpAny_bind (wpAny_holding ?_)
  refine wpAny_bind (wpAny_isOneOf_itemiter hT₁ ?_)
  refine wpAny_bind (wpAny_isOneOf_itemiter hT₁ ?_)
  show wpAny _ _ (Builtin.Dict_items.pairFromOwner (.ref it) 6 e.key e.val) _ _ ⟨h₁, g, dr, tk, os⟩
  unfold Builtin.Dict_items.pairFromOwner
  refine wpAny_bind (wpAny_newTuple ?_)
  have he₂ : IsItemIter (h₁.push { cls := .type "tuple", data := .seq #[e.key, e.val] }) it d (i + 1) es.size ep ok ov := Heap.get?_push_of_some _ he₁
  generalize hh₂ : h₁.push { cls := .type "tuple", data := .seq #[e.key, e.val] } = h₂ at he₂
  have hz₁ : h₁.objs.size = hp.objs.size := hs₁.1
  have hil : it < hp.objs.size := Heap.lt_size hit
  have ht₂ : h₂.get? hp.objs.size = some { cls := .type "tuple", data := .seq #[e.key, e.val] } := by rw [← hh₂, ← hz₁]; exact Heap.get?_push_size _ rfl
  have hz₂ : h₂.objs.size = hp.objs.size + 1 := by rw [← hh₂, Heap.size_push, hz₁]
  have hk₂ : ∀ b o, b ≠ it → hp.get? b = some o → h₂.get? b = some o := fun b o hb e => by rw [← hh₂]; exact Heap.get?_push_of_some _ (hs₁.extBut b o hb e)
  show wpAny _ _ (Builtin.Dict_items.ownedTupleIsFree (.ref it) >>= _) _ _ ⟨h₂, g, dr, tk, os⟩
  rw [hz₁]
  clear hh₂ he₁ hs₁ hT₁ hz₁ h₁
  refine wpAny_bind ?_
  unfold Builtin.Dict_items.ownedTupleIsFree
  refine wpAny_bind (wpAny_field he₂ rfl (x := .none) rfl (wpAny_pure ?_))
  simp only [if_true]
  refine wpAny_bind (wpAny_field he₂ rfl (x := ok) rfl ?_)
  refine wpAny_bind (wpAny_field he₂ rfl (x := ov) rfl ?_)
  refine wpAny_bind (wpAny_setField_rec he₂ (by simp) fun h₃ he₃ hs₃ => ?_)
  replace hs₃ : Heap.SameBut it h₂ h₃ := hs₃
  replace he₃ : IsItemIter h₃ it d (i + 1) es.size ep e.key ov := he₃
  refine wpAny_bind (wpAny_setField_rec he₃ (by simp) fun h₄ he₄ hs₄ => ?_)
  replace hs₄ : Heap.SameBut it h₃ h₄ := hs₄
  replace he₄ : IsItemIter h₄ it d (i + 1) es.size ep e.key e.val := he₄
  refine wpAny_bind (wpAny_setField_rec he₄ (by simp) fun h₅ he₅ hs₅ => ?_)
  replace hs₅ : Heap.SameBut it h₄ h₅ := hs₅
  replace he₅ : IsItemIterOut h₅ it d (i + 1) es.size ep e.key e.val hp.objs.size := he₅
  refine wpAny_bind (wpAny_setField_rec he₅ (by simp) fun h₆ he₆ hs₆ => ?_)
  replace hs₆ : Heap.SameBut it h₅ h₆ := hs₆
  replace he₆ : IsItemIterOut h₆ it d (i + 1) es.size ep e.key e.val hp.objs.size := he₆
  refine wpAny_bind (wpAny_letGo (wpAny_pure (wpAny_pure ⟨_, rfl, wpAny_pure (hQ h₆ he₆ ?_ ?_ ?_)⟩)))
  · exact hs₆.extBut _ _ (Nat.ne_of_gt hil) (hs₅.extBut _ _ (Nat.ne_of_gt hil) (hs₄.extBut _ _ (Nat.ne_of_gt hil) (hs₃.extBut _ _ (Nat.ne_of_gt hil) ht₂)))
  · show h₆.objs.size = hp.objs.size + 1
    rw [hs₆.1, hs₅.1, hs₄.1, hs₃.1, hz₂]
  · exact fun b o hb e => hs₆.extBut b o hb (hs₅.extBut b o hb (hs₄.extBut b o hb (hs₃.extBut b o hb (hk₂ b o hb e))))
theorem end_items_x {it d : Addr} {i ep : Nat} {es : Array DictEntry} {ok ov : Value} {Q : Option Value → Shared → Prop} (hh : A.handled = none) (hit : IsItemIter s.heap it d i es.size ep ok ov)
    (hm : RawD s.heap d es ep) (hge : es.size ≤ i) (hQ : ∀ h', Heap.ExtBut it s.heap h' → Q none { s with heap := h' }) : wpAny (model P w) A (pyNext (.ref it)) Q E s := by
  obtain ⟨od, hod, hcd, hdd⟩ := id hm
  have hT : s.TypeIs (.ref it) "dict_itemiterator" := ⟨_, hit, rfl⟩
  unfold pyNext
  refine wpAny_bind (wpAny_attempt (wpAny_callSpecial?_slot (name := Str.ofString "__next__") hT F.slot_dict_itemiterator_next
    (wpAny_call_entry F.slot_dict_itemiterator_next hT F.entry_dict_itemiterator_next ?_ (F.args_dict_itemiterator_next_1 _))))
  refine wpAny_bind (wpAny_pure ?_)
  refine wpAny_bind ?_
  refine wpAny_bind ?_
  first | refine wpAny_bind (wpAny_typeNameOfWhole_itemiter hT (wpAny_pure ?_)) | refine wpAny_bind (wpAny_typeNameOf_itemiter hT (wpAny_pure ?_))
  refine wpAny_bind (wpAny_fieldsOf hit rfl ?_)
  have hown : Builtin.Dict_items.ownsTuple "dict_itemiterator" = true := by decide
  simp only [hown, if_true]
  show wpAny _ _ (if (Value.ref d == Value.none) = true then _ else _) _ _ s
  rw [if_neg (show ¬ ((Value.ref d == Value.none) = true) from Bool.false_ne_true)]
  refine wpAny_bind (wpAny_pure ?_)
  refine wpAny_bind (wpAny_dictEntries hod hdd ?_)
  rw [if_neg (by simp)]
  refine wpAny_bind (wpAny_pure ?_)
  refine wpAny_bind (wpAny_dictEpoch hod hdd ?_)
  rw [if_neg (by simp)]
  refine wpAny_pure ?_
  simp only [show ¬ ((i : Int) < 0) from by omega, if_false, Int.toNat_natCast, Array.getElem?_eq_none hge]
  refine wpAny_bind ?_
  first | refine wpAny_bind (wpAny_typeNameOfWhole_itemiter hT (wpAny_pure ?_)) | refine wpAny_bind (wpAny_typeNameOf_itemiter hT (wpAny_pure ?_))
  show wpAny _ _ (setField (.ref it) 2 .none >>= _) _ _ s
  refine wpAny_bind (wpAny_setField hit rfl (by simp) ?_)
  show wpAny _ _ (newExc (.type "StopIteration") [] >>= _) _ _ _
  refine wpAny_bind ?_
  simp only [newExc, newTuple]
  refine wpAny_bind (wpAny_newObj_type ?_ (by size_fits))
  refine wpAny_bind (m := firstArgMember _ _) (wpAny_of_eq (a := Value.none) (by first | rfl | (simp only [firstArgMember]; rfl)) ?_)
  refine wpAny_newObj_type ?_ (by size_fits)
  simp only [raiseNew]
  refine wpAny_bind (wpAny_handled ?_)
  rw [show A.in1.handled = none from hh]
  refine wpAny_bind (wpAny_pure (wpAny_throw ?_))
  refine wpAny_bind (wpAny_isInstance (T := "StopIteration") (b := true) ⟨_, Heap.get?_push_size _ rfl, rfl⟩ isSubtype_stop ?_)
  exact wpAny_pure (hQ _ (((Heap.SameBut.update ..).extBut.push _).push _))
end
end L2

namespace L2
open PySem PySem.Spec PyProof.Rows
open Sem (wp)

/-! ### tracked dicts -/
theorem items_areX {P : Program} {w : World} : ∀ {ks : List Key} {us : List Value}, Vals (ks.map kV) us → ItemsAre (mixKind P w) ks us
  | [], _, .nil => .nil
  | k :: ks, _, .cons r t => by
    refine .cons ?_ (items_areX t)
    cases k with
    | inl i => obtain ⟨t, rfl⟩ := r; exact keyIs_int i t
    | inr x => obtain ⟨t, rfl⟩ := r; exact keyIs_str x t
theorem key_at {P : Program} {w : World} {H : Hp} {h : Heap} (ok : HOk P w H h) {k : KD} {u : Value} (x : KeyU H k u) : KAt P w h k u := by
  cases k with
  | inl k => exact x
  | inr ks =>
    obtain ⟨b, rfl, e⟩ := x
    obtain ⟨_, its, r, o, h1, h2, n, h3⟩ := (show ObjOk P w H h b (.tup (ks.map kV)) from ok b _ e)
    exact ⟨b, rfl, o, its.toArray, n, h1, h2, h3, by simpa using items_areX r⟩
/-- a value that is the key k -/
def KeyV (H : Hp) : KD → V → Prop
  | .inl k, y => y = kV k
  | .inr ks, y => ∃ b, y = .ref b ∧ H b = some (.tup (ks.map kV))
theorem KeyV.u {H : Hp} {k : KD} {y : V} {u : Value} (x : KeyV H k y) (r : RelV y u) : KeyU H k u := by
  cases k with
  | inl k =>
    cases (show y = kV k from x)
    cases k with
    | inl i => obtain ⟨t, rfl⟩ := r; exact keyIs_int i t
    | inr z => obtain ⟨t, rfl⟩ := r; exact keyIs_str z t
  | inr ks =>
    obtain ⟨b, rfl, e⟩ := x
    cases r
    exact ⟨b, rfl, e⟩
theorem KeyU.v {H : Hp} {k : KD} {u : Value} (x : KeyU H k u) : ∃ y, KeyV H k y ∧ RelV y u := by
  cases k with
  | inl k =>
    rcases keyIs_shape x with ⟨i, t, rfl, rfl⟩ | ⟨i, t, rfl, rfl⟩
    · exact ⟨.int i, rfl, t, rfl⟩
    · exact ⟨.str i, rfl, t, rfl⟩
  | inr ks =>
    obtain ⟨b, rfl, e⟩ := x
    exact ⟨.ref b, ⟨b, rfl, e⟩, rfl⟩
theorem KeyV.mono {H H' : Hp} {k : KD} {y : V} (x : KeyV H k y) (ht : ∀ b xs, H b = some (.tup xs) → H' b = some (.tup xs)) : KeyV H' k y := by
  cases k with
  | inl k => exact x
  | inr ks => obtain ⟨b, e1, e2⟩ := x; exact ⟨b, e1, ht _ _ e2⟩
theorem KeyU.mono {H H' : Hp} {k : KD} {y : Value} (x : KeyU H k y) (ht : ∀ b xs, H b = some (.tup xs) → H' b = some (.tup xs)) : KeyU H' k y := by
  cases k with
  | inl k => exact x
  | inr ks => obtain ⟨b, e1, e2⟩ := x; exact ⟨b, e1, ht _ _ e2⟩
section
variable {P : Program} {w : World} {H : Hp} {h : Heap} {a : Addr} {ep : Nat} {kvs : List (KD × V)} {xs : Tab}
theorem KX.length (r : KX H kvs xs) : kvs.length = xs.length := Paired.length r
theorem KX.mono {H' : Hp} (r : KX H kvs xs) (ht : ∀ b xs, H b = some (.tup xs) → H' b = some (.tup xs)) : KX H' kvs xs := Paired.mapP r fun p q z => ⟨z.1, z.2.1.mono ht, z.2.2⟩
theorem dx_of (ok : HOk P w H h) (e : H a = some (.dX ep kvs)) : kvs.length ≤ sizeLine ∧ (a == sysModules) = false ∧ ∃ xs, KX H kvs xs ∧ DX P w h a ep xs := by
  obtain ⟨z, y, xs, r, o, es, h1, h2, h3, h4, h5⟩ := (show ObjOk P w H h a (.dX ep kvs) from ok a _ e)
  refine ⟨z, y, xs, r, o, es, h1, h2, h3, h4, fun x hx => ?_, h5⟩
  have all : ∀ {l : List (KD × V)} {m : Tab}, KX H l m → ∀ x ∈ m, KAt P w h x.1 x.2.1 := by
    intro l m q
    induction q with
    | nil => intro x hx; exact nomatch hx
    | cons r t ih =>
      intro x hx
      rcases List.mem_cons.mp hx with rfl | hx
      · rw [← r.1]; exact key_at ok r.2.1
      · exact ih x hx
  exact all r x hx
theorem KX.val (r : KX H kvs xs) (k : KD) : RelO (valV kvs k) ((atX xs k).map (·.2)) := by
  induction r with
  | nil => exact trivial
  | @cons p q l m z t ih =>
    by_cases e : p.1 = k
    · have e' : q.1 = k := z.1 ▸ e
      have b : atX (q :: m) k = some q.2 := by simp [atX, List.find?_cons, e']
      rw [valV_pos e, b]
      exact z.2.2
    · have e' : ¬ q.1 = k := z.1 ▸ e
      have b : atX (q :: m) k = atX m k := by simp [atX, List.find?_cons, e']
      rw [valV_neg e, b]
      exact ih
theorem relO_some {o : Option V} {q : Option Value} (r : RelO o q) : o.isSome = q.isSome := by
  cases o <;> cases q <;> first | rfl | exact False.elim r
theorem KX.isSome (r : KX H kvs xs) (k : KD) : (valV kvs k).isSome = (atX xs k).isSome := by
  rw [relO_some (r.val k)]
  cases atX xs k <;> rfl
theorem KX.put (r : KX H kvs xs) {k : KD} {u v : Value} {y : V} (hk : KeyU H k u) (ry : RelV y v) : KX H (putK kvs k y) (stoX xs k u v) := by
  have e : (kvs.any fun kv => decide (kv.1 = k)) = (atX xs k).isSome := by rw [valV_any, r.isSome]
  unfold putK stoX
  rw [e]
  cases (atX xs k).isSome with
  | true =>
    rw [if_pos rfl, if_pos rfl]
    clear e
    induction r with
    | nil => exact .nil
    | @cons p q l m z t ih =>
      refine .cons ?_ ih
      by_cases e : p.1 = k
      · have e' : q.1 = k := z.1 ▸ e
        dsimp only
        rw [if_pos e]
        unfold putX
        rw [if_pos e']
        exact ⟨z.1, z.2.1, ry⟩
      · have e' : ¬ q.1 = k := z.1 ▸ e
        dsimp only
        rw [if_neg e]
        unfold putX
        rw [if_neg e']
        exact z
  | false =>
    rw [if_neg Bool.false_ne_true, if_neg Bool.false_ne_true]
    exact Paired.snoc r ⟨rfl, hk, ry⟩
theorem dx_new {h' : Heap} (z : kvs.length ≤ sizeLine) (hd : (a == sysModules) = false) (r : KX H kvs xs) (m : DX P w h' a ep xs) : ObjOk P w H h' a (.dX ep kvs) := by
  obtain ⟨o, es, h1, h2, h3, h4, _, h5⟩ := m
  exact ⟨z, hd, xs, r, o, es, h1, h2, h3, h4, h5⟩
end
theorem upd_tups {H : Hp} {a : Addr} {o : HO} (n : ∀ xs, H a ≠ some (.tup xs)) : ∀ b xs, H b = some (.tup xs) → upd H a o b = some (.tup xs) := fun b xs e => by
  have : b ≠ a := fun z => n xs (z ▸ e)
  rw [upd_ne this]; exact e

section
variable {X : Cx} {pins : List (Addr × Obj)} {σ : St} {H : Hp} {s : Shared} {a : Addr} {ep : Nat} {kvs : List (KD × V)}
theorem Inv.bigX (I : Inv X pins σ H s) : sysModules < s.heap.objs.size := by
  have h : mainGlobals < s.heap.objs.size := (I.mod.glob.keeps I.bk).lt
  exact Nat.lt_trans (by decide) h
theorem Inv.dwrite {A : Around} {E : Value → Shared → Prop} {ep' : Nat} {kvs' : List (KD × V)} {xs' : Tab} {h' : Heap} {t' : Nat} (I : Inv X pins σ H s) (e : H a = some (.dX ep kvs)) (hs : Heap.SameBut a s.heap h') (z : kvs'.length ≤ sizeLine) (hd : (a == sysModules) = false) (r : KX H kvs' xs') (m : DX X.prog X.w h' a ep' xs') :
    Inv X pins σ (upd H a (.dX ep' kvs')) { s with heap := h', toks := t' } := by
  refine I.write (x := a) (e := a) (by rw [e]; exact True.intro) (.inl rfl) (fun b o hb q => (hs.2 b hb).trans q) (let ⟨o, _, ho, _⟩ := m; ⟨o, ho⟩) (dx_new z hd ?_ m)
  exact r.mono (upd_tups fun xs q => by rw [e] at q; cases q)
end

/-! ### the rules -/
/-- {} -/
def tXNew : TE := fun _ H Q => ∀ p, H p = none → Q (.ref p) (upd H p (.dX 0 []))
theorem pe_xnew {X : Cx} {pos : Pos} : PE X (.Dict [] [] pos) tXNew := fun pins s σ H Q I h =>
  wpAny_Dict_empty ⟨.ref s.heap.objs.size, _, I.laid (a := s.heap.objs.size) (o := .dX 0 []) (t' := s.toks) (fun _ _ q => Heap.get?_push_of_some _ q) (Nat.le_refl _)
    ⟨Nat.zero_le _, beq_eq_false_iff_ne.mpr (Ne.symm (Nat.ne_of_lt I.bigX)), [], .nil, _, #[], Heap.get?_push_size _ rfl, ⟨rfl, rfl, rfl⟩, rfl, rfl, List.nodup_nil⟩, rfl, h _ (I.hok.fresh (Nat.le_refl _))⟩
section
variable {X : Cx} {o i e f value : Expr} {td ty tv tx : TE} {pos pos' apos cpos : Pos}
/-- d[k] -/
def rXGet : R2 := fun x y H Q => ∃ a ep kvs k v, x = .ref a ∧ H a = some (.dX ep kvs) ∧ KeyV H k y ∧ valV kvs k = some v ∧ Q v H
theorem ix_dict (hu : X.A.units + 1 < cLine) : IxR X rXGet := by
  intro value slice pins s σ H x y v u Q I rx ry h hs
  obtain ⟨a, ep, kvs, k, z, rfl, ha, hk, hv, q⟩ := h
  cases rx
  obtain ⟨_, hd, xs, r, m⟩ := dx_of I.hok ha
  have rv := r.val k
  rw [hv] at rv
  obtain ⟨u', e', ru⟩ := RelO.some_of rv
  cases hat : atX xs k with
  | none => rw [hat] at e'; cases e'
  | some p =>
    rw [hat] at e'
    cases e'
    exact tail_any m.typeIs slot_dict_getitem.lookup (item_x hu (key_at I.hok (hk.u ry)) m hat ⟨z, H, I.tok _, ru, q⟩) hs
/-- k in d -/
def rXIn (neg : Bool) : R2 := fun y x H Q => ∃ a ep kvs k, x = .ref a ∧ H a = some (.dX ep kvs) ∧ KeyV H k y ∧ Q (.bl (xor neg (valV kvs k).isSome)) H
theorem op_xin (hu : X.A.units + 1 < cLine) : OpR X (compareOp .In) (rXIn false) := by
  intro pins s σ H x y v u Q I rx ry h
  obtain ⟨a, ep, kvs, k, rfl, ha, hk, q⟩ := h
  cases ry
  obtain ⟨_, hd, xs, r, m⟩ := dx_of I.hok ha
  refine in_x hu (key_at I.hok (hk.u rx)) hd m ⟨.bl (atX xs k).isSome, H, I.tok _, rfl, ?_⟩
  rw [← r.isSome]
  simpa using q
theorem op_xnotin (hu : X.A.units + 1 < cLine) : OpR X (compareOp .NotIn) (rXIn true) := by
  intro pins s σ H x y v u Q I rx ry h
  obtain ⟨a, ep, kvs, k, rfl, ha, hk, q⟩ := h
  cases ry
  obtain ⟨_, hd, xs, r, m⟩ := dx_of I.hok ha
  refine notIn_x hu (key_at I.hok (hk.u rx)) hd m ⟨.bl (!(atX xs k).isSome), H, I.tok _, rfl, ?_⟩
  rw [← r.isSome]
  simpa using q
/-- d[k] = v -/
def rXPut : TSet := fun o i v H Q => ∃ a ep kvs k, o = .ref a ∧ H a = some (.dX ep kvs) ∧ KeyV H k i ∧ kvs.length < sizeLine ∧ Q (upd H a (.dX (if (valV kvs k).isSome then ep else ep + 1) (putK kvs k v)))
theorem set_dict (hu : X.A.units + 1 < cLine) : PSet X rXPut := by
  intro pins s σ H o i v ov iv u Q I ro ri rv h
  obtain ⟨a, ep, kvs, k, rfl, ha, hk, hl, q⟩ := h
  cases ro
  obtain ⟨_, hd, xs, r, m⟩ := dx_of I.hok ha
  have hU := hk.u ri
  refine setItem_x hu (key_at I.hok hU) m (fun h' m' hs => ⟨_, ?_, q⟩) (by rw [← r.length]; omega)
  rw [r.isSome]
  have hz : (putK kvs k v).length ≤ sizeLine := by have := length_putK kvs k v; omega
  exact I.dwrite (A := X.A) (E := X.xe) ha hs hz hd (r.put hU rv) m'
/-- d.get(k, x), d.get(k) -/
def rXGet2 : V → List V → Hp → VK → Prop := fun x vs H Q => ∃ a ep kvs k y z, x = .ref a ∧ vs = [y, z] ∧ H a = some (.dX ep kvs) ∧ KeyV H k y ∧ Q ((valV kvs k).getD z) H
theorem relO_getD {o : Option V} {q : Option Value} {z : V} {u : Value} (r : RelO o q) (rz : RelV z u) : RelV (o.getD z) (q.getD u) := by
  cases o <;> cases q <;> first | exact rz | exact r | exact False.elim r
theorem mt_get2 (hu : X.A.units + 1 < cLine) : MtR X "dict.get" rXGet2 := by
  intro pins s σ H x vs v us Q I rx rv h
  obtain ⟨a, ep, kvs, k, y, z, rfl, rfl, ha, hk, q⟩ := h
  cases rx
  obtain ⟨u, w', rfl, ru, rw'⟩ := rv.two
  obtain ⟨_, hd, xs, r, m⟩ := dx_of I.hok ha
  refine call_meetsIn PySem.F.slot_dict_get m.typeIs PySem.F.entry_dict_get (PySem.F.args_dict_get_3 _ _ _) (meets_get_x a u hd w') ⟨hu, k, ep, xs, key_at I.hok (hk.u ru), m, ?_⟩
  exact ⟨_, H, I.tok _, relO_getD (r.val k) rw', q⟩
def rXGet1 : V → List V → Hp → VK → Prop := fun x vs H Q => ∃ a ep kvs k y, x = .ref a ∧ vs = [y] ∧ H a = some (.dX ep kvs) ∧ KeyV H k y ∧ Q ((valV kvs k).getD .non) H
theorem mt_get1 (hu : X.A.units + 1 < cLine) : MtR X "dict.get" rXGet1 := by
  intro pins s σ H x vs v us Q I rx rv h
  obtain ⟨a, ep, kvs, k, y, rfl, rfl, ha, hk, q⟩ := h
  cases rx
  obtain ⟨u, rfl, ru⟩ := rv.one
  obtain ⟨_, hd, xs, r, m⟩ := dx_of I.hok ha
  refine call_meetsIn PySem.F.slot_dict_get m.typeIs PySem.F.entry_dict_get (PySem.F.args_dict_get_2 _ _) (meets_get1_x a u hd) ⟨hu, k, ep, xs, key_at I.hok (hk.u ru), m, ?_⟩
  exact ⟨_, H, I.tok _, relO_getD (r.val k) (show RelV .non .none from rfl), q⟩
/-- d.clear() -/
def rXClear : V → List V → Hp → VK → Prop := fun x vs H Q => ∃ a ep kvs, x = .ref a ∧ vs = [] ∧ H a = some (.dX ep kvs) ∧ Q .non (upd H a (.dX (ep + 1) []))
theorem mt_xclear : MtR X "dict.clear" rXClear := by
  intro pins s σ H x vs v us Q I rx rv h
  obtain ⟨a, ep, kvs, rfl, rfl, ha, q⟩ := h
  cases rx
  cases rv
  obtain ⟨hz, hd, xs, r, m⟩ := dx_of I.hok ha
  refine call_meetsIn PySem.F.slot_dict_clear m.typeIs PySem.F.entry_dict_clear (PySem.F.args_dict_clear_1 _) (meets_clear_x a) ⟨ep, xs, m, by rw [← r.length]; exact hz, fun h' m' hs => ?_⟩
  exact ⟨.non, _, I.dwrite (A := X.A) (E := X.xe) (t' := s.toks) ha hs (Nat.zero_le _) hd .nil m', rfl, q⟩
/-- len(d) -/
theorem call_xlen : CallR X (.builtin "len") (fun xs H Q => ∃ a ep kvs, xs = [V.ref a] ∧ H a = some (.dX ep kvs) ∧ Q (.int kvs.length) H) := by
  intro pins s σ H xs us Q I r h
  obtain ⟨a, ep, kvs, rfl, ha, q⟩ := h
  obtain ⟨u, rfl, ru⟩ := vals1 r
  cases ru
  obtain ⟨hz, hd, xs, r, m⟩ := dx_of I.hok ha
  refine len_x hd m (by rw [← r.length]; rw [sizeLine_eq] at hz; omega) ?_
  rw [← r.length]
  exact ⟨.int kvs.length, H, I.tok _, ⟨_, rfl⟩, q⟩
end

/-! ### for k, v in d.items() -/
def viewO (v d : Addr) : HO := .ext fun h => h.IsItemsView v d
/-- d.items() -/
def rItems : V → List V → Hp → VK → Prop := fun x vs H Q => ∃ a ep kvs, x = .ref a ∧ vs = [] ∧ H a = some (.dX ep kvs) ∧ ∀ p, H p = none → Q (.ref p) (upd H p (viewO p a))
theorem mt_items {X : Cx} : MtR X "dict.items" rItems := by
  intro pins s σ H x vs v us Q I rx rv h
  obtain ⟨a, ep, kvs, rfl, rfl, ha, q⟩ := h
  cases rx
  cases rv
  obtain ⟨hz, hd, xs, r, m⟩ := dx_of I.hok ha
  obtain ⟨es, rd, _⟩ := m.raw
  refine call_meetsIn PySem.F.slot_dict_items m.typeIs PySem.F.entry_dict_items (PySem.F.args_dict_items_1 _) (meets_items_x a hd) ⟨⟨es, ep, rd⟩, ?_⟩
  refine ⟨.ref s.heap.objs.size, _, I.laid (a := s.heap.objs.size) (o := viewO s.heap.objs.size a) (t' := s.toks) (fun _ _ e => Heap.get?_push_of_some _ e) (Nat.le_refl _) ?_, rfl, q _ (I.hok.fresh (Nat.le_refl _))⟩
  exact ⟨⟨_, Heap.get?_push_size _ rfl, rfl, rfl⟩, ⟨_, Heap.get?_push_size _ rfl⟩, fun h1 h2 ⟨o, e, c⟩ k => ⟨o, k o e, c⟩⟩
/-- the pairs, at turn i -/
def Itd (a : Addr) (ep n : Nat) : It :=
  ⟨fun i H => ∃ kvs kv, H a = some (.dX ep kvs) ∧ kvs.length = n ∧ kvs[i]? = some kv,
   fun i H x H' => ∃ p, x = .ref p ∧ H p = none ∧ ∃ kvs k v y, H a = some (.dX ep kvs) ∧ kvs[i]? = some (k, v) ∧ KeyV H k y ∧ H' = upd H p (.tup [y, v]),
   fun i H => (∃ kvs, H a = some (.dX ep kvs) ∧ kvs.length = n) ∧ n ≤ i⟩
theorem KX.at {H : Hp} : ∀ {kvs : List (KD × V)} {xs : Tab} {i : Nat} {kv : KD × V}, KX H kvs xs → kvs[i]? = some kv → ∃ u v, xs[i]? = some (kv.1, u, v) ∧ KeyU H kv.1 u ∧ RelV kv.2 v
  | _, _, _, _, .nil, e => by simp at e
  | _, _, 0, _, .cons (b := q) z t, e => by
    simp at e; subst e
    exact ⟨q.2.1, q.2.2, by simp [z.1], z.2.1, z.2.2⟩
  | _, _, i + 1, kv, .cons _ t, e => by
    obtain ⟨u, v, h1, h2⟩ := KX.at (i := i) (kv := kv) t (by simpa using e)
    exact ⟨u, v, by simpa using h1, h2⟩
theorem turn_items {P : Program} {w : World} {K : PySem.W.Frag} {es : List Expr} {k : Nat} {pos : Pos} (a it : Addr) (ep n : Nat) :
    Turn P w K (.Tuple es k pos) (Itd a ep n) [it] it (fun i h => ∃ ok ov, IsItemIter h it a i n ep ok ov) where
  mem := by simp
  obj := fun i h st b hb => by
    have e : b = it := by simpa using hb
    subst e
    obtain ⟨ok, ov, e⟩ := st
    exact ⟨_, e, fun v z => by
      have z' : Data.fields _ = Data.cell v := z
      cases z'⟩
  keep := fun i h h' st k => let ⟨ok, ov, e⟩ := st; ⟨ok, ov, k it (by simp) _ e⟩
  item := by
    intro X hP hw hK hc i pins s σ H E I hf st hg
    subst hP hw hK
    obtain ⟨kvs, ⟨kk, kv⟩, ha, hn, hx⟩ := hg
    obtain ⟨ok, ov, st⟩ := st
    obtain ⟨f0, f1, f2, f3, f4, f5⟩ := hf it (by simp)
    obtain ⟨hz, hd, xs, r, m⟩ := dx_of I.hok ha
    obtain ⟨ent, rd, he⟩ := m.raw
    obtain ⟨u, v, hxs, hU, rv⟩ := r.at hx
    have hsz : ent.size = n := by rw [ent_size he, ← r.length, hn]
    have hent : ent[i]? = some ⟨hashX X.prog X.w kk, u, v⟩ := by rw [ent_at he i, hxs]; rfl
    obtain ⟨y, hy, ry⟩ := hU.v
    subst hsz
    have hlt : it < s.heap.objs.size := Heap.lt_size st
    refine next_items_x st rd hent fun h1 o1 t1 z1 k1 => ⟨_, rfl, ?_⟩
    refine wpAny_letOwnedTupleGo_items (s := { s with heap := h1 }) o1 fun h2 o2 s2 => ?_
    replace s2 : Heap.SameBut it h1 h2 := s2
    have t2 : h2.get? s.heap.objs.size = some { cls := .type "tuple", data := .seq #[u, v] } := (s2.2 _ (Nat.ne_of_gt hlt)).trans t1
    have k2 : ∀ b o, b ≠ it → s.heap.get? b = some o → h2.get? b = some o := fun b o hb e => (s2.2 b hb).trans (k1 b o hb e)
    have hp : H s.heap.objs.size = none := I.hok.fresh (Nat.le_refl _)
    have nit : ∀ b u, H b = some u → b ≠ it := fun b u e z => by rw [z, f0] at e; cases e
    have J : Inv X pins σ (upd H s.heap.objs.size (.tup [y, kv])) { s with heap := h2, gens := s.gens, drawn := s.drawn, toks := s.toks } := by
      refine I.step (h' := h2) (g' := s.gens) (d' := s.drawn) (t' := s.toks) (ch := [it]) (fun b hb => ?_) (fun b o _ _ hc e _ => k2 b o (fun z => hc (by simp [z])) e) (fun b o _ _ hc e _ => ⟨o.slots, k2 b o (fun z => hc (by simp [z])) e⟩)
        (fun b o _ e q => by rw [upd_ne (Nat.ne_of_lt (Heap.lt_size e))]; exact q) (fun b o hc e => ⟨o, k2 b o (fun z => hc (by simp [z])) e⟩) (fun b xs e => by rw [upd_ne (ne_of_none e hp)]; exact e)
        (fun b o u e => by rw [upd_ne (ne_of_none e hp)]; exact e) (fun b ps e => ⟨#[], by rw [upd_ne (ne_of_none e hp), e]; simp⟩) (fun m' hm => ?_) (fun b q e => ?_) I.bare
      · have e : b = it := by simpa using hb
        subst e
        exact ⟨f3, f1, f4, f5⟩
      · obtain ⟨o, es', ep', ho, rr⟩ := hm
        exact ⟨o, es', ep', k2 _ o (Ne.symm f1) ho, rr⟩
      · by_cases hb : b = s.heap.objs.size
        · subst hb
          rw [upd_same] at e
          cases e
          exact ⟨by show 2 ≤ sizeLine; decide, [u, v], .cons ry (.cons rv .nil), _, t2, rfl, _, rfl⟩
        · rw [upd_ne hb] at e
          refine (I.hok b q e).stay (fun c v' hc' q' => k2 c v' ?_ q') (fun c q' => by rw [upd_ne (ne_of_none q' hp)]; exact q') fun c xs' q' => by rw [upd_ne (ne_of_none q' hp)]; exact q'
          rcases hc' with z | z
          · rw [z]; exact nit b q e
          · exact nit c _ z
    refine ⟨.ref s.heap.objs.size, upd H s.heap.objs.size (.tup [y, kv]), J, rfl, ⟨_, rfl, hp, kvs, kk, kv, y, ha, hx, hy, rfl⟩, ⟨_, _, o2⟩, fun b hb => ?_⟩
    have e : b = it := by simpa using hb
    subst e
    rw [upd_ne (Nat.ne_of_lt hlt)]
    exact f0
  done := by
    intro X hP hw hK hc i pins s σ H E I hf st hg
    subst hP hw hK
    obtain ⟨⟨kvs, ha, hn⟩, hi⟩ := hg
    obtain ⟨ok, ov, st⟩ := st
    obtain ⟨f0, f1, f2, f3, f4, f5⟩ := hf it (by simp)
    obtain ⟨hz, hd, xs, r, m⟩ := dx_of I.hok ha
    obtain ⟨ent, rd, he⟩ := m.raw
    have hsz : ent.size = n := by rw [ent_size he, ← r.length, hn]
    subst hsz
    exact end_items_x (I.ok.hd hc) st rd hi fun h' eb => ⟨rfl, I.turned (t' := s.toks) (fun b o hb e => eb b o hb e) f0 f1 f3 f4 f5⟩
  self := fun A i s Q E st h => by
    obtain ⟨ok, ov, st⟩ := st
    exact PySem.W.kcp_self st h
end L2

namespace L2
open PySem PySem.Spec PyProof.Rows
open Sem (wp)
open PySem.W (KdxIt KdxSt)

/-! ### list(d.items()), by the dict's entries alone -/
abbrev pairO (e : DictEntry) : Obj := { cls := .type "tuple", data := .seq #[e.key, e.val] }
section
variable {P : Program} {w : World} {A : Around} {E : Value → Shared → Prop} {s : Shared} {it d a : Addr} {f : Bool} {i ep : Nat} {es : Array DictEntry} {ok ov : Value}
theorem next_out_x {oa : Obj} {e : DictEntry} {Q : Option Value → Shared → Prop} (hit : KdxIt s.heap it d i es.size ep ok ov a f) (ha : s.heap.get? a = some oa) (hai : a ≠ it) (hm : RawD s.heap d es ep) (hx : es[i]? = some e)
    (hQ : ∀ h', KdxIt h' it d (i + 1) es.size ep ok ov a true → h'.get? s.heap.objs.size = some (pairO e) → h'.objs.size = s.heap.objs.size + 1 →
      (∀ b o, b ≠ it → s.heap.get? b = some o → h'.get? b = some o) → Q (some (.ref s.heap.objs.size)) { s with heap := h' }) : wpAny (model P w) A (pyNext (.ref it)) Q E s := by
  obtain ⟨hp, g, dr, tk, os⟩ := s
  obtain ⟨od, hod, hcd, hdd⟩ := id hm
  have hT : Shared.TypeIs ⟨hp, g, dr, tk, os⟩ (.ref it) "dict_itemiterator" := ⟨_, hit, rfl⟩
  unfold pyNext
  refine wpAny_bind (wpAny_attempt (wpAny_callSpecial?_slot (name := Str.ofString "__next__") hT F.slot_dict_itemiterator_next (wpAny_call_entry F.slot_dict_itemiterator_next hT F.entry_dict_itemiterator_next ?_ (F.args_dict_itemiterator_next_1 _))))
  refine wpAny_bind (wpAny_pure (wpAny_bind (wpAny_bind ?_)))
  first | refine wpAny_bind (wpAny_typeNameOfWhole_itemiter hT (wpAny_pure ?_)) | refine wpAny_bind (wpAny_typeNameOf_itemiter hT (wpAny_pure ?_))
  refine wpAny_bind (wpAny_fieldsOf hit rfl ?_)
  simp only [show Builtin.Dict_items.ownsTuple "dict_itemiterator" = true from by decide, if_true]
  show wpAny _ _ (if (Value.ref d == Value.none) = true then _ else _) _ _ _
  rw [if_neg (show ¬ ((Value.ref d == Value.none) = true) from Bool.false_ne_true)]
  refine wpAny_bind (wpAny_pure (wpAny_bind (wpAny_dictEntries hod hdd ?_)))
  rw [if_neg (by simp)]
  refine wpAny_bind (wpAny_pure (wpAny_bind (wpAny_dictEpoch hod hdd ?_)))
  rw [if_neg (by simp)]
  refine wpAny_pure ?_
  simp only [show ¬ ((i : Int) < 0) from by omega, if_false, Int.toNat_natCast, hx]
  refine wpAny_bind ?_
  first | refine wpAny_bind (wpAny_typeNameOfWhole_itemiter hT (wpAny_pure ?_)) | refine wpAny_bind (wpAny_typeNameOf_itemiter hT (wpAny_pure ?_))
  refine wpAny_bind (wpAny_isOneOf_itemiter hT ?_)
  show wpAny _ _ (setField (.ref it) 3 (rawInt ((i : Int) + 1)) >>= _) _ _ ⟨hp, g, dr, tk, os⟩
  refine wpAny_bind (wpAny_setField_rec hit (by simp) fun h₁ he₁ hs₁ => ?_)
  replace hs₁ : Heap.SameBut it hp h₁ := hs₁
  replace he₁ : KdxIt h₁ it d (i + 1) es.size ep ok ov a f := by
    have q : ((i + 1 : Nat) : Int) = (i : Int) + 1 := by omega
    unfold KdxIt; rw [q]; simpa [rawInt] using he₁
  have hT₁ : Shared.TypeIs ⟨h₁, g, dr, tk, os⟩ (.ref it) "dict_itemiterator" := ⟨_, he₁, rfl⟩
  refine wpAny_bind (wpAny_holding (wpAny_bind (wpAny_isOneOf_itemiter hT₁ (wpAny_bind (wpAny_isOneOf_itemiter hT₁ ?_)))))
  show wpAny _ _ (Builtin.Dict_items.pairFromOwner (.ref it) 6 e.key e.val) _ _ ⟨h₁, g, dr, tk, os⟩
  unfold Builtin.Dict_items.pairFromOwner
  refine wpAny_bind (wpAny_newTuple ?_)
  have he₂ : KdxIt (h₁.push (pairO e)) it d (i + 1) es.size ep ok ov a f := Heap.get?_push_of_some _ he₁
  generalize hh₂ : h₁.push (pairO e) = h₂ at he₂
  have hz₁ : h₁.objs.size = hp.objs.size := hs₁.1
  have hil : it < hp.objs.size := Heap.lt_size hit
  have ht₂ : h₂.get? hp.objs.size = some (pairO e) := by rw [← hh₂, ← hz₁]; exact Heap.get?_push_size _ rfl
  have hz₂ : h₂.objs.size = hp.objs.size + 1 := by rw [← hh₂, Heap.size_push, hz₁]
  have hk₂ : ∀ b o, b ≠ it → hp.get? b = some o → h₂.get? b = some o := fun b o hb q => by rw [← hh₂]; exact Heap.get?_push_of_some _ (hs₁.extBut b o hb q)
  show wpAny _ _ (Builtin.Dict_items.ownedTupleIsFree (.ref it) >>= _) _ _ ⟨h₂, g, dr, tk, os⟩
  rw [hz₁]
  clear hh₂ he₁ hs₁ hT₁ hz₁ h₁
  have ha₂ : h₂.get? a = some oa := hk₂ a oa hai ha
  refine wpAny_bind ?_
  unfold Builtin.Dict_items.ownedTupleIsFree
  refine wpAny_bind (wpAny_field he₂ rfl (x := rawInt a) rfl ?_)
  show wpAny _ _ (loadIfAlive ((a : Int).toNat) >>= _) _ _ _
  rw [Int.toNat_natCast]
  refine wpAny_bind (PySem.W.kdx_alive ha₂ ?_)
  simp only [Option.isNone_some, Bool.false_eq_true, if_false]
  refine wpAny_bind (wpAny_field he₂ rfl (x := .bool f) rfl ?_)
  have fin : ∀ h₃ : Heap, KdxIt h₃ it d (i + 1) es.size ep ok ov a true → Heap.SameBut it h₂ h₃ → Q (some (.ref hp.objs.size)) ⟨h₃, g, dr, tk, os⟩ := fun h₃ he₃ hs₃ =>
    hQ h₃ he₃ (hs₃.extBut _ _ (Nat.ne_of_gt hil) ht₂) (by show h₃.objs.size = hp.objs.size + 1; rw [hs₃.1, hz₂]) fun b o hb q => hs₃.extBut b o hb (hk₂ b o hb q)
  cases f with
  | true =>
    rw [if_neg (show ¬ ((Value.bool true != Value.bool true) = true) from Bool.false_ne_true)]
    refine wpAny_pure ?_
    simp only [Bool.false_eq_true, if_false]
    exact wpAny_pure (wpAny_pure ⟨_, rfl, wpAny_pure (fin h₂ he₂ (Heap.SameBut.refl _ _))⟩)
  | false =>
    rw [if_pos (show (Value.bool false != Value.bool true) = true from rfl)]
    refine wpAny_bind (wpAny_setField_rec he₂ (by simp) fun h₃ he₃ hs₃ => ?_)
    refine wpAny_pure ?_
    simp only [Bool.false_eq_true, if_false]
    exact wpAny_pure (wpAny_pure ⟨_, rfl, wpAny_pure (fin h₃ he₃ hs₃)⟩)
theorem end_out_x {Q : Option Value → Shared → Prop} (hh : A.handled = none) (hit : KdxIt s.heap it d i es.size ep ok ov a f) (hm : RawD s.heap d es ep) (hge : es.size ≤ i)
    (hQ : ∀ h', Heap.ExtBut it s.heap h' → Q none { s with heap := h' }) : wpAny (model P w) A (pyNext (.ref it)) Q E s := by
  obtain ⟨od, hod, hcd, hdd⟩ := id hm
  have hT : s.TypeIs (.ref it) "dict_itemiterator" := ⟨_, hit, rfl⟩
  unfold pyNext
  refine wpAny_bind (wpAny_attempt (wpAny_callSpecial?_slot (name := Str.ofString "__next__") hT F.slot_dict_itemiterator_next (wpAny_call_entry F.slot_dict_itemiterator_next hT F.entry_dict_itemiterator_next ?_ (F.args_dict_itemiterator_next_1 _))))
  refine wpAny_bind (wpAny_pure (wpAny_bind (wpAny_bind ?_)))
  first | refine wpAny_bind (wpAny_typeNameOfWhole_itemiter hT (wpAny_pure ?_)) | refine wpAny_bind (wpAny_typeNameOf_itemiter hT (wpAny_pure ?_))
  refine wpAny_bind (wpAny_fieldsOf hit rfl ?_)
  simp only [show Builtin.Dict_items.ownsTuple "dict_itemiterator" = true from by decide, if_true]
  show wpAny _ _ (if (Value.ref d == Value.none) = true then _ else _) _ _ s
  rw [if_neg (show ¬ ((Value.ref d == Value.none) = true) from Bool.false_ne_true)]
  refine wpAny_bind (wpAny_pure (wpAny_bind (wpAny_dictEntries hod hdd ?_)))
  rw [if_neg (by simp)]
  refine wpAny_bind (wpAny_pure (wpAny_bind (wpAny_dictEpoch hod hdd ?_)))
  rw [if_neg (by simp)]
  refine wpAny_pure ?_
  simp only [show ¬ ((i : Int) < 0) from by omega, if_false, Int.toNat_natCast, Array.getElem?_eq_none hge]
  refine wpAny_bind ?_
  first | refine wpAny_bind (wpAny_typeNameOfWhole_itemiter hT (wpAny_pure ?_)) | refine wpAny_bind (wpAny_typeNameOf_itemiter hT (wpAny_pure ?_))
  show wpAny _ _ (setField (.ref it) 2 .none >>= _) _ _ s
  refine wpAny_bind (wpAny_setField hit rfl (by simp) ?_)
  show wpAny _ _ (newExc (.type "StopIteration") [] >>= _) _ _ _
  refine wpAny_bind ?_
  simp only [newExc, newTuple]
  refine wpAny_bind (wpAny_newObj_type ?_ (by size_fits))
  refine wpAny_bind (m := firstArgMember _ _) (wpAny_of_eq (a := Value.none) (by first | rfl | (simp only [firstArgMember]; rfl)) ?_)
  refine wpAny_newObj_type ?_ (by size_fits)
  simp only [raiseNew]
  refine wpAny_bind (wpAny_handled ?_)
  rw [show A.in1.handled = none from hh]
  refine wpAny_bind (wpAny_pure (wpAny_throw ?_))
  refine wpAny_bind (wpAny_isInstance (T := "StopIteration") (b := true) ⟨_, Heap.get?_push_size _ rfl, rfl⟩ isSubtype_stop ?_)
  exact wpAny_pure (hQ _ (((Heap.SameBut.update ..).extBut.push _).push _))
end

/-- the pairs made so far -/
structure PrG (es : Array DictEntry) (lo : Addr) (h : Heap) (as : List Addr) : Prop where
  rise : as.Pairwise (· < ·)
  above : ∀ a ∈ as, lo < a
  pairs : ∀ (j : Nat) (a : Addr), as[j]? = some a → ∃ e, es[j]? = some e ∧ h.get? a = some (pairO e)
theorem PrG.there {es : Array DictEntry} {lo : Addr} {h : Heap} {as : List Addr} (g : PrG es lo h as) {a : Addr} (ha : a ∈ as) : a < h.objs.size := by
  obtain ⟨j, hj⟩ := List.mem_iff_getElem?.mp ha
  obtain ⟨_, _, e⟩ := g.pairs j a hj
  exact Heap.lt_size e
theorem PrG.low {es : Array DictEntry} {lo lo' : Addr} {h : Heap} {as : List Addr} (g : PrG es lo h as) (hl : lo' ≤ lo) : PrG es lo' h as := ⟨g.rise, fun a ha => Nat.lt_of_le_of_lt hl (g.above a ha), g.pairs⟩
theorem RawD.keep {h h' : Heap} {d : Addr} {es : Array DictEntry} {ep : Nat} (m : RawD h d es ep) (k : ∀ o, h.get? d = some o → h'.get? d = some o) : RawD h' d es ep := let ⟨o, ho, r⟩ := m; ⟨o, k o ho, r⟩
theorem RawD.lt {h : Heap} {d : Addr} {es : Array DictEntry} {ep : Nat} (m : RawD h d es ep) : d < h.objs.size := let ⟨_, ho, _⟩ := m; Heap.lt_size ho
section
variable {P : Program} {w : World} {A : Around} {s : Shared} {R : Result → Shared → Prop} {es : Array DictEntry} {ep : Nat}
abbrev lst0 (acc : Array Value) (c : Nat) : Obj := { cls := .type "list", dict := none, data := .seq acc c, slots := #[] }
theorem prs_loop {S I d : Addr} (hh : A.handled = none) (hSI : S < I) (hSd : d ≠ S) (hId : d ≠ I) (hn : es.size ≤ sizeLine) (res : Value) {h₁ : Heap}
    (hR : ∀ h' tk acc c as, (∀ b o, b ≠ S → b ≠ I → h₁.get? b = some o → h'.get? b = some o) → h'.get? S = some (lst0 acc c) → as.length = es.size → PrG es I h' as → acc.toList = as.map Value.ref → R (.ok (.ret res)) { s with heap := h', toks := tk }) :
    ∀ (k i : Nat) (h : Heap) (tk c : Nat) (acc : Array Value) (as : List Addr), es.size - i = k → i ≤ es.size → KdxSt h I d S i es.size ep → RawD h d es ep → (∀ b o, b ≠ S → b ≠ I → h₁.get? b = some o → h.get? b = some o) →
      h.get? S = some (lst0 acc c) → acc.toList = as.map Value.ref → as.length = i → PrG es I h as → I < h.objs.size →
      codeAny (model P w) A (.builtin "list.extend.loop" ⟨[.ref S, .ref I, res], []⟩) R { s with heap := h, toks := tk } := by
  have hne : S ≠ I := Nat.ne_of_lt hSI
  intro k
  induction k with
  | zero =>
    intro i h tk c acc as hk hi hst hD hkeep hS hacc hal hG hIs
    have hge : es.size ≤ i := by omega
    refine codeAny_builtin PySem.F.entry_extend_loop ?_
    rw [Around.under_plainId PySem.F.plain_extend_loop _]
    show wpAny _ A.in1 (pyNext (.ref I) >>= _) _ _ _
    refine wpAny_bind ?_
    have fin : ∀ h', Heap.ExtBut I h h' → R (.ok (.ret res)) { s with heap := h', toks := tk } := fun h' he =>
      hR h' tk acc c as (fun b o h1 h2 e => he b o h2 (hkeep b o h1 h2 e)) (he S _ hne hS) (by omega) ⟨hG.rise, hG.above, fun j a hj => by
        obtain ⟨e, e1, e2⟩ := hG.pairs j a hj
        exact ⟨e, e1, he a _ (Nat.ne_of_gt (hG.above a (List.mem_of_getElem? hj))) e2⟩⟩ hacc
    rcases hst with ⟨rfl, ok, ov, hit⟩ | ⟨ok, ov, a, f, oa, hit, _, _, _⟩
    · exact end_items_x (s := { s with heap := h, toks := tk }) (A := A.in1) hh hit hD hge fun h' he => wpAny_pure (fin h' he)
    · exact end_out_x (s := { s with heap := h, toks := tk }) (A := A.in1) hh hit hD hge fun h' he => wpAny_pure (fin h' he)
  | succ k ih =>
    intro i h tk c acc as hk hi hst hD hkeep hS hacc hal hG hIs
    have hlt : i < es.size := by omega
    have hx : es[i]? = some es[i] := Array.getElem?_eq_getElem hlt
    have hsz : acc.size = i := by rw [← Array.length_toList, hacc, List.length_map, hal]
    have hSl : S < h.objs.size := Heap.lt_size hS
    refine codeAny_builtin PySem.F.entry_extend_loop ?_
    rw [Around.under_plainId PySem.F.plain_extend_loop _]
    show wpAny _ A.in1 (pyNext (.ref I) >>= _) _ _ _
    refine wpAny_bind ?_
    have go : ∀ h', KdxSt h' I d S (i + 1) es.size ep → h'.get? h.objs.size = some (pairO es[i]) → h'.objs.size = h.objs.size + 1 → (∀ b o, b ≠ I → h.get? b = some o → h'.get? b = some o) →
        wpAny (model P w) A.in1 (updateSeq S (·.push (Value.ref h.objs.size)) >>= fun _ => again (.builtin "list.extend.loop" ⟨[.ref S, .ref I, res], []⟩))
          (fun fin s' => match fin with | .done f => R (.ok f) s' | .again c' => c'.quiet = true ∧ codeAny (model P w) A c' R s') (fun e s' => R (.error e) s') { s with heap := h', toks := tk } := fun h' hst' ht hz hkp => by
      have hS' := hkp S _ hne hS
      have up : ∀ b o, b ≠ S → h'.get? b = some o → (h'.update S (Obj.mapSeq (·.push (Value.ref h.objs.size)))).get? b = some o := fun b o hb e => (Heap.get?_update_other _ _ (Ne.symm hb)).trans e
      refine wpAny_bind ?_
      refine wpAny_updateSeq hS' rfl (wpAny_pure ⟨plainId_quiet PySem.F.plain_extend_loop _, ih (i + 1) _ tk _ (acc.push (Value.ref h.objs.size)) (as ++ [h.objs.size]) (by omega) hlt (hst'.keep up (Ne.symm hne)) (hD.keep fun o e => up d o hSd (hkp d o hId e))
        (fun b o h1 h2 e => up b o h1 (hkp b o h2 (hkeep b o h1 h2 e))) (Heap.get?_update_self _ hS' rfl) (by rw [Array.toList_push, hacc, List.map_append]; rfl) (by rw [List.length_append, hal]; rfl) ⟨?_, ?_, ?_⟩ ?_⟩) (by rw [hsz]; omega) (by show (acc.push (Value.ref h.objs.size)).size ≤ sizeLine + 1; rw [Array.size_push, hsz]; omega)
      · refine List.pairwise_append.mpr ⟨hG.rise, List.pairwise_singleton _ _, fun a ha b hb => ?_⟩
        rw [List.mem_singleton.mp hb]
        exact hG.there ha
      · intro a ha
        rcases List.mem_append.mp ha with ha | ha
        · exact hG.above a ha
        · rw [List.mem_singleton.mp ha]; exact hIs
      · intro j b hj
        rcases Nat.lt_trichotomy j as.length with h1 | h1 | h1
        · rw [List.getElem?_append_left h1] at hj
          obtain ⟨e, e1, e2⟩ := hG.pairs j b hj
          have hb := hG.above b (List.mem_of_getElem? hj)
          exact ⟨e, e1, up b _ (Nat.ne_of_gt (Nat.lt_trans hSI hb)) (hkp b _ (Nat.ne_of_gt hb) e2)⟩
        · subst h1
          have hb : h.objs.size = b := by simpa using hj
          subst hb
          exact ⟨es[i], by rw [hal]; exact hx, up _ _ (Nat.ne_of_gt hSl) ht⟩
        · have hnone : (as ++ [h.objs.size])[j]? = none := List.getElem?_eq_none (by rw [List.length_append, List.length_singleton]; omega)
          rw [hnone] at hj; cases hj
      · have e : (h'.update S (Obj.mapSeq (·.push (Value.ref h.objs.size)))).get? h.objs.size = _ := up _ _ (Nat.ne_of_gt hSl) ht
        exact Nat.lt_trans hIs (Heap.lt_size e)
    rcases hst with ⟨rfl, ok, ov, hit⟩ | ⟨ok, ov, a, f, oa, hit, ha, hai, haS⟩
    · exact next_items_x (s := { s with heap := h, toks := tk }) hit hD hx fun h' hit' ht hz hkp => go h' (.inr ⟨_, _, _, false, _, hit', ht, Nat.ne_of_gt (Heap.lt_size hit), Nat.ne_of_gt hSl⟩) ht hz hkp
    · exact next_out_x (s := { s with heap := h, toks := tk }) hit ha hai hD hx fun h' hit' ht hz hkp => go h' (.inr ⟨ok, ov, a, true, oa, hit', hkp a oa hai ha, hai, haS⟩) ht hz hkp
end
section
variable {P : Program} {w : World} {A : Around} {E : Value → Shared → Prop} {s : Shared} {r d : Addr} {es : Array DictEntry} {ep : Nat}
theorem prs_extend {R : Result → Shared → Prop} (hh : A.handled = none) (hv : s.heap.IsItemsView r d) (hm : RawD s.heap d es ep) (S : Addr) (hSr : S ≠ r) (hSd : d ≠ S) (res : Value) (c₀ : Nat) (hS : s.heap.get? S = some { cls := .type "list", data := .seq #[] c₀ })
    (hR : ∀ h' tk acc c as, (∀ b o, b ≠ S → s.heap.get? b = some o → h'.get? b = some o) → h'.get? S = some (lst0 acc c) → as.length = es.size → PrG es s.heap.objs.size h' as → acc.toList = as.map Value.ref → R (.ok (.ret res)) { s with heap := h', toks := tk }) (hn : es.size ≤ sizeLine) :
    wpAny (model P w) A.in1 (Builtin.List.listExtendWith (.ref S) (.ref r) res)
      (fun fin s' => match fin with | .done f => R (.ok f) s' | .again c' => c'.quiet = true ∧ codeAny (model P w) A c' R s') (fun e s' => R (.error e) s') s := by
  have hSI : S < s.heap.objs.size := Heap.lt_size hS
  have hdI : d < s.heap.objs.size := hm.lt
  have key : ∀ (h : Heap) (c₁ tk : Nat), (∀ b o, b ≠ S → (s.heap.push { cls := .type "dict_itemiterator", data := .fields #[.none, .bool false, .ref d, .int 0 0, .int es.size 0, .int ep 0, .none, .none] }).get? b = some o → h.get? b = some o) →
      h.get? S = some { cls := .type "list", data := .seq #[] c₁ } → codeAny (model P w) A (.builtin "list.extend.loop" ⟨[.ref S, .ref s.heap.objs.size, res], []⟩) R { s with heap := h, toks := tk } := by
    intro h c₁ tk hk hS₁
    have hI := hk s.heap.objs.size _ (Nat.ne_of_gt hSI) (Heap.get?_push_size _ rfl)
    exact prs_loop (s := s) (h₁ := s.heap) hh hSI hSd (Nat.ne_of_lt hdI) hn res (fun h' tk' acc c as hk' hS' hl hG hacc => hR h' tk' acc c as (fun b o hb e => hk' b o hb (Nat.ne_of_lt (Heap.lt_size e)) e) hS' hl hG hacc)
      es.size 0 h tk c₁ #[] [] (Nat.sub_zero _) (Nat.zero_le _) (.inl ⟨rfl, .none, .none, hI⟩) (hm.keep fun o e => hk d o hSd (Heap.get?_push_of_some _ e)) (fun b o hb _ e => hk b o hb (Heap.get?_push_of_some _ e)) hS₁ rfl rfl
      ⟨List.Pairwise.nil, (fun _ ha => nomatch ha), (fun j a hj => by simp at hj)⟩ (Heap.lt_size hI)
  unfold Builtin.List.listExtendWith
  refine wpAny_bind (wpAny_typeOf (T := "dict_items") hv.typeIs ?_)
  have h1 : Builtin.List.listSameRef (.ref S) (.ref r) = false := by simp [Builtin.List.listSameRef, hSr]
  simp only [h1, show (Value.type "dict_items" == Value.type "list") = false from by decide, show (Value.type "dict_items" == Value.type "tuple") = false from by decide, Bool.or_false, Bool.false_eq_true, if_false]
  refine wpAny_bind (iter_items_x hv hm ?_)
  have hS₁ := Heap.get?_push_of_some { cls := .type "dict_itemiterator", data := .fields #[.none, .bool false, .ref d, .int 0 0, .int es.size 0, .int ep 0, .none, .none] } hS
  refine wpAny_bind (wpAny_holding (PySem.W.kdx_hint (let ⟨o, ho, hc, _⟩ := hv; ⟨o, Heap.get?_push_of_some _ ho, hc⟩) ?_))
  refine wpAny_ite_split (fun _ => ?_) (fun _ => wpAny_pure ⟨plainId_quiet PySem.F.plain_extend_loop _, key _ c₀ _ (fun b o _ e => e) hS₁⟩)
  refine wpAny_bind (wpAny_rule (wpAny_bind ?_))
  show wpAny _ _ (updateSeq S (·.push .none) >>= fun _ => updateSeq S (·.pop)) _ _ _
  refine wpAny_bind (wpAny_updateSeq hS₁ rfl ?_)
  have hS₂ := Heap.get?_update_self (Obj.mapSeq (·.push Value.none)) hS₁ rfl
  refine wpAny_updateSeq (hz := by seq_fits) hS₂ rfl ?_
  have hS₃ := Heap.get?_update_self (Obj.mapSeq (·.pop)) hS₂ rfl
  refine wpAny_pure ⟨plainId_quiet PySem.F.plain_extend_loop _, key _ _ _ (fun b o hb e => ?_) hS₃⟩
  exact (Heap.get?_update_other _ _ (Ne.symm hb)).trans ((Heap.get?_update_other _ _ (Ne.symm hb)).trans e)
theorem prs_init {R : Result → Shared → Prop} (hh : A.handled = none) (hv : s.heap.IsItemsView r d) (hm : RawD s.heap d es ep) (S : Addr) (hSr : S ≠ r) (hSd : d ≠ S) (hS : s.heap.get? S = some { cls := .type "list", data := .seq #[] })
    (hR : ∀ h' tk acc c as, (∀ b o, b ≠ S → s.heap.get? b = some o → h'.get? b = some o) → h'.get? S = some (lst0 acc c) → as.length = es.size → PrG es S h' as → acc.toList = as.map Value.ref → R (.ok (.ret .none)) { s with heap := h', toks := tk }) (hn : es.size ≤ sizeLine) :
    wpAny (model P w) A.in1 (Builtin.«list.__init__» ⟨[.ref S, .ref r], []⟩)
      (fun fin s' => match fin with | .done f => R (.ok f) s' | .again c' => c'.quiet = true ∧ codeAny (model P w) A c' R s') (fun e s' => R (.error e) s') s := by
  show wpAny _ _ (do let old ← Builtin.List.listItems (.ref S); Builtin.List.listUpdate (.ref S) (fun _ => #[]); letGo old.toList.reverse; Builtin.List.listExtendWith (.ref S) (.ref r) .none) _ _ s
  refine wpAny_bind ?_
  unfold Builtin.List.listItems
  refine wpAny_bind (wpAny_seqItems hS rfl (wpAny_pure ?_))
  show wpAny _ _ (updateSeq S (fun _ => #[]) >>= fun _ => letGo (#[] : Array Value).toList.reverse >>= fun _ => Builtin.List.listExtendWith (.ref S) (.ref r) .none) _ _ s
  refine wpAny_bind (wpAny_updateSeq hS rfl ?_)
  have hS₂ := Heap.get?_update_self (Obj.mapSeq (fun _ => (#[] : Array Value))) hS rfl
  have oth : ∀ b o, b ≠ S → s.heap.get? b = some o → (s.heap.update S (Obj.mapSeq (fun _ => (#[] : Array Value)))).get? b = some o := fun b o hb e => (Heap.get?_update_other _ _ (Ne.symm hb)).trans e
  refine wpAny_bind (wpAny_letGo ?_)
  exact prs_extend hh (let ⟨o, ho, x⟩ := hv; ⟨o, oth r o hSr.symm ho, x⟩) (hm.keep fun o e => oth d o hSd e) S hSr hSd .none _ hS₂ (fun h' tk acc c as hk hS' hl hG hacc =>
    hR h' tk acc c as (fun b o hb e => hk b o hb (oth b o hb e)) hS' hl (hG.low (Nat.le_of_lt (Heap.lt_size hS₂))) hacc) hn
theorem kdx_call {Q : Value → Shared → Prop} (hh : A.handled = none) (hv : s.heap.IsItemsView r d) (hm : RawD s.heap d es ep) (hn : es.size ≤ sizeLine)
    (hQ : ∀ h' tk acc c as, (∀ b o, s.heap.get? b = some o → h'.get? b = some o) → h'.get? s.heap.objs.size = some (lst0 acc c) → as.length = es.size → PrG es s.heap.objs.size h' as → acc.toList = as.map Value.ref → Q (.ref s.heap.objs.size) { s with heap := h', toks := tk }) :
    wpAny (model P w) A (call (.type "list") [.ref r]) Q E s := by
  refine callType_codes (Q₁ := fun obj s₁ => obj = .ref s.heap.objs.size ∧ s₁ = { s with heap := s.heap.push { cls := .type "list", data := .seq #[] } }) PySem.F.called_list (PySem.F.typeCall_list_1 _) PySem.F.entry_list_init
    (code_list_new _ ⟨rfl, rfl⟩) fun obj s₁ h₁ => ?_
  obtain ⟨rfl, rfl⟩ := h₁
  have hS : (s.heap.push { cls := .type "list", data := .seq #[] }).get? s.heap.objs.size = some { cls := .type "list", data := .seq #[] } := Heap.get?_push_size _ rfl
  have hr : r < s.heap.objs.size := let ⟨_, ho, _⟩ := hv; Heap.lt_size ho
  refine ⟨⟨_, hS, rfl⟩, PySem.F.args_list_init_2 _ _, prs_init (A := A.in1) hh (let ⟨o, ho, x⟩ := hv; ⟨o, Heap.get?_push_of_some _ ho, x⟩) (hm.keep fun o e => Heap.get?_push_of_some _ e) _ (Nat.ne_of_gt hr) (Nat.ne_of_lt hm.lt) hS (fun h' tk acc c as hk hS' hl hG hacc => ?_) hn⟩
  exact ⟨rfl, hQ h' tk acc c as (fun b o e => hk b o (Nat.ne_of_lt (Heap.lt_size e)) (Heap.get?_push_of_some _ e)) hS' hl hG hacc⟩
end
end L2

namespace L2
open PySem PySem.Spec PyProof.Rows
open Sem (wp)

/-! ### several new objects at once -/
def updL (H : Hp) : List (Addr × HO) → Hp
  | [] => H
  | (a, o) :: r => upd (updL H r) a o
theorem updL_out {H : Hp} : ∀ {l : List (Addr × HO)} {b : Addr}, b ∉ l.map (·.1) → updL H l b = H b
  | [], _, _ => rfl
  | (a, o) :: r, b, h => by
    have h1 : b ≠ a := fun e => h (by rw [e]; exact List.mem_cons_self)
    have h2 : b ∉ r.map (·.1) := fun e => h (List.mem_cons_of_mem _ e)
    show upd (updL H r) a o b = H b
    rw [upd_ne h1, updL_out h2]
theorem updL_in {H : Hp} : ∀ {l : List (Addr × HO)} {b : Addr} {o : HO}, (l.map (·.1)).Nodup → (b, o) ∈ l → updL H l b = some o
  | [], _, _, _, h => nomatch h
  | (a, o') :: r, b, o, nd, h => by
    have nd' : (a :: r.map (·.1)).Nodup := nd
    obtain ⟨n1, n2⟩ := List.nodup_cons.mp nd'
    show upd (updL H r) a o' b = some o
    rcases List.mem_cons.mp h with e | h
    · cases e; exact upd_same
    · have hne : b ≠ a := fun e => n1 (e ▸ List.mem_map.mpr ⟨(b, o), h, rfl⟩)
      rw [upd_ne hne]
      exact updL_in n2 h
theorem updL_same {H : Hp} {l : List (Addr × HO)} (h : ∀ p ∈ l, H p.1 = none) : Same H (updL H l) := fun b o e => by
  rw [updL_out (fun hm => ?_)]
  · exact e
  · obtain ⟨p, hp, rfl⟩ := List.mem_map.mp hm
    rw [h p hp] at e; cases e
theorem Inv.laidL {X : Cx} {pins : List (Addr × Obj)} {σ : St} {H : Hp} {s : Shared} {h' : Heap} {l : List (Addr × HO)} {t' : Nat} (I : Inv X pins σ H s) (k : ∀ b u, s.heap.get? b = some u → h'.get? b = some u)
    (hp : ∀ p ∈ l, s.heap.objs.size ≤ p.1) (nd : (l.map (·.1)).Nodup) (new : ∀ p ∈ l, ObjOk X.prog X.w (updL H l) h' p.1 p.2) : Inv X pins σ (updL H l) { s with heap := h', toks := t' } := by
  have fr : ∀ p ∈ l, H p.1 = none := fun p hp' => I.hok.fresh (hp p hp')
  have sm := updL_same fr
  have out : ∀ b u, s.heap.get? b = some u → updL H l b = H b := fun b u e => updL_out fun hm => by
    obtain ⟨p, hp', rfl⟩ := List.mem_map.mp hm
    exact absurd (Nat.lt_of_lt_of_le (Heap.lt_size e) (hp p hp')) (Nat.lt_irrefl _)
  refine I.un ⟨fun b u q _ _ _ => k b u q, fun b u q _ _ _ => ⟨u.slots, k b u q⟩, fun b u q n _ => by rw [out b u q]; exact n, fun b u q _ => ⟨u, k b u q⟩, fun b xs q => sm b _ q, fun b o u q => sm b _ q, fun b ps q => ⟨#[], by rw [sm b _ q]; simp⟩⟩ ?_
  intro b o e
  by_cases hb : b ∈ l.map (·.1)
  · obtain ⟨p, hp', rfl⟩ := List.mem_map.mp hb
    rw [updL_in nd (show (p.1, p.2) ∈ l from hp')] at e
    cases e
    exact new p hp'
  · rw [updL_out hb] at e
    exact (I.hok b o e).stay (fun c v _ q => k c v q) (fun c q => sm c _ q) fun c xs q => sm c _ q

/-- the pairs of a dict as tuples -/
def PairsAt (H : Hp) : List (KD × V) → List V → Prop := Paired fun kv v => ∃ p y, v = .ref p ∧ H p = some (.tup [y, kv.2]) ∧ KeyV H kv.1 y
theorem PairsAt.mono {H H' : Hp} {kvs : List (KD × V)} {vs : List V} (h : PairsAt H kvs vs) (ht : ∀ b xs, H b = some (.tup xs) → H' b = some (.tup xs)) : PairsAt H' kvs vs :=
  Paired.mapP h fun kv v ⟨p, y, e, hp, hk⟩ => ⟨p, y, e, ht _ _ hp, hk.mono ht⟩
theorem KX.keysV {H : Hp} : ∀ {kvs : List (KD × V)} {xs : Tab}, KX H kvs xs → ∃ ys : List V, Paired (fun (kv : KD × V) y => KeyV H kv.1 y) kvs ys ∧ Paired (fun y (x : KD × Value × Value) => RelV y x.2.1) ys xs
  | _, _, .nil => ⟨[], .nil, .nil⟩
  | _, _, .cons z t => by
    obtain ⟨ys, h1, h2⟩ := KX.keysV t
    obtain ⟨y, hy, ry⟩ := z.2.1.v
    exact ⟨y :: ys, .cons hy h1, .cons ry h2⟩
theorem Paired.get {α β : Type} {F : α → β → Prop} : ∀ {l : List α} {m : List β} {i : Nat} {a : α}, Paired F l m → l[i]? = some a → ∃ b, m[i]? = some b ∧ F a b
  | _, _, _, _, .nil, e => by simp at e
  | _, _, 0, _, .cons z _, e => by simp at e; subst e; exact ⟨_, rfl, z⟩
  | _, _, i + 1, a, .cons _ t, e => by
    obtain ⟨b, h1, h2⟩ := Paired.get (i := i) (a := a) t (by simpa using e)
    exact ⟨b, by simpa using h1, h2⟩
theorem Paired.of_get {α β : Type} {F : α → β → Prop} : ∀ {l : List α} {m : List β}, l.length = m.length → (∀ (i : Nat) a b, l[i]? = some a → m[i]? = some b → F a b) → Paired F l m
  | [], [], _, _ => .nil
  | [], _ :: _, h, _ => by simp at h
  | _ :: _, [], h, _ => by simp at h
  | a :: l, b :: m, h, f => .cons (f 0 a b rfl rfl) (Paired.of_get (by simpa using h) fun i x y hx hy => f (i + 1) x y (by simpa using hx) (by simpa using hy))

theorem vals_refs : ∀ as : List Addr, Vals (as.map V.ref) (as.map Value.ref)
  | [] => .nil
  | _ :: r => .cons rfl (vals_refs r)
def rListView : List V → Hp → VK → Prop := fun xs H Q => ∃ v a ep kvs, xs = [.ref v] ∧ H v = some (viewO v a) ∧ H a = some (.dX ep kvs) ∧
  ∀ l vs H', H l = none → Same H H' → H' l = some (.lst vs) → PairsAt H' kvs vs → Q (.ref l) H'
theorem call_list_view {X : Cx} (hc : X.calm = true) : CallR X (.type "list") rListView := by
  intro pins s σ H xs us Q I r h
  obtain ⟨v, a, ep, kvs, rfl, hv, ha, q⟩ := h
  obtain ⟨u, rfl, ru⟩ := vals1 r
  cases ru
  obtain ⟨hz, hd, ts, rx, m⟩ := dx_of I.hok ha
  obtain ⟨ent, rd, he⟩ := m.raw
  obtain ⟨iv, _, _⟩ := (show ObjOk X.prog X.w H s.heap v (viewO v a) from I.hok v _ hv)
  have hsz : ent.size = kvs.length := by rw [ent_size he, ← rx.length]
  obtain ⟨ys, hys, rys⟩ := rx.keysV
  refine kdx_call (I.ok.hd hc) iv rd (by rw [hsz]; exact hz) fun h' tk acc c as hk hS hl hG hacc => ?_
  have hlen : as.length = kvs.length := by rw [hl, hsz]
  have hylen := hys.length
  -- the new objects
  let tl : List (Addr × HO) := as.zip ((ys.zip (kvs.map (·.2))).map fun p => HO.tup [p.1, p.2])
  have tlk : tl.map (·.1) = as := List.map_fst_zip (by simp; omega)
  have asnd : as.Nodup := hG.rise.imp fun h => Nat.ne_of_lt h
  have below : ∀ b ∈ as, s.heap.objs.size < b := hG.above
  have fin := I.laidL (h' := h') (t' := tk) (l := (s.heap.objs.size, HO.lst (as.map V.ref)) :: tl) hk (fun p hp => ?_) ?_ ?_
  · refine ⟨.ref s.heap.objs.size, _, fin, rfl, q s.heap.objs.size (as.map V.ref) _ (I.hok.fresh (Nat.le_refl _)) (updL_same fun p hp => ?_) ?_ ?_⟩
    · rcases List.mem_cons.mp hp with rfl | hp
      · exact I.hok.fresh (Nat.le_refl _)
      · have : p.1 ∈ as := by rw [← tlk]; exact List.mem_map.mpr ⟨p, hp, rfl⟩
        exact I.hok.fresh (Nat.le_of_lt (below _ this))
    · exact upd_same
    · have nd : (((s.heap.objs.size, HO.lst (as.map V.ref)) :: tl).map (·.1)).Nodup := by
        show (s.heap.objs.size :: tl.map (·.1)).Nodup
        rw [tlk]
        exact List.nodup_cons.mpr ⟨fun hm => Nat.lt_irrefl _ (below _ hm), asnd⟩
      have sm : Same H (updL H ((s.heap.objs.size, HO.lst (as.map V.ref)) :: tl)) := updL_same fun p hp => by
        rcases List.mem_cons.mp hp with rfl | hp
        · exact I.hok.fresh (Nat.le_refl _)
        · have : p.1 ∈ as := by rw [← tlk]; exact List.mem_map.mpr ⟨p, hp, rfl⟩
          exact I.hok.fresh (Nat.le_of_lt (below _ this))
      refine Paired.of_get (by rw [List.length_map, hlen]) fun i kv w' hi hw => ?_
      rw [List.getElem?_map] at hw
      cases hai : as[i]? with
      | none => rw [hai] at hw; cases hw
      | some p =>
        rw [hai] at hw
        cases hw
        obtain ⟨y, hy, ky⟩ := Paired.get hys hi
        refine ⟨p, y, rfl, updL_in nd (List.mem_cons_of_mem _ ?_), ky.mono fun b xs e => sm b _ e⟩
        refine List.mem_of_getElem? (i := i) ?_
        show (as.zip ((ys.zip (kvs.map (·.2))).map fun p => HO.tup [p.1, p.2]))[i]? = some (p, HO.tup [y, kv.2])
        simp [List.getElem?_zip_eq_some, hai, hy, hi]
  · rcases List.mem_cons.mp hp with rfl | hp
    · exact Nat.le_refl _
    · have : p.1 ∈ as := by rw [← tlk]; exact List.mem_map.mpr ⟨p, hp, rfl⟩
      exact Nat.le_of_lt (below _ this)
  · show (s.heap.objs.size :: tl.map (·.1)).Nodup
    rw [tlk]
    exact List.nodup_cons.mpr ⟨fun hm => Nat.lt_irrefl _ (below _ hm), asnd⟩
  · intro p hp
    rcases List.mem_cons.mp hp with rfl | hp
    · refine ⟨by rw [List.length_map, hlen]; exact hz, as.map Value.ref, c, ?_, ?_⟩
      · exact vals_refs as
      · rw [← hacc, Array.toArray_toList]; exact hS
    · obtain ⟨i, hi⟩ := List.mem_iff_getElem?.mp hp
      have hi' : (as.zip ((ys.zip (kvs.map (·.2))).map fun p => HO.tup [p.1, p.2]))[i]? = some (p.1, p.2) := hi
      rw [List.getElem?_zip_eq_some] at hi'
      obtain ⟨h1, h2⟩ := hi'
      have h2 : ((ys.zip (kvs.map (·.2))).map fun p => HO.tup [p.1, p.2])[i]? = some p.2 := h2
      rw [List.getElem?_map] at h2
      cases hzz : (ys.zip (kvs.map (·.2)))[i]? with
      | none => rw [hzz] at h2; cases h2
      | some yv =>
        rw [hzz] at h2
        have e2 : HO.tup [yv.1, yv.2] = p.2 := Option.some.inj h2
        have hzz' : (ys.zip (kvs.map (·.2)))[i]? = some (yv.1, yv.2) := hzz
        rw [List.getElem?_zip_eq_some] at hzz'
        obtain ⟨z1, z2⟩ := hzz'
        have z1 : ys[i]? = some yv.1 := z1
        have z2 : (kvs.map (·.2))[i]? = some yv.2 := z2
        rw [List.getElem?_map] at z2
        cases hkv : kvs[i]? with
        | none => rw [hkv] at z2; cases z2
        | some kv =>
          rw [hkv] at z2
          have z2 : kv.2 = yv.2 := Option.some.inj z2
          obtain ⟨u, v', hts, _, rv⟩ := rx.at hkv
          obtain ⟨x, hx, ryx⟩ := Paired.get rys z1
          rw [hts] at hx
          cases hx
          obtain ⟨e, he1, he2⟩ := hG.pairs i p.1 h1
          have he1' : ent[i]? = some e := he1
          rw [ent_at he i, hts] at he1'
          have e3 : entX X.prog X.w (kv.1, u, v') = e := Option.some.inj he1'
          subst e3
          rw [← e2]
          exact ⟨by show 2 ≤ sizeLine; decide, [u, v'], .cons ryx (.cons (by rw [← z2]; exact rv) .nil), _, he2, rfl, _, rfl⟩

/-! ### for k, v in VIEW -/
def iView (te : TE) : TI := fun σ H R => te σ H fun x H1 => ∃ v a ep kvs, x = .ref v ∧ H1 v = some (viewO v a) ∧ H1 a = some (.dX ep kvs) ∧ R (Itd a ep kvs.length) H1
theorem pi_view {X : Cx} {es : List Expr} {k : Nat} {pos : Pos} {e : Expr} {te : TE} (he : PE X e te) : PI X (.Tuple es k pos) e (iView te) := by
  intro pins s σ H R I h
  refine thn (he pins s σ H _ I h) fun u s1 ⟨x, H1, I1, r1, q1⟩ => ?_
  obtain ⟨v, a, ep, kvs, rfl, hv, ha, q⟩ := q1
  cases r1
  obtain ⟨hz, hd, ts, rx, m⟩ := dx_of I1.hok ha
  obtain ⟨ent, rd, hent⟩ := m.raw
  obtain ⟨iv, _, _⟩ := (show ObjOk X.prog X.w H1 s1.heap v (viewO v a) from I1.hok v _ hv)
  have hsz : ent.size = kvs.length := by rw [ent_size hent, ← rx.length]
  refine iter_items_x iv rd ?_
  refine ⟨s1.heap.objs.size, [s1.heap.objs.size], _, _, H1, rfl, I1.kept (t' := s1.toks) fun b o e => Heap.get?_push_of_some _ e, turn_items a _ ep kvs.length, ⟨.none, .none, ?_⟩, fun b hb => ?_, q⟩
  · rw [← hsz]
    exact Heap.get?_push_size _ rfl
  · have e : b = s1.heap.objs.size := by simpa using hb
    subst e
    exact I1.fpOk (Nat.le_refl _) (I1.hok.fresh (Nat.le_refl _))
end L2

namespace L2
open PySem PySem.Spec PyProof.Rows
open Sem (wp)
section
variable {X : Cx}
/-! ### isinstance(x, T), T a built-in -/
def rIsi (K : PySem.W.Frag) : List V → Hp → VK → Prop := fun xs H Q => ∃ x t T b, xs = [x, .ty T] ∧ TyOf K H x t ∧ PySem.W.kitOne K t (.type T) = some b ∧ Q (.bl b) H
theorem call_isi : CallR X (.builtin "isinstance") (rIsi X.K) := by
  intro pins s σ H xs us Q I r h
  obtain ⟨x, t, T, b, rfl, ty, e, q⟩ := h
  obtain ⟨u, w', rfl, ru, rw'⟩ := vals2 r
  cases (show w' = Value.type T from rw')
  exact isinst_ok I ru ty e fun tk => ⟨.bl b, H, I.tok tk, rfl, q⟩
/-- one of T's subtypes, both built-in -/
theorem kit_ty {K : PySem.W.Frag} {t T : String} {b : Bool} (h : (decide (t = T) || (PySem.W.kitMeta T && ((fastBuiltinMro t).map (·.contains (Value.type T))).isSome)) = true)
    (hb : (if t = T then true else ((fastBuiltinMro t).map (·.contains (Value.type T))).getD false) = b) : PySem.W.kitOne K (.type t) (.type T) = some b := by
  unfold PySem.W.kitOne
  by_cases e : t = T
  · subst e
    rw [if_pos (by simp)]
    rw [if_pos rfl] at hb
    rw [← hb]
  · rw [if_neg (by simp [e])]
    rw [if_neg e] at hb
    rw [decide_eq_false e, Bool.false_or, Bool.and_eq_true] at h
    show (if PySem.W.kitMeta T = true then PySem.W.subIn K (.type t) (.type T) else none) = some b
    rw [if_pos h.1]
    show (fastBuiltinMro t).map (·.contains (Value.type T)) = some b
    cases hm : (fastBuiltinMro t).map (·.contains (Value.type T)) with
    | none => rw [hm] at h; cases h.2
    | some c => rw [hm] at hb; exact congrArg some hb

/-! ### text * number -/
theorem op_mul_str : OpR X (binaryOp .Mult) (fun x y H Q => ∃ z n, x = .str z ∧ y = .int n ∧ MulOk z n ∧ (Txt.mul z n).length ≤ sizeLine ∧ Q (.str (Txt.mul z n)) H) := by
  intro pins s σ H x y v u Q I rx ry h
  obtain ⟨z, n, rfl, rfl, ok, hl, q⟩ := h
  obtain ⟨t, rfl⟩ := rx
  obtain ⟨t', rfl⟩ := ry
  refine PySem.P.mul_str ok.1 ok.2.1 ok.2.2 ?_
  unfold Txt.mul at q hl
  by_cases h1 : n < 1
  · rw [if_pos h1] at q hl ⊢
    exact ⟨hl, .str _, H, I.tok _, ⟨_, rfl⟩, q⟩
  · rw [if_neg h1] at q hl ⊢
    by_cases h2 : (n == 1 || z.length == 0) = true
    · rw [if_pos h2] at q ⊢
      exact ⟨.str z, H, I, ⟨t, rfl⟩, q⟩
    · rw [if_neg h2] at q hl ⊢
      exact ⟨hl, .str _, H, I.tok _, ⟨_, rfl⟩, q⟩

/-! ### sum, all, any of a list -/
theorem Inv.in1 {pins : List (Addr × Obj)} {σ : St} {H : Hp} {s : Shared} (I : Inv X pins σ H s) : Inv { X with A := X.A.in1 } pins σ H s :=
  ⟨⟨I.ok.mod, I.ok.kind, I.ok.glob, I.ok.blt, I.ok.above, I.ok.inj, I.ok.has, I.ok.cab, I.ok.hd, I.ok.frames, I.ok.stk, I.ok.exf, I.ok.bs, I.ok.bsz, I.ok.noex, I.ok.exfs, I.ok.funs, I.ok.frf⟩, I.os, I.bare, I.base, I.loc, I.cell, I.free, I.freeC, I.pin, I.hok, I.len⟩
theorem preSum_eq (f : Nat → Int) : ∀ n, preSum f n = ((List.range n).map f).sum
  | 0 => rfl
  | n + 1 => by
    show preSum f n + f n = _
    rw [preSum_eq f n, List.range_succ, List.map_append, List.sum_append]
    simp
def rSum (K : PySem.W.Frag) : List V → Hp → VK → Prop := fun xs H Q => ∃ a ns, xs = [.ref a] ∧ SqL K H a (List.map V.int ns) ∧ Q (.int (List.sum ns)) H
theorem call_sum (hc : X.calm = true) : CallR X (.builtin "sum") (rSum X.K) := by
  intro pins s σ H xs us Q I r h
  obtain ⟨a, ns, rfl, hq, q⟩ := h
  obtain ⟨u, rfl, ru⟩ := vals1 r
  cases ru
  obtain ⟨its, rv, p, hz⟩ := I.list hq
  have hl := rv.length
  rw [List.length_map] at hl
  refine call_sum_walkG (wpAny_pyIter_list p.isList ?_)
  have hax : a < s.heap.objs.size := let ⟨_, e, _⟩ := p.isList; Heap.lt_size e
  refine ⟨_, _, _, _, _, _, fun i => ns.getD i 0, rfl, Walks.list (A := X.A.in1) (I.ok.hd hc) _ a (Nat.ne_of_lt hax) its.toArray, ⟨⟨_, Heap.get?_push_size _ rfl, rfl, rfl⟩, ?_⟩, fun b hb => ?_, fun i v e => ?_, fun h' tk t' hk => ?_⟩
  · obtain ⟨o, e, c⟩ := p.isList
    exact ⟨o, Heap.get?_push_of_some _ e, c⟩
  · show b < (s.heap.push _).objs.size
    rw [Heap.size_push]
    have : b = s.heap.objs.size ∨ b = a := by simpa using hb
    rcases this with rfl | rfl
    · exact Nat.lt_succ_self _
    · exact Nat.lt_succ_of_lt hax
  · have hlt : i < its.length := by
      have := (Array.getElem?_eq_some_iff.mp e).1
      simpa using this
    have hi : (ns.map V.int)[i]? = some (V.int (ns.getD i 0)) := by
      rw [List.getElem?_map, List.getD_eq_getElem?_getD, List.getElem?_eq_getElem (by omega)]
      rfl
    obtain ⟨u, hu, ru⟩ := rv.get hi
    have hu' : its.toArray[i]? = some u := by simpa using hu
    rw [e] at hu'
    cases hu'
    exact ru
  · have e : preSum (fun i => ns.getD i 0) its.toArray.size = ns.sum := by
      rw [preSum_eq]
      have : its.toArray.size = ns.length := by simp [hl]
      rw [this]
      congr 1
      refine List.ext_getElem (by simp) fun i h1 h2 => ?_
      simp at h1
      simp [List.getD_eq_getElem?_getD, h1]
    rw [e]
    refine ⟨.int ns.sum, H, I.un (h' := h') (t' := tk) (Un.kept fun b o e => ?_) (I.hok.kept fun b o e => ?_), ⟨t', rfl⟩, q⟩
    all_goals
      refine hk b o (fun hb => ?_) (Heap.get?_push_of_some _ e)
      have : b = s.heap.objs.size := by simpa using hb
      exact absurd (Heap.lt_size e) (by rw [this]; exact Nat.lt_irrefl _)
def rAllB (K : PySem.W.Frag) (any : Bool) : List V → Hp → VK → Prop := fun xs H Q => ∃ a bs, xs = [.ref a] ∧ SqL K H a (List.map V.bl bs) ∧ Q (.bl (if any then bs.any id else bs.all id)) H
theorem bools_at {bs : List Bool} {its : List Value} (rv : Vals (bs.map V.bl) its) {i : Nat} {v : Value} (e : its.toArray[i]? = some v) : v = .bool (bs.getD i false) := by
  have hl := rv.length
  rw [List.length_map] at hl
  have hlt : i < its.length := by
    have := (Array.getElem?_eq_some_iff.mp e).1
    simpa using this
  have hi : (bs.map V.bl)[i]? = some (V.bl (bs.getD i false)) := by
    rw [List.getElem?_map, List.getD_eq_getElem?_getD, List.getElem?_eq_getElem (by omega)]
    rfl
  obtain ⟨u, hu, ru⟩ := rv.get hi
  have hu' : its.toArray[i]? = some u := by simpa using hu
  rw [e] at hu'
  cases hu'
  exact ru
theorem range_bools (bs : List Bool) (f : List Bool → Bool) : (List.range bs.length).map (fun i => bs.getD i false) = bs := by
  refine List.ext_getElem (by simp) fun i h1 h2 => ?_
  simp at h1
  simp [List.getD_eq_getElem?_getD, h1]
theorem call_all (hc : X.calm = true) : CallR X (.builtin "all") (rAllB X.K false) := by
  intro pins s σ H xs us Q I r h
  obtain ⟨a, bs, rfl, hq, q⟩ := h
  obtain ⟨u, rfl, ru⟩ := vals1 r
  cases ru
  obtain ⟨its, rv, p, hz⟩ := I.list hq
  have hl := rv.length
  rw [List.length_map] at hl
  refine call_all_walk (wpAny_pyIter_list p.isList ?_)
  have hax : a < s.heap.objs.size := let ⟨_, e, _⟩ := p.isList; Heap.lt_size e
  refine ⟨_, _, _, _, _, _, fun i => bs.getD i false, rfl, Walks.list (A := X.A.in1) (I.ok.hd hc) _ a (Nat.ne_of_lt hax) its.toArray, ⟨⟨_, Heap.get?_push_size _ rfl, rfl, rfl⟩, ?_⟩, fun i v s' Q' E' e hQ' => ?_, fun h' tk hk => ?_⟩
  · obtain ⟨o, e, c⟩ := p.isList
    exact ⟨o, Heap.get?_push_of_some _ e, c⟩
  · rw [bools_at rv e]
    exact wpAny_truthy_bool hQ'
  · have e : (List.range its.toArray.size).all (fun i => bs.getD i false) = bs.all id := by
      have : its.toArray.size = bs.length := by simp [hl]
      rw [this]
      have e2 : (List.range bs.length).all (fun i => bs.getD i false) = ((List.range bs.length).map (fun i => bs.getD i false)).all id := by rw [List.all_map]; rfl
      rw [e2, range_bools bs (fun _ => false)]
    rw [e]
    refine ⟨.bl (bs.all id), H, I.un (h' := h') (t' := tk) (Un.kept fun b o e => ?_) (I.hok.kept fun b o e => ?_), rfl, q⟩
    all_goals
      refine hk b o (fun hb => ?_) (Heap.get?_push_of_some _ e)
      have : b = s.heap.objs.size := by simpa using hb
      exact absurd (Heap.lt_size e) (by rw [this]; exact Nat.lt_irrefl _)
theorem call_any (hc : X.calm = true) : CallR X (.builtin "any") (rAllB X.K true) := by
  intro pins s σ H xs us Q I r h
  obtain ⟨a, bs, rfl, hq, q⟩ := h
  obtain ⟨u, rfl, ru⟩ := vals1 r
  cases ru
  obtain ⟨its, rv, p, hz⟩ := I.list hq
  have hl := rv.length
  rw [List.length_map] at hl
  refine call_any_walk (wpAny_pyIter_list p.isList ?_)
  have hax : a < s.heap.objs.size := let ⟨_, e, _⟩ := p.isList; Heap.lt_size e
  refine ⟨_, _, _, _, _, _, fun i => bs.getD i false, rfl, Walks.list (A := X.A.in1) (I.ok.hd hc) _ a (Nat.ne_of_lt hax) its.toArray, ⟨⟨_, Heap.get?_push_size _ rfl, rfl, rfl⟩, ?_⟩, fun i v s' Q' E' e hQ' => ?_, fun h' tk hk => ?_⟩
  · obtain ⟨o, e, c⟩ := p.isList
    exact ⟨o, Heap.get?_push_of_some _ e, c⟩
  · rw [bools_at rv e]
    exact wpAny_truthy_bool hQ'
  · have e : (List.range its.toArray.size).any (fun i => bs.getD i false) = bs.any id := by
      have : its.toArray.size = bs.length := by simp [hl]
      rw [this]
      have e2 : (List.range bs.length).any (fun i => bs.getD i false) = ((List.range bs.length).map (fun i => bs.getD i false)).any id := by rw [List.any_map]; rfl
      rw [e2, range_bools bs (fun _ => false)]
    rw [e]
    refine ⟨.bl (bs.any id), H, I.un (h' := h') (t' := tk) (Un.kept fun b o e => ?_) (I.hok.kept fun b o e => ?_), rfl, q⟩
    all_goals
      refine hk b o (fun hb => ?_) (Heap.get?_push_of_some _ e)
      have : b = s.heap.objs.size := by simpa using hb
      exact absurd (Heap.lt_size e) (by rw [this]; exact Nat.lt_irrefl _)

/-! ### range(a, b, c), c above 0 -/
def Its (lo c : Int) (n : Nat) : It := ⟨fun i _ => i < n, fun i H x H' => H' = H ∧ x = .int (lo + i * c), fun i _ => n ≤ i⟩
theorem turn_rangeS {P : Program} {w : World} {K : PySem.W.Frag} {tg : Expr} (it : Addr) (lo c : Int) (n : Nat) : Turn P w K tg (Its lo c n) [it] it (fun i h => IsRangeIter h it (lo + (i : Nat) * c) ((n : Int) - (i : Nat)) c) where
  mem := by simp
  obj := fun i h st b hb => by
    have e : b = it := by simpa using hb
    subst e
    exact ⟨_, st, fun v z => by
      have z' : Data.fields _ = Data.cell v := z
      cases z'⟩
  keep := fun i h h' st k => k it (by simp) _ st
  item := by
    intro X hP hw hK hc i pins s σ H E I hf st hg
    subst hP hw hK
    obtain ⟨f0, f1, f2, f3, f4, f5⟩ := hf it (by simp)
    have W := Walks.range (prog := X.prog) (w := X.w) (I.ok.hd hc) it lo c n
    refine W.item i s _ _ hg st fun v h' tk hv st' kk => ?_
    obtain ⟨t, rfl⟩ := hv
    have I1 : Inv X pins σ H { s with heap := h', toks := tk } := I.turned (fun b o hb e => kk b o (by simpa using hb) e) f0 f1 f3 f4 f5
    exact ⟨_, rfl, go_of (s := { s with heap := h', toks := tk }) (n := "range_iterator") st' rfl rfl (by decide) ⟨.int (lo + i * c), H, I1, ⟨t, rfl⟩, ⟨rfl, rfl⟩, st', fun b hb => (hf b hb).1⟩⟩
  done := by
    intro X hP hw hK hc i pins s σ H E I hf st hg
    subst hP hw hK
    obtain ⟨f0, f1, f2, f3, f4, f5⟩ := hf it (by simp)
    exact wpAny_pyNext_range_end (I.ok.hd hc) st (by have : n ≤ i := hg; omega) fun h' eb => ⟨rfl, I.turned (t' := s.toks) (fun b o hb e => eb b o hb e) f0 f1 f3 f4 f5⟩
  self := fun _ _ _ _ _ st h => wpAny_pyIter_rangeiter st h
def iRng3 (ta : TA) : TI := fun σ H R => ta σ H fun vs H1 => ∃ i j c : Int, vs = [.int i, .int j, .int c] ∧ (-(2 ^ 30) ≤ i ∧ i < 2 ^ 30 ∧ -(2 ^ 30) ≤ j ∧ j < 2 ^ 30 ∧ 0 < c ∧ c < 2 ^ 20) ∧ R (Its i c (if i < j then (j - i - 1) / c + 1 else 0).toNat) H1
theorem small_pos {a b c : Int} (h : -(2 ^ 30) ≤ a ∧ a < 2 ^ 30 ∧ -(2 ^ 30) ≤ b ∧ b < 2 ^ 30 ∧ 0 < c ∧ c < 2 ^ 20) : Builtin.Range.small a b c = true := by
  obtain ⟨h1, h2, h3, h4, h5, h6⟩ := h
  unfold Builtin.Range.small Builtin.Range.rangeSize
  simp only [Builtin.Range.rangeFitsLong, Bool.and_eq_true, Bool.or_eq_true, decide_eq_true_eq, beq_iff_eq, gt_iff_lt, h5, if_true]
  by_cases hab : a < b
  · rw [if_pos hab]
    have q1 : 0 ≤ (b - a - 1) / c := Int.ediv_nonneg (by omega) (by omega)
    have q2 : (b - a - 1) / c ≤ b - a - 1 := Int.ediv_le_self _ (by omega)
    have q3 : c * ((b - a - 1) / c) ≤ b - a - 1 := Int.mul_ediv_self_le (by omega)
    have q4 : 0 ≤ c * ((b - a - 1) / c) := Int.mul_nonneg (by omega) q1
    have q5 : ((b - a - 1) / c) * c = c * ((b - a - 1) / c) := Int.mul_comm _ _
    have q6 : ((b - a - 1) / c + 1) * c = c * ((b - a - 1) / c) + c := by rw [Int.add_mul, q5, Int.one_mul]
    have q7 : c * ((b - a - 1) / c + 1) = c * ((b - a - 1) / c) + c := by rw [Int.mul_add, Int.mul_one]
    try simp only [q5, q6, q7]
    omega
  · rw [if_neg hab]
    try simp only [Int.zero_mul, Int.mul_zero]
    omega
theorem pi_range3 {tg a b c : Expr} {ta : TA} {p pos : Pos} (hg : Gl X "range") (hm : X.mg "range" = none) (ha : PA X [a, b, c] ta) (hs : starEach [a, b, c] X.env = (false, eval a X.env) :: starEach [b, c] X.env := by rfl) (hpl : (backTo pos (starEach [b, c] X.env)).any (·.1) = false := by rfl) :
    PI X tg (.Call (.Name "range" p) [a, b, c] [] pos) (iRng3 ta) := by
  intro pins s σ H R I h
  refine Call_ (ld_blt I hg hm boot_range (PyProof.Rows.callWith_type1 (thn (ha pos pins s σ H _ I h) fun us s1 ⟨vs, H1, I1, r1, q1⟩ => ?_) hs hpl))
  obtain ⟨i, j, c, e, q1, q⟩ := q1
  subst e
  cases r1 with
  | cons r rr =>
    cases rr with
    | cons r' rr =>
      cases rr with
      | cons r'' rr =>
        cases rr
        obtain ⟨t, rfl⟩ := r
        obtain ⟨t', rfl⟩ := r'
        obtain ⟨t'', rfl⟩ := r''
        obtain ⟨b1, b2, b3, b4, b5, b6⟩ := id q1
        refine call_range_3 (by omega) ?_ (.inl (PyProof.noPylong_small (by omega)))
        refine wpAny_pyIter_range (IsRange.new ..) (small_pos q1) ?_
        have I2 : Inv X pins σ H1 { s1 with heap := s1.heap.push { cls := .type "range", data := .fields #[.int i t, .int j t', .int c t''] }, toks := s1.toks } := I1.kept fun b o e => Heap.get?_push_of_some _ e
        refine ⟨(s1.heap.push { cls := .type "range", data := .fields #[.int i t, .int j t', .int c t''] }).objs.size, [(s1.heap.push { cls := .type "range", data := .fields #[.int i t, .int j t', .int c t''] }).objs.size], _, _, H1, rfl,
          I2.kept (t' := s1.toks) fun b o e => Heap.get?_push_of_some _ e, turn_rangeS _ i c (if i < j then (j - i - 1) / c + 1 else 0).toNat, ?_, fun b hb => ?_, q⟩
        · have e1 : i + ((0 : Nat) : Int) * c = i := by simp
          have e2 : (((if i < j then (j - i - 1) / c + 1 else 0).toNat : Nat) : Int) - ((0 : Nat) : Int) = Builtin.Range.rangeSize i j c := by
            unfold Builtin.Range.rangeSize
            rw [if_pos b5]
            by_cases hab : i < j
            · rw [if_pos hab]
              have := Int.ediv_nonneg (show 0 ≤ j - i - 1 by omega) (show 0 ≤ c by omega)
              omega
            · rw [if_neg hab]
              rfl
          show IsRangeIter _ _ (i + ((0 : Nat) : Int) * c) ((((if i < j then (j - i - 1) / c + 1 else 0).toNat : Nat) : Int) - ((0 : Nat) : Int)) c
          rw [e1, e2]
          exact Heap.get?_push_size _ rfl
        · have e : b = (s1.heap.push { cls := .type "range", data := .fields #[.int i t, .int j t', .int c t''] }).objs.size := by simpa using hb
          subst e
          exact I2.fpOk (Nat.le_refl _) (I2.hok.fresh (Nat.le_refl _))
end
end L2

namespace L2
open PySem PySem.Spec PyProof.Rows
open Sem (wp)
/-! ### data in the tracked heap: atoms, tuples and lists of such -/
mutual
def Rep (H : Hp) : PyData → V → Prop
  | .none, v => v = .non
  | .bool b, v => v = .bl b
  | .int i, v => v = .int i
  | .str x, v => v = .str x
  | .list xs, v => ∃ a vs, v = .ref a ∧ H a = some (.lst vs) ∧ Reps H xs vs
  | .tuple xs, v => ∃ a vs, v = .ref a ∧ H a = some (.tup vs) ∧ Reps H xs vs
  | .dict kvs, v => kvs = [] ∧ ∃ a ep, v = .ref a ∧ H a = some (.dX ep [])
def Reps (H : Hp) : List PyData → List V → Prop
  | [], vs => vs = []
  | d :: ds, vs => ∃ v r, vs = v :: r ∧ Rep H d v ∧ Reps H ds r
end
mutual
theorem Rep.mono {H H' : Hp} : ∀ {d : PyData} {v : V}, Rep H d v → Same H H' → Rep H' d v
  | .none, _, h, _ => h
  | .bool _, _, h, _ => h
  | .int _, _, h, _ => h
  | .str _, _, h, _ => h
  | .list _, _, ⟨a, vs, e, ha, r⟩, s => ⟨a, vs, e, s _ _ ha, Reps.mono r s⟩
  | .tuple _, _, ⟨a, vs, e, ha, r⟩, s => ⟨a, vs, e, s _ _ ha, Reps.mono r s⟩
  | .dict _, _, ⟨e, a, ep, e2, ha⟩, s => ⟨e, a, ep, e2, s _ _ ha⟩
theorem Reps.mono {H H' : Hp} : ∀ {ds : List PyData} {vs : List V}, Reps H ds vs → Same H H' → Reps H' ds vs
  | [], _, h, _ => h
  | _ :: _, _, ⟨v, r, e, h1, h2⟩, s => ⟨v, r, e, Rep.mono h1 s, Reps.mono h2 s⟩
end
theorem Reps.paired {H : Hp} : ∀ {ds : List PyData} {vs : List V}, Reps H ds vs → Paired (Rep H) ds vs
  | [], _, h => by cases (show _ = [] from h); exact .nil
  | _ :: _, _, ⟨v, r, e, h1, h2⟩ => by subst e; exact .cons h1 (Reps.paired h2)
theorem Reps.of {H : Hp} : ∀ {ds : List PyData} {vs : List V}, Paired (Rep H) ds vs → Reps H ds vs
  | _, _, .nil => rfl
  | _, _, .cons h t => ⟨_, _, rfl, h, Reps.of t⟩
mutual
theorem Rep.reads {P : Program} {w : World} {H : Hp} {h : Heap} (ok : HOk P w H h) : ∀ {d : PyData} {v : V} {u : Value}, Rep H d v → RelV v u → ∃ as, Reads h u d as
  | .none, _, _, r, q => by cases (show _ = V.non from r); cases q; exact ⟨_, .none⟩
  | .bool b, _, _, r, q => by cases (show _ = V.bl b from r); cases q; exact ⟨_, .bool b⟩
  | .int i, _, _, r, q => by cases (show _ = V.int i from r); obtain ⟨t, rfl⟩ := q; exact ⟨_, .int i t⟩
  | .str x, _, _, r, q => by cases (show _ = V.str x from r); obtain ⟨t, rfl⟩ := q; exact ⟨_, .str x t⟩
  | .list xs, _, _, ⟨a, vs, e, ha, r⟩, q => by
    subst e; cases q
    obtain ⟨_, its, n, rv, h1⟩ := (show ObjOk P w H h a (.lst vs) from ok a _ ha)
    obtain ⟨as, ra⟩ := Reps.reads ok r rv
    exact ⟨_, .list h1 rfl rfl (by simpa using ra)⟩
  | .tuple xs, _, _, ⟨a, vs, e, ha, r⟩, q => by
    subst e; cases q
    obtain ⟨_, its, rv, o, h1, h2, n, h3⟩ := (show ObjOk P w H h a (.tup vs) from ok a _ ha)
    obtain ⟨as, ra⟩ := Reps.reads ok r rv
    exact ⟨_, .tuple h1 h2 h3 (by simpa using ra)⟩
  | .dict kvs, _, _, ⟨e0, a, ep, e, ha⟩, q => by
    subst e0; subst e; cases q
    obtain ⟨_, _, xs, rx, o, es, h1, h2, h3, h4, _⟩ := (show ObjOk P w H h a (.dX ep []) from ok a _ ha)
    have hx : xs = [] := by cases rx; rfl
    subst hx
    have he : es = #[] := by simpa using h4
    subst he
    exact ⟨_, .dict h1 h2.1 h3 (by simpa using ReadsAll.nil) (by simpa using ReadsAll.nil)⟩
theorem Reps.reads {P : Program} {w : World} {H : Hp} {h : Heap} (ok : HOk P w H h) : ∀ {ds : List PyData} {vs : List V} {us : List Value}, Reps H ds vs → Vals vs us → ∃ as, ReadsAll h us ds as
  | [], _, _, r, q => by cases (show _ = [] from r); cases q; exact ⟨_, .nil⟩
  | d :: ds, _, _, ⟨v, r, e, h1, h2⟩, q => by
    subst e
    cases q with
    | cons q1 q2 =>
      obtain ⟨as, ra⟩ := Rep.reads ok h1 q1
      obtain ⟨bs, rb⟩ := Reps.reads ok h2 q2
      exact ⟨_, .cons ra rb⟩
end
abbrev Shp (d : PyData) : Prop := SeqAt.shaped d = true
section
variable {X : Cx}
/-- ==, != of such data; in a list, a tuple -/
def rEqD (neg : Bool) : R2 := fun x y H Q => ∃ d e, Rep H d x ∧ Rep H e y ∧ Shp d ∧ Shp e ∧ Q (.bl (xor neg (PyData.eqv d e))) H
theorem op_eqD (hu : X.A.units + 64 < cLine) : OpR X (compareOp .Eq) (rEqD false) := by
  intro pins s σ H x y v u Q I rx ry h
  obtain ⟨d, e, hd, he, sd, se, q⟩ := h
  obtain ⟨as, ra⟩ := hd.reads I.hok rx
  obtain ⟨bs, rb⟩ := he.reads I.hok ry
  exact SeqAt.compareEq_shaped ra rb sd se hu ⟨.bl (PyData.eqv d e), H, I, rfl, by simpa using q⟩
theorem op_neD (hu : X.A.units + 64 < cLine) : OpR X (compareOp .NotEq) (rEqD true) := by
  intro pins s σ H x y v u Q I rx ry h
  obtain ⟨d, e, hd, he, sd, se, q⟩ := h
  obtain ⟨as, ra⟩ := hd.reads I.hok rx
  obtain ⟨bs, rb⟩ := he.reads I.hok ry
  exact SeqAt.compareNe_shaped ra rb sd se hu ⟨.bl (!PyData.eqv d e), H, I, rfl, by simpa using q⟩
def rInD (neg : Bool) : R2 := fun x y H Q => ∃ d es, Rep H d x ∧ (Rep H (.list es) y ∨ Rep H (.tuple es) y) ∧ Shp d ∧ Shp (.list es) ∧ Q (.bl (xor neg (es.any fun e => PyData.eqv e d))) H
end
end L2

namespace L2
open PySem PySem.Spec PyProof.Rows
open Sem (wp)

/-! ### arguments without a star, cheaply -/
def isStar : Expr → Bool
  | .Starred _ _ => true
  | _ => false
theorem star_cons {e : Expr} {es : List Expr} {env : Env} (h : isStar e = false) : starEach (e :: es) env = (false, eval e env) :: starEach es env := by
  cases e <;> first | rfl | cases h
theorem star_plain {env : Env} {pos : Pos} : ∀ {es : List Expr}, es.all (fun x => !isStar x) = true → (backTo pos (starEach es env)).any (·.1) = false
  | [], _ => rfl
  | e :: es, h => by
    rw [List.all_cons, Bool.and_eq_true] at h
    have h1 : isStar e = false := by simpa using h.1
    have ih := star_plain (env := env) (pos := pos) (es := es) h.2
    rw [star_cons h1]
    unfold backTo at ih ⊢
    simpa using ih
section
variable {X : Cx} {e : Expr} {es : List Expr} {te to : TE} {t : TA} {x : Str} {p pos apos cpos : Pos} {id T : String} {r : List V → Hp → VK → Prop} {o : Expr} {name : Str} {r' : V → List V → Hp → VK → Prop}
theorem pa_c (ha : PE X e te) (hr : PA X es t) (h : isStar e = false := by rfl) : PA X (e :: es) (tCons te t) := pa_cons ha hr (star_cons h)
theorem pe_cB (hc : CallR X (.builtin id) r) (hg : Gl X x) (hm : X.mg x = none) (hv : bootBuiltins x = some (.builtin id)) (ha : PA X (e :: es) t) (hn : x ≠ "__name__" := by decide) (hdb : (x == ("__debug__" : Str)) = false := by decide)
    (h1 : isStar e = false := by rfl) (h2 : es.all (fun x => !isStar x) = true := by rfl) : PE X (.Call (.Name x p) (e :: es) [] pos) (tCB r t) := pe_callB hc hg hm hv ha hn hdb (star_cons h1) (star_plain h2)
theorem pe_cT (hc : CallR X (.type T) r) (hg : Gl X x) (hm : X.mg x = none) (hv : bootBuiltins x = some (.type T)) (ha : PA X (e :: es) t) (hn : x ≠ "__name__" := by decide) (hdb : (x == ("__debug__" : Str)) = false := by decide)
    (h1 : isStar e = false := by rfl) (h2 : es.all (fun x => !isStar x) = true := by rfl) : PE X (.Call (.Name x p) (e :: es) [] pos) (tCB r t) := pe_callTy hc hg hm hv ha hn hdb (star_cons h1) (star_plain h2)
theorem pe_m (pa : PlainAttrs T) (slot : Slot T name id) (hty : typeOf (.builtin id) = pure (.type "method_descriptor")) (hm : MtR X id r') (ho : PE X o to) (ha : PA X (e :: es) t)
    (hbase : attributeBase o name X.env (eval o X.env) = eval o X.env := by rfl)
    (hfew : ((backTo cpos (starEach (e :: es) X.env)).all (fun x => !x.1) && (backToKw cpos (keywordEach [] X.env)).all (fun x => x.1.isSome)
      && decide ((e :: es).length + ([] : List Keyword).length + (if ([] : List Keyword).isEmpty then 0 else 1) < 30)) = true := by rfl)
    (hline : (apos.endLine == cpos.line) = true := by rfl) (h1 : isStar e = false := by rfl) (h2 : es.all (fun x => !isStar x) = true := by rfl) :
    PE X (.Call (.Attribute o name apos) (e :: es) [] cpos) (tBM X.K T r' to t) := pe_bm pa slot hty hm ho ha hbase hfew hline (star_cons h1) (star_plain h2)
end

/-! ### lists of arguments, of statements, at once -/
section
variable {X : Cx}
theorem pa_l1 {e1 : Expr} {t1 : TE} (h1 : PE X e1 t1) (s : (isStar e1) = false := by rfl) : PA X [e1] (tCons t1 tNil) := by
  try simp only [Bool.or_eq_false_iff] at s
  exact (pa_c h1 pa_nil (by simp_all))
theorem pa_l2 {e1 e2 : Expr} {t1 t2 : TE} (h1 : PE X e1 t1) (h2 : PE X e2 t2) (s : (isStar e1 || isStar e2) = false := by rfl) : PA X [e1, e2] (tCons t1 (tCons t2 tNil)) := by
  try simp only [Bool.or_eq_false_iff] at s
  exact (pa_c h1 (pa_c h2 pa_nil (by simp_all)) (by simp_all))
theorem pa_l3 {e1 e2 e3 : Expr} {t1 t2 t3 : TE} (h1 : PE X e1 t1) (h2 : PE X e2 t2) (h3 : PE X e3 t3) (s : (isStar e1 || isStar e2 || isStar e3) = false := by rfl) : PA X [e1, e2, e3] (tCons t1 (tCons t2 (tCons t3 tNil))) := by
  try simp only [Bool.or_eq_false_iff] at s
  exact (pa_c h1 (pa_c h2 (pa_c h3 pa_nil (by simp_all)) (by simp_all)) (by simp_all))
theorem pa_l4 {e1 e2 e3 e4 : Expr} {t1 t2 t3 t4 : TE} (h1 : PE X e1 t1) (h2 : PE X e2 t2) (h3 : PE X e3 t3) (h4 : PE X e4 t4) (s : (isStar e1 || isStar e2 || isStar e3 || isStar e4) = false := by rfl) : PA X [e1, e2, e3, e4] (tCons t1 (tCons t2 (tCons t3 (tCons t4 tNil)))) := by
  try simp only [Bool.or_eq_false_iff] at s
  exact (pa_c h1 (pa_c h2 (pa_c h3 (pa_c h4 pa_nil (by simp_all)) (by simp_all)) (by simp_all)) (by simp_all))
theorem pa_l5 {e1 e2 e3 e4 e5 : Expr} {t1 t2 t3 t4 t5 : TE} (h1 : PE X e1 t1) (h2 : PE X e2 t2) (h3 : PE X e3 t3) (h4 : PE X e4 t4) (h5 : PE X e5 t5) (s : (isStar e1 || isStar e2 || isStar e3 || isStar e4 || isStar e5) = false := by rfl) : PA X [e1, e2, e3, e4, e5] (tCons t1 (tCons t2 (tCons t3 (tCons t4 (tCons t5 tNil))))) := by
  try simp only [Bool.or_eq_false_iff] at s
  exact (pa_c h1 (pa_c h2 (pa_c h3 (pa_c h4 (pa_c h5 pa_nil (by simp_all)) (by simp_all)) (by simp_all)) (by simp_all)) (by simp_all))
theorem pa_l6 {e1 e2 e3 e4 e5 e6 : Expr} {t1 t2 t3 t4 t5 t6 : TE} (h1 : PE X e1 t1) (h2 : PE X e2 t2) (h3 : PE X e3 t3) (h4 : PE X e4 t4) (h5 : PE X e5 t5) (h6 : PE X e6 t6) (s : (isStar e1 || isStar e2 || isStar e3 || isStar e4 || isStar e5 || isStar e6) = false := by rfl) : PA X [e1, e2, e3, e4, e5, e6] (tCons t1 (tCons t2 (tCons t3 (tCons t4 (tCons t5 (tCons t6 tNil)))))) := by
  try simp only [Bool.or_eq_false_iff] at s
  exact (pa_c h1 (pa_c h2 (pa_c h3 (pa_c h4 (pa_c h5 (pa_c h6 pa_nil (by simp_all)) (by simp_all)) (by simp_all)) (by simp_all)) (by simp_all)) (by simp_all))
theorem pa_l7 {e1 e2 e3 e4 e5 e6 e7 : Expr} {t1 t2 t3 t4 t5 t6 t7 : TE} (h1 : PE X e1 t1) (h2 : PE X e2 t2) (h3 : PE X e3 t3) (h4 : PE X e4 t4) (h5 : PE X e5 t5) (h6 : PE X e6 t6) (h7 : PE X e7 t7) (s : (isStar e1 || isStar e2 || isStar e3 || isStar e4 || isStar e5 || isStar e6 || isStar e7) = false := by rfl) : PA X [e1, e2, e3, e4, e5, e6, e7] (tCons t1 (tCons t2 (tCons t3 (tCons t4 (tCons t5 (tCons t6 (tCons t7 tNil))))))) := by
  try simp only [Bool.or_eq_false_iff] at s
  exact (pa_c h1 (pa_c h2 (pa_c h3 (pa_c h4 (pa_c h5 (pa_c h6 (pa_c h7 pa_nil (by simp_all)) (by simp_all)) (by simp_all)) (by simp_all)) (by simp_all)) (by simp_all)) (by simp_all))
theorem pa_l8 {e1 e2 e3 e4 e5 e6 e7 e8 : Expr} {t1 t2 t3 t4 t5 t6 t7 t8 : TE} (h1 : PE X e1 t1) (h2 : PE X e2 t2) (h3 : PE X e3 t3) (h4 : PE X e4 t4) (h5 : PE X e5 t5) (h6 : PE X e6 t6) (h7 : PE X e7 t7) (h8 : PE X e8 t8) (s : (isStar e1 || isStar e2 || isStar e3 || isStar e4 || isStar e5 || isStar e6 || isStar e7 || isStar e8) = false := by rfl) : PA X [e1, e2, e3, e4, e5, e6, e7, e8] (tCons t1 (tCons t2 (tCons t3 (tCons t4 (tCons t5 (tCons t6 (tCons t7 (tCons t8 tNil)))))))) := by
  try simp only [Bool.or_eq_false_iff] at s
  exact (pa_c h1 (pa_c h2 (pa_c h3 (pa_c h4 (pa_c h5 (pa_c h6 (pa_c h7 (pa_c h8 pa_nil (by simp_all)) (by simp_all)) (by simp_all)) (by simp_all)) (by simp_all)) (by simp_all)) (by simp_all)) (by simp_all))
theorem pa_l9 {e1 e2 e3 e4 e5 e6 e7 e8 e9 : Expr} {t1 t2 t3 t4 t5 t6 t7 t8 t9 : TE} (h1 : PE X e1 t1) (h2 : PE X e2 t2) (h3 : PE X e3 t3) (h4 : PE X e4 t4) (h5 : PE X e5 t5) (h6 : PE X e6 t6) (h7 : PE X e7 t7) (h8 : PE X e8 t8) (h9 : PE X e9 t9) (s : (isStar e1 || isStar e2 || isStar e3 || isStar e4 || isStar e5 || isStar e6 || isStar e7 || isStar e8 || isStar e9) = false := by rfl) : PA X [e1, e2, e3, e4, e5, e6, e7, e8, e9] (tCons t1 (tCons t2 (tCons t3 (tCons t4 (tCons t5 (tCons t6 (tCons t7 (tCons t8 (tCons t9 tNil))))))))) := by
  try simp only [Bool.or_eq_false_iff] at s
  exact (pa_c h1 (pa_c h2 (pa_c h3 (pa_c h4 (pa_c h5 (pa_c h6 (pa_c h7 (pa_c h8 (pa_c h9 pa_nil (by simp_all)) (by simp_all)) (by simp_all)) (by simp_all)) (by simp_all)) (by simp_all)) (by simp_all)) (by simp_all)) (by simp_all))
theorem pa_l10 {e1 e2 e3 e4 e5 e6 e7 e8 e9 e10 : Expr} {t1 t2 t3 t4 t5 t6 t7 t8 t9 t10 : TE} (h1 : PE X e1 t1) (h2 : PE X e2 t2) (h3 : PE X e3 t3) (h4 : PE X e4 t4) (h5 : PE X e5 t5) (h6 : PE X e6 t6) (h7 : PE X e7 t7) (h8 : PE X e8 t8) (h9 : PE X e9 t9) (h10 : PE X e10 t10) (s : (isStar e1 || isStar e2 || isStar e3 || isStar e4 || isStar e5 || isStar e6 || isStar e7 || isStar e8 || isStar e9 || isStar e10) = false := by rfl) : PA X [e1, e2, e3, e4, e5, e6, e7, e8, e9, e10] (tCons t1 (tCons t2 (tCons t3 (tCons t4 (tCons t5 (tCons t6 (tCons t7 (tCons t8 (tCons t9 (tCons t10 tNil)))))))))) := by
  try simp only [Bool.or_eq_false_iff] at s
  exact (pa_c h1 (pa_c h2 (pa_c h3 (pa_c h4 (pa_c h5 (pa_c h6 (pa_c h7 (pa_c h8 (pa_c h9 (pa_c h10 pa_nil (by simp_all)) (by simp_all)) (by simp_all)) (by simp_all)) (by simp_all)) (by simp_all)) (by simp_all)) (by simp_all)) (by simp_all)) (by simp_all))
theorem pa_l11 {e1 e2 e3 e4 e5 e6 e7 e8 e9 e10 e11 : Expr} {t1 t2 t3 t4 t5 t6 t7 t8 t9 t10 t11 : TE} (h1 : PE X e1 t1) (h2 : PE X e2 t2) (h3 : PE X e3 t3) (h4 : PE X e4 t4) (h5 : PE X e5 t5) (h6 : PE X e6 t6) (h7 : PE X e7 t7) (h8 : PE X e8 t8) (h9 : PE X e9 t9) (h10 : PE X e10 t10) (h11 : PE X e11 t11) (s : (isStar e1 || isStar e2 || isStar e3 || isStar e4 || isStar e5 || isStar e6 || isStar e7 || isStar e8 || isStar e9 || isStar e10 || isStar e11) = false := by rfl) : PA X [e1, e2, e3, e4, e5, e6, e7, e8, e9, e10, e11] (tCons t1 (tCons t2 (tCons t3 (tCons t4 (tCons t5 (tCons t6 (tCons t7 (tCons t8 (tCons t9 (tCons t10 (tCons t11 tNil))))))))))) := by
  try simp only [Bool.or_eq_false_iff] at s
  exact (pa_c h1 (pa_c h2 (pa_c h3 (pa_c h4 (pa_c h5 (pa_c h6 (pa_c h7 (pa_c h8 (pa_c h9 (pa_c h10 (pa_c h11 pa_nil (by simp_all)) (by simp_all)) (by simp_all)) (by simp_all)) (by simp_all)) (by simp_all)) (by simp_all)) (by simp_all)) (by simp_all)) (by simp_all)) (by simp_all))
theorem pa_l12 {e1 e2 e3 e4 e5 e6 e7 e8 e9 e10 e11 e12 : Expr} {t1 t2 t3 t4 t5 t6 t7 t8 t9 t10 t11 t12 : TE} (h1 : PE X e1 t1) (h2 : PE X e2 t2) (h3 : PE X e3 t3) (h4 : PE X e4 t4) (h5 : PE X e5 t5) (h6 : PE X e6 t6) (h7 : PE X e7 t7) (h8 : PE X e8 t8) (h9 : PE X e9 t9) (h10 : PE X e10 t10) (h11 : PE X e11 t11) (h12 : PE X e12 t12) (s : (isStar e1 || isStar e2 || isStar e3 || isStar e4 || isStar e5 || isStar e6 || isStar e7 || isStar e8 || isStar e9 || isStar e10 || isStar e11 || isStar e12) = false := by rfl) : PA X [e1, e2, e3, e4, e5, e6, e7, e8, e9, e10, e11, e12] (tCons t1 (tCons t2 (tCons t3 (tCons t4 (tCons t5 (tCons t6 (tCons t7 (tCons t8 (tCons t9 (tCons t10 (tCons t11 (tCons t12 tNil)))))))))))) := by
  try simp only [Bool.or_eq_false_iff] at s
  exact (pa_c h1 (pa_c h2 (pa_c h3 (pa_c h4 (pa_c h5 (pa_c h6 (pa_c h7 (pa_c h8 (pa_c h9 (pa_c h10 (pa_c h11 (pa_c h12 pa_nil (by simp_all)) (by simp_all)) (by simp_all)) (by simp_all)) (by simp_all)) (by simp_all)) (by simp_all)) (by simp_all)) (by simp_all)) (by simp_all)) (by simp_all)) (by simp_all))
theorem pa_l13 {e1 e2 e3 e4 e5 e6 e7 e8 e9 e10 e11 e12 e13 : Expr} {t1 t2 t3 t4 t5 t6 t7 t8 t9 t10 t11 t12 t13 : TE} (h1 : PE X e1 t1) (h2 : PE X e2 t2) (h3 : PE X e3 t3) (h4 : PE X e4 t4) (h5 : PE X e5 t5) (h6 : PE X e6 t6) (h7 : PE X e7 t7) (h8 : PE X e8 t8) (h9 : PE X e9 t9) (h10 : PE X e10 t10) (h11 : PE X e11 t11) (h12 : PE X e12 t12) (h13 : PE X e13 t13) (s : (isStar e1 || isStar e2 || isStar e3 || isStar e4 || isStar e5 || isStar e6 || isStar e7 || isStar e8 || isStar e9 || isStar e10 || isStar e11 || isStar e12 || isStar e13) = false := by rfl) : PA X [e1, e2, e3, e4, e5, e6, e7, e8, e9, e10, e11, e12, e13] (tCons t1 (tCons t2 (tCons t3 (tCons t4 (tCons t5 (tCons t6 (tCons t7 (tCons t8 (tCons t9 (tCons t10 (tCons t11 (tCons t12 (tCons t13 tNil))))))))))))) := by
  try simp only [Bool.or_eq_false_iff] at s
  exact (pa_c h1 (pa_c h2 (pa_c h3 (pa_c h4 (pa_c h5 (pa_c h6 (pa_c h7 (pa_c h8 (pa_c h9 (pa_c h10 (pa_c h11 (pa_c h12 (pa_c h13 pa_nil (by simp_all)) (by simp_all)) (by simp_all)) (by simp_all)) (by simp_all)) (by simp_all)) (by simp_all)) (by simp_all)) (by simp_all)) (by simp_all)) (by simp_all)) (by simp_all)) (by simp_all))
theorem pa_l14 {e1 e2 e3 e4 e5 e6 e7 e8 e9 e10 e11 e12 e13 e14 : Expr} {t1 t2 t3 t4 t5 t6 t7 t8 t9 t10 t11 t12 t13 t14 : TE} (h1 : PE X e1 t1) (h2 : PE X e2 t2) (h3 : PE X e3 t3) (h4 : PE X e4 t4) (h5 : PE X e5 t5) (h6 : PE X e6 t6) (h7 : PE X e7 t7) (h8 : PE X e8 t8) (h9 : PE X e9 t9) (h10 : PE X e10 t10) (h11 : PE X e11 t11) (h12 : PE X e12 t12) (h13 : PE X e13 t13) (h14 : PE X e14 t14) (s : (isStar e1 || isStar e2 || isStar e3 || isStar e4 || isStar e5 || isStar e6 || isStar e7 || isStar e8 || isStar e9 || isStar e10 || isStar e11 || isStar e12 || isStar e13 || isStar e14) = false := by rfl) : PA X [e1, e2, e3, e4, e5, e6, e7, e8, e9, e10, e11, e12, e13, e14] (tCons t1 (tCons t2 (tCons t3 (tCons t4 (tCons t5 (tCons t6 (tCons t7 (tCons t8 (tCons t9 (tCons t10 (tCons t11 (tCons t12 (tCons t13 (tCons t14 tNil)))))))))))))) := by
  try simp only [Bool.or_eq_false_iff] at s
  exact (pa_c h1 (pa_c h2 (pa_c h3 (pa_c h4 (pa_c h5 (pa_c h6 (pa_c h7 (pa_c h8 (pa_c h9 (pa_c h10 (pa_c h11 (pa_c h12 (pa_c h13 (pa_c h14 pa_nil (by simp_all)) (by simp_all)) (by simp_all)) (by simp_all)) (by simp_all)) (by simp_all)) (by simp_all)) (by simp_all)) (by simp_all)) (by simp_all)) (by simp_all)) (by simp_all)) (by simp_all)) (by simp_all))
theorem pss_l1 {e1 : Stmt} {t1 : TS} (h1 : PS X e1 t1) : PSs X [e1] t1 := (pss_one h1)
theorem pss_l2 {e1 e2 : Stmt} {t1 t2 : TS} (h1 : PS X e1 t1) (h2 : PS X e2 t2) : PSs X [e1, e2] (tSeq t1 t2) := (pss_cons h1 (pss_one h2))
theorem pss_l3 {e1 e2 e3 : Stmt} {t1 t2 t3 : TS} (h1 : PS X e1 t1) (h2 : PS X e2 t2) (h3 : PS X e3 t3) : PSs X [e1, e2, e3] (tSeq t1 (tSeq t2 t3)) := (pss_cons h1 (pss_cons h2 (pss_one h3)))
theorem pss_l4 {e1 e2 e3 e4 : Stmt} {t1 t2 t3 t4 : TS} (h1 : PS X e1 t1) (h2 : PS X e2 t2) (h3 : PS X e3 t3) (h4 : PS X e4 t4) : PSs X [e1, e2, e3, e4] (tSeq t1 (tSeq t2 (tSeq t3 t4))) := (pss_cons h1 (pss_cons h2 (pss_cons h3 (pss_one h4))))
theorem pss_l5 {e1 e2 e3 e4 e5 : Stmt} {t1 t2 t3 t4 t5 : TS} (h1 : PS X e1 t1) (h2 : PS X e2 t2) (h3 : PS X e3 t3) (h4 : PS X e4 t4) (h5 : PS X e5 t5) : PSs X [e1, e2, e3, e4, e5] (tSeq t1 (tSeq t2 (tSeq t3 (tSeq t4 t5)))) := (pss_cons h1 (pss_cons h2 (pss_cons h3 (pss_cons h4 (pss_one h5)))))
theorem pss_l6 {e1 e2 e3 e4 e5 e6 : Stmt} {t1 t2 t3 t4 t5 t6 : TS} (h1 : PS X e1 t1) (h2 : PS X e2 t2) (h3 : PS X e3 t3) (h4 : PS X e4 t4) (h5 : PS X e5 t5) (h6 : PS X e6 t6) : PSs X [e1, e2, e3, e4, e5, e6] (tSeq t1 (tSeq t2 (tSeq t3 (tSeq t4 (tSeq t5 t6))))) := (pss_cons h1 (pss_cons h2 (pss_cons h3 (pss_cons h4 (pss_cons h5 (pss_one h6))))))
theorem pss_l7 {e1 e2 e3 e4 e5 e6 e7 : Stmt} {t1 t2 t3 t4 t5 t6 t7 : TS} (h1 : PS X e1 t1) (h2 : PS X e2 t2) (h3 : PS X e3 t3) (h4 : PS X e4 t4) (h5 : PS X e5 t5) (h6 : PS X e6 t6) (h7 : PS X e7 t7) : PSs X [e1, e2, e3, e4, e5, e6, e7] (tSeq t1 (tSeq t2 (tSeq t3 (tSeq t4 (tSeq t5 (tSeq t6 t7)))))) := (pss_cons h1 (pss_cons h2 (pss_cons h3 (pss_cons h4 (pss_cons h5 (pss_cons h6 (pss_one h7)))))))
theorem pss_l8 {e1 e2 e3 e4 e5 e6 e7 e8 : Stmt} {t1 t2 t3 t4 t5 t6 t7 t8 : TS} (h1 : PS X e1 t1) (h2 : PS X e2 t2) (h3 : PS X e3 t3) (h4 : PS X e4 t4) (h5 : PS X e5 t5) (h6 : PS X e6 t6) (h7 : PS X e7 t7) (h8 : PS X e8 t8) : PSs X [e1, e2, e3, e4, e5, e6, e7, e8] (tSeq t1 (tSeq t2 (tSeq t3 (tSeq t4 (tSeq t5 (tSeq t6 (tSeq t7 t8))))))) := (pss_cons h1 (pss_cons h2 (pss_cons h3 (pss_cons h4 (pss_cons h5 (pss_cons h6 (pss_cons h7 (pss_one h8))))))))
theorem pss_l9 {e1 e2 e3 e4 e5 e6 e7 e8 e9 : Stmt} {t1 t2 t3 t4 t5 t6 t7 t8 t9 : TS} (h1 : PS X e1 t1) (h2 : PS X e2 t2) (h3 : PS X e3 t3) (h4 : PS X e4 t4) (h5 : PS X e5 t5) (h6 : PS X e6 t6) (h7 : PS X e7 t7) (h8 : PS X e8 t8) (h9 : PS X e9 t9) : PSs X [e1, e2, e3, e4, e5, e6, e7, e8, e9] (tSeq t1 (tSeq t2 (tSeq t3 (tSeq t4 (tSeq t5 (tSeq t6 (tSeq t7 (tSeq t8 t9)))))))) := (pss_cons h1 (pss_cons h2 (pss_cons h3 (pss_cons h4 (pss_cons h5 (pss_cons h6 (pss_cons h7 (pss_cons h8 (pss_one h9)))))))))
theorem pss_l10 {e1 e2 e3 e4 e5 e6 e7 e8 e9 e10 : Stmt} {t1 t2 t3 t4 t5 t6 t7 t8 t9 t10 : TS} (h1 : PS X e1 t1) (h2 : PS X e2 t2) (h3 : PS X e3 t3) (h4 : PS X e4 t4) (h5 : PS X e5 t5) (h6 : PS X e6 t6) (h7 : PS X e7 t7) (h8 : PS X e8 t8) (h9 : PS X e9 t9) (h10 : PS X e10 t10) : PSs X [e1, e2, e3, e4, e5, e6, e7, e8, e9, e10] (tSeq t1 (tSeq t2 (tSeq t3 (tSeq t4 (tSeq t5 (tSeq t6 (tSeq t7 (tSeq t8 (tSeq t9 t10))))))))) := (pss_cons h1 (pss_cons h2 (pss_cons h3 (pss_cons h4 (pss_cons h5 (pss_cons h6 (pss_cons h7 (pss_cons h8 (pss_cons h9 (pss_one h10))))))))))
theorem pss_l11 {e1 e2 e3 e4 e5 e6 e7 e8 e9 e10 e11 : Stmt} {t1 t2 t3 t4 t5 t6 t7 t8 t9 t10 t11 : TS} (h1 : PS X e1 t1) (h2 : PS X e2 t2) (h3 : PS X e3 t3) (h4 : PS X e4 t4) (h5 : PS X e5 t5) (h6 : PS X e6 t6) (h7 : PS X e7 t7) (h8 : PS X e8 t8) (h9 : PS X e9 t9) (h10 : PS X e10 t10) (h11 : PS X e11 t11) : PSs X [e1, e2, e3, e4, e5, e6, e7, e8, e9, e10, e11] (tSeq t1 (tSeq t2 (tSeq t3 (tSeq t4 (tSeq t5 (tSeq t6 (tSeq t7 (tSeq t8 (tSeq t9 (tSeq t10 t11)))))))))) := (pss_cons h1 (pss_cons h2 (pss_cons h3 (pss_cons h4 (pss_cons h5 (pss_cons h6 (pss_cons h7 (pss_cons h8 (pss_cons h9 (pss_cons h10 (pss_one h11)))))))))))
theorem pss_l12 {e1 e2 e3 e4 e5 e6 e7 e8 e9 e10 e11 e12 : Stmt} {t1 t2 t3 t4 t5 t6 t7 t8 t9 t10 t11 t12 : TS} (h1 : PS X e1 t1) (h2 : PS X e2 t2) (h3 : PS X e3 t3) (h4 : PS X e4 t4) (h5 : PS X e5 t5) (h6 : PS X e6 t6) (h7 : PS X e7 t7) (h8 : PS X e8 t8) (h9 : PS X e9 t9) (h10 : PS X e10 t10) (h11 : PS X e11 t11) (h12 : PS X e12 t12) : PSs X [e1, e2, e3, e4, e5, e6, e7, e8, e9, e10, e11, e12] (tSeq t1 (tSeq t2 (tSeq t3 (tSeq t4 (tSeq t5 (tSeq t6 (tSeq t7 (tSeq t8 (tSeq t9 (tSeq t10 (tSeq t11 t12))))))))))) := (pss_cons h1 (pss_cons h2 (pss_cons h3 (pss_cons h4 (pss_cons h5 (pss_cons h6 (pss_cons h7 (pss_cons h8 (pss_cons h9 (pss_cons h10 (pss_cons h11 (pss_one h12))))))))))))
theorem pss_l13 {e1 e2 e3 e4 e5 e6 e7 e8 e9 e10 e11 e12 e13 : Stmt} {t1 t2 t3 t4 t5 t6 t7 t8 t9 t10 t11 t12 t13 : TS} (h1 : PS X e1 t1) (h2 : PS X e2 t2) (h3 : PS X e3 t3) (h4 : PS X e4 t4) (h5 : PS X e5 t5) (h6 : PS X e6 t6) (h7 : PS X e7 t7) (h8 : PS X e8 t8) (h9 : PS X e9 t9) (h10 : PS X e10 t10) (h11 : PS X e11 t11) (h12 : PS X e12 t12) (h13 : PS X e13 t13) : PSs X [e1, e2, e3, e4, e5, e6, e7, e8, e9, e10, e11, e12, e13] (tSeq t1 (tSeq t2 (tSeq t3 (tSeq t4 (tSeq t5 (tSeq t6 (tSeq t7 (tSeq t8 (tSeq t9 (tSeq t10 (tSeq t11 (tSeq t12 t13)))))))))))) := (pss_cons h1 (pss_cons h2 (pss_cons h3 (pss_cons h4 (pss_cons h5 (pss_cons h6 (pss_cons h7 (pss_cons h8 (pss_cons h9 (pss_cons h10 (pss_cons h11 (pss_cons h12 (pss_one h13)))))))))))))
theorem pss_l14 {e1 e2 e3 e4 e5 e6 e7 e8 e9 e10 e11 e12 e13 e14 : Stmt} {t1 t2 t3 t4 t5 t6 t7 t8 t9 t10 t11 t12 t13 t14 : TS} (h1 : PS X e1 t1) (h2 : PS X e2 t2) (h3 : PS X e3 t3) (h4 : PS X e4 t4) (h5 : PS X e5 t5) (h6 : PS X e6 t6) (h7 : PS X e7 t7) (h8 : PS X e8 t8) (h9 : PS X e9 t9) (h10 : PS X e10 t10) (h11 : PS X e11 t11) (h12 : PS X e12 t12) (h13 : PS X e13 t13) (h14 : PS X e14 t14) : PSs X [e1, e2, e3, e4, e5, e6, e7, e8, e9, e10, e11, e12, e13, e14] (tSeq t1 (tSeq t2 (tSeq t3 (tSeq t4 (tSeq t5 (tSeq t6 (tSeq t7 (tSeq t8 (tSeq t9 (tSeq t10 (tSeq t11 (tSeq t12 (tSeq t13 t14))))))))))))) := (pss_cons h1 (pss_cons h2 (pss_cons h3 (pss_cons h4 (pss_cons h5 (pss_cons h6 (pss_cons h7 (pss_cons h8 (pss_cons h9 (pss_cons h10 (pss_cons h11 (pss_cons h12 (pss_cons h13 (pss_one h14))))))))))))))
theorem pss_l15 {e1 e2 e3 e4 e5 e6 e7 e8 e9 e10 e11 e12 e13 e14 e15 : Stmt} {t1 t2 t3 t4 t5 t6 t7 t8 t9 t10 t11 t12 t13 t14 t15 : TS} (h1 : PS X e1 t1) (h2 : PS X e2 t2) (h3 : PS X e3 t3) (h4 : PS X e4 t4) (h5 : PS X e5 t5) (h6 : PS X e6 t6) (h7 : PS X e7 t7) (h8 : PS X e8 t8) (h9 : PS X e9 t9) (h10 : PS X e10 t10) (h11 : PS X e11 t11) (h12 : PS X e12 t12) (h13 : PS X e13 t13) (h14 : PS X e14 t14) (h15 : PS X e15 t15) : PSs X [e1, e2, e3, e4, e5, e6, e7, e8, e9, e10, e11, e12, e13, e14, e15] (tSeq t1 (tSeq t2 (tSeq t3 (tSeq t4 (tSeq t5 (tSeq t6 (tSeq t7 (tSeq t8 (tSeq t9 (tSeq t10 (tSeq t11 (tSeq t12 (tSeq t13 (tSeq t14 t15)))))))))))))) := (pss_cons h1 (pss_cons h2 (pss_cons h3 (pss_cons h4 (pss_cons h5 (pss_cons h6 (pss_cons h7 (pss_cons h8 (pss_cons h9 (pss_cons h10 (pss_cons h11 (pss_cons h12 (pss_cons h13 (pss_cons h14 (pss_one h15)))))))))))))))
theorem pss_l16 {e1 e2 e3 e4 e5 e6 e7 e8 e9 e10 e11 e12 e13 e14 e15 e16 : Stmt} {t1 t2 t3 t4 t5 t6 t7 t8 t9 t10 t11 t12 t13 t14 t15 t16 : TS} (h1 : PS X e1 t1) (h2 : PS X e2 t2) (h3 : PS X e3 t3) (h4 : PS X e4 t4) (h5 : PS X e5 t5) (h6 : PS X e6 t6) (h7 : PS X e7 t7) (h8 : PS X e8 t8) (h9 : PS X e9 t9) (h10 : PS X e10 t10) (h11 : PS X e11 t11) (h12 : PS X e12 t12) (h13 : PS X e13 t13) (h14 : PS X e14 t14) (h15 : PS X e15 t15) (h16 : PS X e16 t16) : PSs X [e1, e2, e3, e4, e5, e6, e7, e8, e9, e10, e11, e12, e13, e14, e15, e16] (tSeq t1 (tSeq t2 (tSeq t3 (tSeq t4 (tSeq t5 (tSeq t6 (tSeq t7 (tSeq t8 (tSeq t9 (tSeq t10 (tSeq t11 (tSeq t12 (tSeq t13 (tSeq t14 (tSeq t15 t16))))))))))))))) := (pss_cons h1 (pss_cons h2 (pss_cons h3 (pss_cons h4 (pss_cons h5 (pss_cons h6 (pss_cons h7 (pss_cons h8 (pss_cons h9 (pss_cons h10 (pss_cons h11 (pss_cons h12 (pss_cons h13 (pss_cons h14 (pss_cons h15 (pss_one h16))))))))))))))))
end
/-! ### defs of the module, by their promises -/
structure Has (P : Program) (w : World) (K : PySem.W.Frag) (mg : Str → Option Value) (base : Heap) (k : Nat) (x : Str) (ps : List Str) (sp : Sp) : Prop where
  ex : ∃ f fd, FnOk P w K mg base CX0 k f fd ps sp ∧ mg x = some (.ref f) ∧ PySem.W.keepIn K (.ref f) = true ∧ Binds K fd ps []
structure Dfn (K : PySem.W.Frag) (mg : Str → Option Value) (x : Str) (st : Stmt) (ps : List Str) : Prop where
  ex : ∃ f fd, Fun K x x st f fd ∧ mg x = some (.ref f) ∧ Binds K fd ps []
section
variable {P : Program} {w : World} {K : PySem.W.Frag} {mg : Str → Option Value} {base : Heap}
theorem Dfn.has {x : Str} {st : Stmt} {N ps : List Str} {k : Nat} {sp : Sp} (D : Dfn K mg x st ps) (S : FnScope N ps (defScope st)) (len : ∀ vs H Q E, sp vs H Q E → vs.length = ps.length)
    (hbody : ∀ (f : Addr) (cdv : Value) (A : Around) (outer : List Env) (s : Shared) (H : Hp) (vs : List V) (Q : VK) (E : XK), Room k (A.deeper (envOfC x (defScope st) s.heap.objs.size f cdv)) → sp vs H Q E →
      ∃ t, PSs (cxOf CX0 P w K mg base N x (defScope st) f cdv A outer s H E).nox (defBody st) t ∧ t { nx := fun _ H' => Q .non H', rt := Q } (start N vs) H) : Has P w K mg base (k + 1) x ps sp := by
  obtain ⟨f, fd, F, hm, hb⟩ := D.ex
  exact ⟨f, fd, F.ok S len (fun cdv A outer s H vs Q E hr h => hbody f cdv A outer s H vs Q E hr h), hm, F.kp, hb⟩
theorem Has.imp {x : Str} {ps : List Str} {k j : Nat} {sp sp' : Sp} (F : Has P w K mg base j x ps sp) (hj : j ≤ k) (h : ∀ vs H Q E, sp' vs H Q E → sp vs H Q E) : Has P w K mg base k x ps sp' := by
  obtain ⟨f, fd, G, hm, hk, hb⟩ := F.ex
  exact ⟨f, fd, (G.mono hj).imp h, hm, hk, hb⟩
end
section
variable {X : Cx} {k : Nat} {x : Str} {ps : List Str} {sp : Sp} {p pos : Pos} {e : Expr} {es : List Expr} {t : TA}
theorem pe_callH (F : Has X.prog X.w X.K X.mg X.base k x ps sp) (hr : Room k X.A) (hg : Gl X x) (ha : PA X (e :: es) t) (hdb : (x == ("__debug__" : Str)) = false := by decide)
    (h1 : isStar e = false := by rfl) (h2 : es.all (fun x => !isStar x) = true := by rfl) : PE X (.Call (.Name x p) (e :: es) [] pos) (tCall sp [] E0 t) := by
  obtain ⟨f, fd, G, hm, hk, hb⟩ := F.ex
  exact pe_call G hr hg hm hk hb .nil pass0 ha hdb (star_cons h1) (star_plain h2)
theorem pe_callH0 (F : Has X.prog X.w X.K X.mg X.base k x ps sp) (hr : Room k X.A) (hg : Gl X x) (hdb : (x == ("__debug__" : Str)) = false := by decide) : PE X (.Call (.Name x p) [] [] pos) (tCall sp [] E0 tNil) := by
  obtain ⟨f, fd, G, hm, hk, hb⟩ := F.ex
  exact pe_call0 G hr hg hm hk hb .nil pass0 hdb
/-- a text, a whole number that the module keeps -/
theorem pe_globS {y : Str} (hg : Gl X x) (hm : ∃ t, X.mg x = some (.str y t)) (hd : (x == ("__debug__" : Str)) = false := by decide) : PE X (.Name x pos) (tC (.str y)) := by
  obtain ⟨t, hm⟩ := hm
  exact pe_glob hg hm ⟨t, rfl⟩ hd
theorem pe_globI {i : Int} (hg : Gl X x) (hm : ∃ t, X.mg x = some (.int i t)) (hd : (x == ("__debug__" : Str)) = false := by decide) : PE X (.Name x pos) (tC (.int i)) := by
  obtain ⟨t, hm⟩ := hm
  exact pe_glob hg hm ⟨t, rfl⟩ hd
/-- a built-in type as a value -/
theorem pe_ty {n : String} (hg : Gl X x) (hm : X.mg x = none) (hv : bootBuiltins x = some (.type n)) (hn : x ≠ "__name__" := by decide) (hd : (x == ("__debug__" : Str)) = false := by decide) : PE X (.Name x pos) (tC (.ty n)) :=
  pe_bltn hg hm hv rfl hn hd
end

/-! ### walks of a known number of turns -/
structure Yields (J : It) (n : Nat) (OK : Nat → Hp → Prop) (Y : Nat → Hp → V → Hp → Prop) : Prop where
  go : ∀ i H, i < n → OK i H → J.go i H
  yld : ∀ i H x H', i < n → OK i H → J.yld i H x H' → Y i H x H'
  stop : ∀ H, OK n H → J.stop n H
theorem for_it {J : It} {n : Nat} {OK : Nat → Hp → Prop} {Y : Nat → Hp → V → Hp → Prop} (y : Yields J n OK Y) {g : TG} {tb : TS} {D : Ends} {σ : St} {H : Hp} (Pv : Nat → St → Hp → Prop) (h0 : Pv 0 σ H) (hok : ∀ i σ H, i ≤ n → Pv i σ H → OK i H)
    (hs : ∀ i σ H x H', i < n → Pv i σ H → Y i H x H' → g x σ H' fun σ2 H2 => tb { D with nx := Pv (i + 1), ct := Pv (i + 1), bk := D.nx } σ2 H2) (hd : ∀ σ H, Pv n σ H → D.nx σ H) :
    ∃ W : Nat → Nat → St → Hp → Prop, (∃ m, W 0 m σ H) ∧ ∀ i m σ H, W i m σ H →
      (J.stop i H ∧ D.nx σ H) ∨ (J.go i H ∧ ∃ N : St → Hp → Prop, (∀ σ' H', N σ' H' → ∃ m', m' < m ∧ W (i + 1) m' σ' H') ∧ ∀ x H', J.yld i H x H' → g x σ H' fun σ2 H2 => tb { D with nx := N, ct := N, bk := D.nx } σ2 H2) := by
  refine ⟨fun i m σ H => i ≤ n ∧ m = n - i ∧ Pv i σ H, ⟨n, Nat.zero_le _, rfl, h0⟩, fun i m σ H ⟨hi, hm, hp⟩ => ?_⟩
  rcases Nat.lt_or_ge i n with h | h
  · exact .inr ⟨y.go i H h (hok i σ H hi hp), Pv (i + 1), fun σ' H' q => ⟨n - (i + 1), by omega, by omega, rfl, q⟩, fun x H' hy => hs i σ H x H' h hp (y.yld i H x H' h (hok i σ H hi hp) hy)⟩
  · have e : i = n := by omega
    subst e
    exact .inl ⟨y.stop H (hok _ σ H hi hp), hd σ H hp⟩
theorem comp_it {J : It} {n : Nat} {OK : Nat → Hp → Prop} {Y : Nat → Hp → V → Hp → Prop} (y : Yields J n OK Y) {g : TG} {tt : TT} {te : TE} {Q : VK} {σ : St} {H : Hp} (Pv : Nat → St → List V → Hp → Prop) (h0 : Pv 0 σ [] H)
    (hok : ∀ i σ acc H, i ≤ n → Pv i σ acc H → OK i H ∧ (i < n → acc.length < sizeLine))
    (hs : ∀ i σ acc H x H', i < n → Pv i σ acc H → Y i H x H' → g x σ H' fun σ2 H4 => tt σ2 H4 fun b H5 => if b = true then te σ2 H5 fun v H6 => Pv (i + 1) σ2 (acc ++ [v]) H6 else Pv (i + 1) σ2 acc H5)
    (hd : ∀ σ acc H, Pv n σ acc H → ∀ p, H p = none → Q (.ref p) (upd H p (.lst acc))) :
    ∃ W : Nat → Nat → St → List V → Hp → Prop, (∃ m, W 0 m σ [] H) ∧ ∀ i m σ1 acc H2, W i m σ1 acc H2 →
      (J.stop i H2 ∧ ∀ p, H2 p = none → Q (.ref p) (upd H2 p (.lst acc))) ∨
      (J.go i H2 ∧ acc.length < sizeLine ∧ ∃ Nn : St → List V → Hp → Prop, (∀ σ' acc' H', Nn σ' acc' H' → ∃ m', m' < m ∧ W (i + 1) m' σ' acc' H') ∧
        ∀ x H3, J.yld i H2 x H3 → g x σ1 H3 fun σ2 H4 => tt σ2 H4 fun b H5 => if b = true then te σ2 H5 fun v H6 => Nn σ2 (acc ++ [v]) H6 else Nn σ2 acc H5) := by
  refine ⟨fun i m σ acc H => i ≤ n ∧ m = n - i ∧ Pv i σ acc H, ⟨n, Nat.zero_le _, rfl, h0⟩, fun i m σ acc H ⟨hi, hm, hp⟩ => ?_⟩
  obtain ⟨ho, hz⟩ := hok i σ acc H hi hp
  rcases Nat.lt_or_ge i n with h | h
  · exact .inr ⟨y.go i H h ho, hz h, Pv (i + 1), fun σ' acc' H' q => ⟨n - (i + 1), by omega, by omega, rfl, q⟩, fun x H' hy => hs i σ acc H x H' h hp (y.yld i H x H' h ho hy)⟩
  · have e : i = n := by omega
    subst e
    exact .inl ⟨y.stop H ho, hd σ acc H hp⟩
theorem tfor_of {J : It} {n : Nat} {OK : Nat → Hp → Prop} {Y : Nat → Hp → V → Hp → Prop} {wi : TI} {g : TG} {tb : TS} {D : Ends} {σ : St} {H H1 : Hp} (hw : ∀ R : It → Hp → Prop, R J H1 → wi σ H R) (y : Yields J n OK Y) (Pv : Nat → St → Hp → Prop) (h0 : Pv 0 σ H1) (hok : ∀ i σ H, i ≤ n → Pv i σ H → OK i H)
    (hs : ∀ i σ H x H', i < n → Pv i σ H → Y i H x H' → g x σ H' fun σ2 H2 => tb { D with nx := Pv (i + 1), ct := Pv (i + 1), bk := D.nx } σ2 H2) (hd : ∀ σ H, Pv n σ H → D.nx σ H) : tFor wi g tb D σ H := hw _ (for_it y Pv h0 hok hs hd)
theorem tcomp_of {J : It} {n : Nat} {OK : Nat → Hp → Prop} {Y : Nat → Hp → V → Hp → Prop} {imp : List (Option Nat)} {wi : TI} {g : TG} {tt : TT} {te : TE} {Q : VK} {σ : St} {H H1 : Hp} (hw : ∀ R : It → Hp → Prop, R J H1 → wi σ H R) (y : Yields J n OK Y) (Pv : Nat → St → List V → Hp → Prop) (h0 : Pv 0 (pull imp σ) [] H1)
    (hok : ∀ i σ acc H, i ≤ n → Pv i σ acc H → OK i H ∧ (i < n → acc.length < sizeLine))
    (hs : ∀ i σ acc H x H', i < n → Pv i σ acc H → Y i H x H' → g x σ H' fun σ2 H4 => tt σ2 H4 fun b H5 => if b = true then te σ2 H5 fun v H6 => Pv (i + 1) σ2 (acc ++ [v]) H6 else Pv (i + 1) σ2 acc H5)
    (hd : ∀ σ acc H, Pv n σ acc H → ∀ p, H p = none → Q (.ref p) (upd H p (.lst acc))) : tComp imp wi g tt te σ H Q := hw _ (comp_it y Pv h0 hok hs hd)
theorem y_list (K : PySem.W.Frag) (a : Addr) (xs : List V) : Yields (Itl K a) xs.length (fun _ H => SqL K H a xs) (fun i H x H' => H' = H ∧ xs[i]? = some x) where
  go := fun i H h hq => ⟨xs, xs[i], hq, List.getElem?_eq_getElem h⟩
  yld := fun i H x H' h hq z => ⟨z.1, z.2 xs hq⟩
  stop := fun H hq => ⟨xs, hq, Nat.le_refl _⟩
theorem y_tup (K : PySem.W.Frag) (a : Addr) (xs : List V) : Yields (Itt K a) xs.length (fun _ H => SqT K H a xs) (fun i H x H' => H' = H ∧ xs[i]? = some x) where
  go := fun i H h hq => ⟨xs, xs[i], hq, List.getElem?_eq_getElem h⟩
  yld := fun i H x H' h hq z => ⟨z.1, z.2 xs hq⟩
  stop := fun H hq => ⟨xs, hq, Nat.le_refl _⟩
theorem y_range (lo : Int) (n : Nat) : Yields (Itr lo n) n (fun _ _ => True) (fun i H x H' => H' = H ∧ x = .int (lo + i)) where
  go := fun i H h _ => h
  yld := fun i H x H' h _ z => z
  stop := fun H _ => Nat.le_refl _
theorem y_step (lo c : Int) (n : Nat) : Yields (Its lo c n) n (fun _ _ => True) (fun i H x H' => H' = H ∧ x = .int (lo + i * c)) where
  go := fun i H h _ => h
  yld := fun i H x H' h _ z => z
  stop := fun H _ => Nat.le_refl _

/-! ### the signs of a text -/
def Itx (x : Str) : It := ⟨fun i _ => i < x.cps.size, fun i H v H' => H' = H ∧ ∃ c, x.cps[i]? = some c ∧ v = .str ⟨#[c]⟩, fun i _ => x.cps.size ≤ i⟩
theorem y_str (x : Str) : Yields (Itx x) x.cps.size (fun _ _ => True) (fun i H v H' => H' = H ∧ ∃ c, x.cps[i]? = some c ∧ v = .str ⟨#[c]⟩) where
  go := fun i H h _ => h
  yld := fun i H x H' h _ z => z
  stop := fun H _ => Nat.le_refl _
theorem turn_str {P : Program} {w : World} {K : PySem.W.Frag} {tg : Expr} (it : Addr) (T : String) (x : Str) (t : Tok) (hT : T = "str_ascii_iterator" ∨ T = "str_iterator") :
    Turn P w K tg (Itx x) [it] it (fun i h => h.IsStrIter it T x t i) := by
  have W : ∀ A : Around, A.handled = none → Walks P w A it [it] [it] x.cps.size (SignAt x) (fun i h => h.IsStrIter it T x t i) := fun A hA => by
    rcases hT with rfl | rfl
    · exact Walks.strAscii hA it x t
    · exact Walks.strWide hA it x t
  refine ⟨by simp, fun i h st b hb => ?_, fun i h h' st k => ?_, ?_, ?_, fun A i s Q E st q => ?_⟩
  · have e : b = it := by simpa using hb
    subst e
    obtain ⟨o, e, c, d⟩ := st
    exact ⟨o, e, fun v z => by rw [d] at z; cases z⟩
  · obtain ⟨o, e, c⟩ := st
    exact ⟨o, k it (by simp) o e, c⟩
  · intro X hP hw hK hc i pins s σ H E I hf st hg
    subst hP hw hK
    obtain ⟨f0, f1, f2, f3, f4, f5⟩ := hf it (by simp)
    refine (W X.A (I.ok.hd hc)).item i s _ E hg st fun v h' tk hv st' kp => ?_
    obtain ⟨c, u, hcx, rfl⟩ := hv
    have I1 : Inv X pins σ H { s with heap := h', toks := tk } := I.turned (t' := tk) (fun b o hb e => kp b o (by simpa using hb) e) f0 f1 f3 f4 f5
    obtain ⟨o, e, cc, d⟩ := id st'
    have hn : ["enumerate", "zip", "dict_itemiterator", "dict_reverseitemiterator", "odict_iterator", "itertools.zip_longest", "itertools.pairwise"].contains T = false := by
      rcases hT with rfl | rfl <;> decide
    exact ⟨_, rfl, go_of (s := { s with heap := h', toks := tk }) e cc d hn ⟨.str ⟨#[c]⟩, H, I1, ⟨u, rfl⟩, ⟨rfl, c, hcx, rfl⟩, st', fun b hb => (hf b hb).1⟩⟩
  · intro X hP hw hK hc i pins s σ H E I hf st hg
    subst hP hw hK
    obtain ⟨f0, f1, f2, f3, f4, f5⟩ := hf it (by simp)
    have hi : x.cps[i]? = none := by
      have h : x.cps.size ≤ i := hg
      simp [h]
    have fin : ∀ h', Heap.ExtBut it s.heap h' → (none : Option Value) = none ∧ Inv X pins σ H { s with heap := h' } := fun h' eb => ⟨rfl, I.turned (t' := s.toks) (fun b o hb e => eb b o hb e) f0 f1 f3 f4 f5⟩
    rcases hT with rfl | rfl
    · exact wpAny_pyNext_ascii_end (I.ok.hd hc) st hi fin
    · exact wpAny_pyNext_wide_end (I.ok.hd hc) st hi fin
  · rcases hT with rfl | rfl
    · exact wpAny_pyIter_striter_ascii st q
    · exact wpAny_pyIter_striter_wide st q
def iStr (tl : TE) : TI := fun σ H R => tl σ H fun v H1 => ∃ x, v = .str x ∧ R (Itx x) H1
theorem pi_str {X : Cx} {tg l : Expr} {tl : TE} (hl : PE X l tl) : PI X tg l (iStr tl) := by
  intro pins s σ H R I h
  refine thn (hl pins s σ H _ I h) fun u s1 ⟨v, H1, I1, r1, q1⟩ => ?_
  obtain ⟨x, rfl, q⟩ := q1
  obtain ⟨t, rfl⟩ := r1
  have key : ∀ (T : String), (T = "str_ascii_iterator" ∨ T = "str_iterator") → PIE X pins σ tg R (.ref s1.heap.objs.size) { s1 with heap := s1.heap.push { cls := .type T, data := .fields #[.str x t, .int 0 0] } } := fun T hT => by
    refine ⟨s1.heap.objs.size, [s1.heap.objs.size], _, _, H1, rfl, I1.kept (t' := s1.toks) fun b o e => Heap.get?_push_of_some _ e, turn_str _ T x t hT, ⟨_, Heap.get?_push_size _ rfl, rfl, rfl⟩, fun b hb => ?_, q⟩
    have e : b = s1.heap.objs.size := by simpa using hb
    subst e
    exact I1.fpOk (Nat.le_refl _) (I1.hok.fresh (Nat.le_refl _))
  cases ha : x.cps.all (· < 128)
  · exact wpAny_pyIter_wide ha (key _ (.inr rfl))
  · exact wpAny_pyIter_ascii ha (key _ (.inl rfl))

/-! ### ''.join(xs) -/
theorem strsAre_of : ∀ {ys : List Str} {us : List Value}, Vals (ys.map V.str) us → StrsAre us ys
  | [], _, .nil => .nil
  | y :: ys, _, .cons r t => by
    obtain ⟨k, rfl⟩ := r
    exact .cons y k (strsAre_of t)
def rJoin (K : PySem.W.Frag) : V → List V → Hp → VK → Prop := fun x vs H Q => ∃ (y : Str) (a : Addr) (ys : List Str), x = .str y ∧ vs = [.ref a] ∧ SqL K H a (ys.map V.str) ∧ (ys.map (·.length)).sum + ys.length * y.length ≤ 16777216 ∧ Q (.str (Txt.join y ys)) H
theorem mt_join {X : Cx} : MtR X "str.join" (rJoin X.K) := by
  intro pins s σ H x xs v us Q I rx rs h
  obtain ⟨y, a, ys, rfl, rfl, hq, hz, q⟩ := h
  obtain ⟨u, rfl, ru⟩ := vals1 rs
  cases ru
  obtain ⟨t, rfl⟩ := rx
  obtain ⟨its, rv, p, _⟩ := I.list hq
  exact join_list p.isList (by simpa using strsAre_of rv) hz fun t' k => ⟨.str _, H, I.tok k, ⟨t', rfl⟩, q⟩
end L2

namespace L2
open PySem PySem.Spec PyProof.Rows
open Sem (wp)
/-! ### the law's own promise -/
def spLaw (K : PySem.W.Frag) : Sp := fun vs H Q _ => ∃ (a : Addr) (ns : List Int), vs = [.ref a] ∧ SqL K H a (ns.map V.int) ∧ ns.length ≤ 63 ∧ ∀ H', Q (.bl true) H'

/-! ### new addresses -/
theorem upd_none {H : Hp} {p q : Addr} {o : HO} (h : upd H p o q = none) : q ≠ p ∧ H q = none := by
  unfold upd at h
  by_cases e : q = p
  · rw [if_pos e] at h; cases h
  · rw [if_neg e] at h; exact ⟨e, h⟩
theorem Same.upd {H : Hp} {p : Addr} {o : HO} (h : H p = none) : Same H (L2.upd H p o) := fun b u e => by rw [upd_ne (ne_of_none e h)]; exact e
theorem Same.updT {H H1 : Hp} {p : Addr} {o : HO} (s : Same H H1) (h : H1 p = none) : Same H (L2.upd H1 p o) := s.trans (Same.upd h)
/-- an object that is younger than H is written -/
theorem Same.updN {H H1 : Hp} {p : Addr} {o : HO} (s : Same H H1) (h : H p = none) : Same H (L2.upd H1 p o) := fun b u e => by rw [upd_ne (ne_of_none e h)]; exact s b u e

/-! ### places -/
theorem ixN_lt {n : Nat} {i : Int} (h0 : 0 ≤ i) (h1 : i < n) : ixN n i = some i.toNat := by
  unfold ixN; rw [if_pos h0, if_pos h1]
theorem atI_lt {α : Type} {xs : List α} {i : Int} (d : α) (h0 : 0 ≤ i) (h1 : i < xs.length) : atI xs i = some (xs.getD i.toNat d) := by
  unfold atI
  rw [ixN_lt h0 h1]
  have : i.toNat < xs.length := by omega
  simp [List.getD, List.getElem?_eq_getElem this]

/-! ### what kind a thing is of -/
def tyD : PyData → String
  | .none => "NoneType" | .bool _ => "bool" | .int _ => "int" | .str _ => "str" | .list _ => "list" | .tuple _ => "tuple" | .dict _ => "dict"
def isT (t T : String) : Bool := decide (t = T) || (decide (t = "bool") && decide (T = "int"))
abbrev isD (d : PyData) (T : String) : Bool := isT (tyD d) T
theorem tyD_one (d : PyData) : tyD d = "NoneType" ∨ tyD d = "bool" ∨ tyD d = "int" ∨ tyD d = "str" ∨ tyD d = "list" ∨ tyD d = "tuple" ∨ tyD d = "dict" := by cases d <;> simp [tyD]
theorem Rep.ty {K : PySem.W.Frag} {H : Hp} : ∀ {d : PyData} {v : V}, Rep H d v → TyOf K H v (.type (tyD d))
  | .none, _, h => by cases (show _ = V.non from h); exact .non
  | .bool b, _, h => by cases (show _ = V.bl b from h); exact .bl b
  | .int i, _, h => by cases (show _ = V.int i from h); exact .int i
  | .str x, _, h => by cases (show _ = V.str x from h); exact .str x
  | .list _, _, ⟨a, vs, e, ha, _⟩ => by subst e; exact .lst ha
  | .tuple _, _, ⟨a, vs, e, ha, _⟩ => by subst e; exact .tup ha
  | .dict _, _, ⟨_, a, ep, e, ha⟩ => by subst e; exact .dX ha
theorem isi_of {K : PySem.W.Frag} {H : Hp} {d : PyData} {v : V} {T : String} {Q : VK} (r : Rep H d v) (hT : T = "str" ∨ T = "int" ∨ T = "bool" ∨ T = "tuple" ∨ T = "list" ∨ T = "dict") (q : Q (.bl (isD d T)) H) : rIsi K [v, .ty T] H Q := by
  refine ⟨v, _, T, isD d T, rfl, r.ty, ?_, q⟩
  have ht := tyD_one d
  show PySem.W.kitOne K (.type (tyD d)) (.type T) = some (isT (tyD d) T)
  generalize tyD d = t at ht
  rcases hT with rfl | rfl | rfl | rfl | rfl | rfl <;> rcases ht with rfl | rfl | rfl | rfl | rfl | rfl | rfl <;> exact kit_ty (by decide +kernel) (by decide +kernel)

/-! ### {} != {} -/
def rNeE : R2 := fun x y H Q => ∃ a b ep ep', x = .ref a ∧ y = .ref b ∧ H a = some (.dX ep []) ∧ H b = some (.dX ep' []) ∧ Q (.bl false) H
theorem dictOf_empty {P : Program} {w : World} {H : Hp} {h : Heap} {a : Addr} {ep : Nat} (ok : HOk P w H h) (e : H a = some (.dX ep [])) : (a == sysModules) = false ∧ h.DictOf (mixKind P w) a [] := by
  obtain ⟨_, hs, xs, rx, o, es, h1, h2, h3, h4, _⟩ := (show ObjOk P w H h a (.dX ep []) from ok a _ e)
  have hx : xs = [] := by cases rx; rfl
  subst hx
  have he : es = #[] := by simpa using h4
  subst he
  exact ⟨hs, o, #[], ep, h1, h2, h3, fun e he => by simp at he, .nil, List.nodup_nil⟩
theorem op_neE {X : Cx} (hu : X.A.units + 64 < cLine) : OpR X (compareOp .NotEq) rNeE := by
  intro pins s σ H x y v u Q I rx ry h
  obtain ⟨a, b, ep, ep', rfl, rfl, ha, hb, q⟩ := h
  cases rx; cases ry
  obtain ⟨sa, da⟩ := dictOf_empty I.hok ha
  obtain ⟨sb, db⟩ := dictOf_empty I.hok hb
  exact PySem.W.keq_ne (knd := mixKind X.prog X.w) sa sb da db (by omega) (fun _ => .nil) ⟨.bl false, H, I, rfl, q⟩

/-! ### one step each -/
section
variable {K : PySem.W.Frag} {H : Hp} {Q : VK} {p q : Addr} {xs ys : List V} {v : V} {i : Int} {ep : Nat} {kvs : List (KD × V)}
theorem ixS_of {z : Str} (hz : z.length ≤ sizeLine) (h0 : 0 ≤ i) (h1 : i < z.length) (q : Q (.str ⟨#[z.cps.toList.getD i.toNat 0]⟩) H) : rIxS (.str z) (.int i) H Q :=
  ⟨z, i, _, rfl, rfl, hz, atI_lt 0 h0 (by simpa [Str.length] using h1), q⟩
theorem ixL_of (h : H p = some (.lst xs)) (e : atI xs i = some v) (q : Q v H) : rIxL K (.ref p) (.int i) H Q := ⟨p, xs, i, v, rfl, rfl, SqL.of h, e, q⟩
theorem ixLs_of (h : SqL K H p xs) (e : atI xs i = some v) (q : Q v H) : rIxL K (.ref p) (.int i) H Q := ⟨p, xs, i, v, rfl, rfl, h, e, q⟩
theorem ixT_of (h : H p = some (.tup xs)) (e : atI xs i = some v) (q : Q v H) : rIxT K (.ref p) (.int i) H Q := ⟨p, xs, i, v, rfl, rfl, SqT.of h, e, q⟩
theorem append_of (h : H p = some (.lst xs)) (hz : xs.length < sizeLine) (q : Q .non (upd H p (.lst (xs ++ [v])))) : rAppend (.ref p) [v] H Q := ⟨p, xs, v, rfl, rfl, h, hz, q⟩
theorem clear_of (h : H p = some (.lst xs)) (q : Q .non (upd H p (.lst []))) : rClear (.ref p) [] H Q := ⟨p, xs, rfl, rfl, h, q⟩
theorem setL_of {Q : Hp → Prop} (h : H p = some (.lst xs)) (h0 : 0 ≤ i) (h1 : i < xs.length) (q : Q (upd H p (.lst (xs.set i.toNat v)))) : rSetL (.ref p) (.int i) v H Q := ⟨p, xs, i, _, rfl, rfl, h, ixN_lt h0 h1, q⟩
theorem join_of {y : Str} {ts : List Str} (h : H p = some (.lst (ts.map V.str))) (hz : (ts.map (·.length)).sum + ts.length * y.length ≤ 16777216) (q : Q (.str (Txt.join y ts)) H) : rJoin K (.str y) [.ref p] H Q :=
  ⟨y, p, ts, rfl, rfl, SqL.of h, hz, q⟩
theorem cat_of (h : H p = some (.lst xs)) (h' : H q = some (.lst ys)) (hz : xs.length + ys.length ≤ sizeLine) (k : ∀ r, H r = none → Q (.ref r) (upd H r (.lst (xs ++ ys)))) : rCat (.ref p) (.ref q) H Q := ⟨p, q, xs, ys, rfl, rfl, h, h', hz, k⟩
theorem ty_str {x : Str} : tyV K "str" (.str x) H := rfl
theorem ty_lst (h : H p = some (.lst xs)) : tyV K "list" (.ref p) H := .inl ⟨rfl, xs, SqL.of h⟩
theorem ty_dct (h : H p = some (.dX ep kvs)) : tyV K "dict" (.ref p) H := .inr (.inr (.inr (.inl ⟨rfl, ep, kvs, h⟩)))
end
theorem sizeLine_big : 16777216 ≤ sizeLine := by decide

section
variable {X : Cx}
theorem mr_append : MtR X "list.append" rAppend := mt_append
theorem mr_extend : MtR X "list.extend" rExtend := mt_extend
theorem mr_pop : MtR X "list.pop" rPop := mt_pop
theorem mr_popAt : MtR X "list.pop" rPopAt := mt_popAt
theorem mr_clear : MtR X "list.clear" rClear := mt_clear
end
theorem sz_0 : (0 ≤ sizeLine) = True := eq_true (by decide)
theorem sz_1 : (1 ≤ sizeLine) = True := eq_true (by decide)
theorem sz_2 : (2 ≤ sizeLine) = True := eq_true (by decide)
theorem sz_3 : (3 ≤ sizeLine) = True := eq_true (by decide)
theorem sz_4 : (4 ≤ sizeLine) = True := eq_true (by decide)
theorem sz_5 : (5 ≤ sizeLine) = True := eq_true (by decide)
theorem sz_6 : (6 ≤ sizeLine) = True := eq_true (by decide)
theorem sz_7 : (7 ≤ sizeLine) = True := eq_true (by decide)
theorem sz_8 : (8 ≤ sizeLine) = True := eq_true (by decide)
theorem sz_9 : (9 ≤ sizeLine) = True := eq_true (by decide)
theorem sz_10 : (10 ≤ sizeLine) = True := eq_true (by decide)
theorem sz_11 : (11 ≤ sizeLine) = True := eq_true (by decide)
theorem sz_12 : (12 ≤ sizeLine) = True := eq_true (by decide)
theorem sz_13 : (13 ≤ sizeLine) = True := eq_true (by decide)
theorem sz_14 : (14 ≤ sizeLine) = True := eq_true (by decide)
theorem na_10 : (Int.natAbs 10 < 18446744073709551616) = True := eq_true (by decide)
/-! ### texts joined -/
theorem fold_all (p : Nat → Bool) (g : Array Nat) (hg : g.all p = true) : ∀ (ys : List Str) (acc : Array Nat), acc.all p = true → (∀ y ∈ ys, y.cps.all p = true) → (ys.foldl (fun acc y => acc ++ g ++ y.cps) acc).all p = true
  | [], _, h, _ => h
  | y :: ys, acc, h, hy => by
    rw [List.foldl_cons]
    refine fold_all p g hg ys _ ?_ fun z hz => hy z (List.mem_cons_of_mem _ hz)
    rw [Array.all_append, Array.all_append, h, hg, hy y List.mem_cons_self]
    rfl
theorem join_all (p : Nat → Bool) {g : Str} {ys : List Str} (hg : g.cps.all p = true) (h : ∀ y ∈ ys, y.cps.all p = true) : (Txt.join g ys).cps.all p = true := by
  unfold Txt.join Builtin.Str.glued
  cases ys with
  | nil => show (#[] : Array Nat).all p = true; simp
  | cons y ys => exact fold_all p g.cps hg ys _ (h y List.mem_cons_self) fun z hz => h z (List.mem_cons_of_mem _ hz)
theorem join_len (g : Str) (ys : List Str) : (Txt.join g ys).length = (ys.map (·.length)).sum + (ys.length - 1) * g.length := size_glued g ys
/-! ### the same data twice -/
theorem neD_same {H : Hp} {d : PyData} {x y : V} {Q : VK} (hx : Rep H d x) (hy : Rep H d y) (hs : Shp d) (q : Q (.bl false) H) : rEqD true x y H Q :=
  ⟨d, d, hx, hy, hs, hs, by rw [SeqAt.eqv_refl d (SeqAt.canLay_of_shaped hs)]; exact q⟩
theorem eqD_same {H : Hp} {d : PyData} {x y : V} {Q : VK} (hx : Rep H d x) (hy : Rep H d y) (hs : Shp d) (q : Q (.bl true) H) : rEqD false x y H Q :=
  ⟨d, d, hx, hy, hs, hs, by rw [SeqAt.eqv_refl d (SeqAt.canLay_of_shaped hs)]; exact q⟩
theorem cutV_map {α : Type} (f : α → V) (xs : List α) (lo hi : Option Int) : cutV (xs.map f) lo hi = ((xs.drop (HT.sIx xs.length 0 lo)).take (HT.sIx xs.length xs.length hi - HT.sIx xs.length 0 lo)).map f := by
  unfold cutV; rw [List.length_map, List.map_take, List.map_drop]

theorem gCons_cons {t : TG} {u : TGs} {v : V} {r : List V} {σ : St} {H : Hp} {Q : St → Hp → Prop} : gCons t u (v :: r) σ H Q = t v σ H fun σ' H' => u r σ' H' Q :=
  propext ⟨fun ⟨v', r', e, h⟩ => by cases e; exact h, fun h => ⟨v, r, rfl, h⟩⟩
theorem gNil_nil {σ : St} {H : Hp} {Q : St → Hp → Prop} : gNil [] σ H Q = Q σ H := propext ⟨fun h => h.2, fun h => ⟨rfl, h⟩⟩

/-! ### the rules with the written part named (so that a comprehension's block does not hang on its entry) -/
section
variable {X : Cx} {K : PySem.W.Frag}
theorem ix_listk (hK : X.K = K) : IxR X (rIxL K) := hK ▸ ix_list
theorem ix_tupk (hK : X.K = K) : IxR X (rIxT K) := hK ▸ ix_tup
theorem sl_listk (hK : X.K = K) : SlR X (rSlL K) := hK ▸ sl_list
theorem sl_tupk (hK : X.K = K) : SlR X (rSlT K) := hK ▸ sl_tup
def rLenQ (K : PySem.W.Frag) : List V → Hp → VK → Prop := fun xs H Q => ∃ p ys, xs = [.ref p] ∧ (SqL K H p ys ∨ SqT K H p ys) ∧ Q (.int ys.length) H
theorem call_len_seqk (hK : X.K = K) : CallR X (.builtin "len") (rLenQ K) := hK ▸ call_len_seq
def rLenS : List V → Hp → VK → Prop := fun xs H Q => ∃ z, xs = [.str z] ∧ z.length ≤ sizeLine ∧ Q (.int z.length) H
def rListOf (K : PySem.W.Frag) : List V → Hp → VK → Prop := fun xs H Q => ∃ p ys, xs = [.ref p] ∧ (SqL K H p ys ∨ SqT K H p ys) ∧ ∀ l, H l = none → Q (.ref l) (upd H l (.lst ys))
theorem call_list_ofk (hK : X.K = K) : CallR X (.type "list") (rListOf K) := hK ▸ call_list_of
def rTupOf (K : PySem.W.Frag) : List V → Hp → VK → Prop := fun xs H Q => ∃ p ys, xs = [.ref p] ∧ ((SqL K H p ys ∧ ∀ l, H l = none → Q (.ref l) (upd H l (.tup ys))) ∨ (SqT K H p ys ∧ Q (.ref p) H))
theorem call_tuple_ofk (hK : X.K = K) : CallR X (.type "tuple") (rTupOf K) := hK ▸ call_tuple_of
theorem call_isik (hK : X.K = K) : CallR X (.builtin "isinstance") (rIsi K) := hK ▸ call_isi
theorem call_sumk (hK : X.K = K) (hc : X.calm = true) : CallR X (.builtin "sum") (rSum K) := hK ▸ call_sum hc
theorem call_allk (hK : X.K = K) (hc : X.calm = true) : CallR X (.builtin "all") (rAllB K false) := hK ▸ call_all hc
theorem call_anyk (hK : X.K = K) (hc : X.calm = true) : CallR X (.builtin "any") (rAllB K true) := hK ▸ call_any hc
theorem mt_joink (hK : X.K = K) : MtR X "str.join" (rJoin K) := hK ▸ mt_join
theorem pi_listk {tg l : Expr} {tl : TE} (hK : X.K = K) (hl : PE X l tl) : PI X tg l (iList K tl) := hK ▸ pi_list hl
theorem pi_tupk {tg l : Expr} {tl : TE} (hK : X.K = K) (hl : PE X l tl) : PI X tg l (iTup K tl) := hK ▸ pi_tup hl
theorem pg_tupk {es : List Expr} {k : Nat} {pos : Pos} {t : TGs} {n : Nat} (hK : X.K = K) (hc : X.calm = true) (h : PGs X es t)
    (hn : (assignEach es X.env).length = n := by rfl) (hst : (assignEach es X.env).findIdx? (·.1) = none := by rfl) : PG X (.Tuple es k pos) (gTup K n t) := hK ▸ pg_tup hc h hn hst
theorem pt_truthk {a : Expr} {ta : TE} (hK : X.K = K) (ha : PE X a ta) (he : ∀ whole, isTrue a X.env whole = (do let v ← whole; standAt a.pos; holding [v] (truthy v))) :
    PT X a (fun σ H Q => ta σ H fun x H' => ∃ k, TruV K x H' k ∧ Q k H') := hK ▸ pt_truth ha he
variable {e : Expr} {es : List Expr} {to : TE} {t : TA} {apos cpos : Pos} {id T : String} {o : Expr} {name : Str} {r' : V → List V → Hp → VK → Prop}
theorem pe_mk (hK : X.K = K) (pa : PlainAttrs T) (slot : Slot T name id) (hty : typeOf (.builtin id) = pure (.type "method_descriptor")) (hm : MtR X id r') (ho : PE X o to) (ha : PA X (e :: es) t)
    (hbase : attributeBase o name X.env (eval o X.env) = eval o X.env := by rfl)
    (hfew : ((backTo cpos (starEach (e :: es) X.env)).all (fun x => !x.1) && (backToKw cpos (keywordEach [] X.env)).all (fun x => x.1.isSome)
      && decide ((e :: es).length + ([] : List Keyword).length + (if ([] : List Keyword).isEmpty then 0 else 1) < 30)) = true := by rfl)
    (hline : (apos.endLine == cpos.line) = true := by rfl) (h1 : isStar e = false := by rfl) (h2 : es.all (fun x => !isStar x) = true := by rfl) :
    PE X (.Call (.Attribute o name apos) (e :: es) [] cpos) (tBM K T r' to t) := hK ▸ pe_m pa slot hty hm ho ha hbase hfew hline h1 h2
theorem pe_m0k (hK : X.K = K) (pa : PlainAttrs T) (slot : Slot T name id) (hty : typeOf (.builtin id) = pure (.type "method_descriptor")) (hm : MtR X id r') (ho : PE X o to)
    (hbase : attributeBase o name X.env (eval o X.env) = eval o X.env := by rfl) (hline : (apos.endLine == cpos.line) = true := by rfl) : PE X (.Call (.Attribute o name apos) [] [] cpos) (tBM0 K T r' to) := hK ▸ pe_bm0 pa slot hty hm ho hbase hline
end

/-! ### loops and comprehensions behind their iterator, as words of their own -/
def forW (J : It) (g : TG) (tb : TS) (D : Ends) (σ : St) (H : Hp) : Prop := ∃ W : Nat → Nat → St → Hp → Prop, (∃ m, W 0 m σ H) ∧ ∀ i m σ H, W i m σ H →
  (J.stop i H ∧ D.nx σ H) ∨ (J.go i H ∧ ∃ N : St → Hp → Prop, (∀ σ' H', N σ' H' → ∃ m', m' < m ∧ W (i + 1) m' σ' H') ∧ ∀ x H', J.yld i H x H' → g x σ H' fun σ2 H2 => tb { D with nx := N, ct := N, bk := D.nx } σ2 H2)
def compW (J : It) (g : TG) (tt : TT) (te : TE) (Q : VK) (σ : St) (H : Hp) : Prop := ∃ W : Nat → Nat → St → List V → Hp → Prop, (∃ m, W 0 m σ [] H) ∧ ∀ i m σ1 acc H2, W i m σ1 acc H2 →
  (J.stop i H2 ∧ ∀ p, H2 p = none → Q (.ref p) (upd H2 p (.lst acc))) ∨
  (J.go i H2 ∧ acc.length < sizeLine ∧ ∃ Nn : St → List V → Hp → Prop, (∀ σ' acc' H', Nn σ' acc' H' → ∃ m', m' < m ∧ W (i + 1) m' σ' acc' H') ∧
    ∀ x H3, J.yld i H2 x H3 → g x σ1 H3 fun σ2 H4 => tt σ2 H4 fun b H5 => if b = true then te σ2 H5 fun v H6 => Nn σ2 (acc ++ [v]) H6 else Nn σ2 acc H5)
theorem tFor_w {wi : TI} {g : TG} {tb : TS} {D : Ends} {σ : St} {H : Hp} : tFor wi g tb D σ H = wi σ H fun J H1 => forW J g tb D σ H1 := rfl
theorem tComp_w {imp : List (Option Nat)} {wi : TI} {g : TG} {tt : TT} {te : TE} {σ : St} {H : Hp} {Q : VK} : tComp imp wi g tt te σ H Q = wi σ H fun J H1 => compW J g tt te Q (pull imp σ) H1 := rfl
theorem for_w {J : It} {n : Nat} {OK : Nat → Hp → Prop} {Y : Nat → Hp → V → Hp → Prop} (y : Yields J n OK Y) {g : TG} {tb : TS} {D : Ends} {σ : St} {H : Hp} (Pv : Nat → St → Hp → Prop) (h0 : Pv 0 σ H) (hok : ∀ i σ H, i ≤ n → Pv i σ H → OK i H)
    (hs : ∀ i σ H x H', i < n → Pv i σ H → Y i H x H' → g x σ H' fun σ2 H2 => tb { D with nx := Pv (i + 1), ct := Pv (i + 1), bk := D.nx } σ2 H2) (hd : ∀ σ H, Pv n σ H → D.nx σ H) : forW J g tb D σ H := for_it y Pv h0 hok hs hd
theorem comp_w {J : It} {n : Nat} {OK : Nat → Hp → Prop} {Y : Nat → Hp → V → Hp → Prop} (y : Yields J n OK Y) {g : TG} {tt : TT} {te : TE} {Q : VK} {σ : St} {H : Hp} (Pv : Nat → St → List V → Hp → Prop) (h0 : Pv 0 σ [] H)
    (hok : ∀ i σ acc H, i ≤ n → Pv i σ acc H → OK i H ∧ (i < n → acc.length < sizeLine))
    (hs : ∀ i σ acc H x H', i < n → Pv i σ acc H → Y i H x H' → g x σ H' fun σ2 H4 => tt σ2 H4 fun b H5 => if b = true then te σ2 H5 fun v H6 => Pv (i + 1) σ2 (acc ++ [v]) H6 else Pv (i + 1) σ2 acc H5)
    (hd : ∀ σ acc H, Pv n σ acc H → ∀ p, H p = none → Q (.ref p) (upd H p (.lst acc))) : compW J g tt te Q σ H := comp_it y Pv h0 hok hs hd
end L2

/-! sheets, apart from any program: lists of pairs with whole numbers -/
namespace Sh
variable {κ : Type} [DecidableEq κ]
def look (s : List (κ × Int)) (k : κ) : Option Int := (s.find? fun p => decide (p.1 = k)).map (·.2)
def get (s : List (κ × Int)) (k : κ) : Int := (look s k).getD 0
def put (s : List (κ × Int)) (k : κ) (n : Int) : List (κ × Int) :=
  if (s.any fun p => decide (p.1 = k)) = true then s.map (fun p => if p.1 = k then (p.1, n) else p) else s ++ [(k, n)]
def sumOf (ps : List (κ × Int)) (k : κ) : Int := ((ps.filter fun p => decide (p.1 = k)).map (·.2)).sum
def step (s : List (κ × Int)) (p : κ × Int) : List (κ × Int) := put s p.1 (get s p.1 + p.2)
def acc (ps : List (κ × Int)) : List (κ × Int) := ps.foldl step []
def sheet (ps : List (κ × Int)) : List (κ × Int) := (acc ps).filter fun p => decide (p.2 ≠ 0)

theorem look_nil (k : κ) : look ([] : List (κ × Int)) k = none := rfl
theorem look_cons (p : κ × Int) (r : List (κ × Int)) (k : κ) : look (p :: r) k = if p.1 = k then some p.2 else look r k := by
  unfold look; rw [List.find?_cons]; by_cases h : p.1 = k <;> simp [h]
theorem look_none {s : List (κ × Int)} {k : κ} : look s k = none ↔ k ∉ s.map (·.1) := by
  induction s with
  | nil => simp [look_nil]
  | cons p r ih =>
    rw [look_cons]
    by_cases h : p.1 = k
    · simp [h]
    · have h' : ¬ k = p.1 := fun z => h z.symm
      simp only [if_neg h, ih, List.map_cons, List.mem_cons, h', false_or]
theorem look_mem {s : List (κ × Int)} (nd : (s.map (·.1)).Nodup) {k : κ} {n : Int} (h : (k, n) ∈ s) : look s k = some n := by
  induction s with
  | nil => cases h
  | cons p r ih =>
    rw [look_cons]
    simp only [List.map_cons, List.nodup_cons] at nd
    rcases List.mem_cons.mp h with e | h
    · subst e; simp
    · rw [if_neg, ih nd.2 h]
      intro e; exact nd.1 (e ▸ List.mem_map.mpr ⟨(k, n), h, rfl⟩)
theorem mem_look {s : List (κ × Int)} {k : κ} {n : Int} (h : look s k = some n) : (k, n) ∈ s := by
  induction s with
  | nil => cases h
  | cons p r ih =>
    rw [look_cons] at h
    by_cases e : p.1 = k
    · rw [if_pos e] at h; cases h; subst e; exact List.mem_cons_self
    · rw [if_neg e] at h; exact List.mem_cons_of_mem _ (ih h)
theorem any_iff (s : List (κ × Int)) (k : κ) : (s.any fun p => decide (p.1 = k)) = true ↔ k ∈ s.map (·.1) := by
  simp [List.any_eq_true]
theorem look_map (s : List (κ × Int)) (k j : κ) (n : Int) : look (s.map fun p => if p.1 = k then (p.1, n) else p) j = if j = k then (look s j).map fun _ => n else look s j := by
  induction s with
  | nil => simp [look_nil]
  | cons p r ih =>
    rw [List.map_cons, look_cons, ih, look_cons]
    by_cases h : p.1 = k <;> by_cases e : p.1 = j <;> simp [h, e] <;> grind
theorem look_append (s t : List (κ × Int)) (k : κ) : look (s ++ t) k = (look s k).or (look t k) := by
  induction s with
  | nil => simp [look_nil]
  | cons p r ih => rw [List.cons_append, look_cons, look_cons, ih]; by_cases h : p.1 = k <;> simp [h]
theorem look_put (s : List (κ × Int)) (k j : κ) (n : Int) : look (put s k n) j = if j = k then some n else look s j := by
  unfold put
  by_cases h : (s.any fun p => decide (p.1 = k)) = true
  · rw [if_pos h, look_map]
    by_cases e : j = k
    · subst e
      rw [if_pos rfl, if_pos rfl]
      cases q : look s j with
      | none => exact absurd ((any_iff s j).mp h) (look_none.mp q)
      | some x => rfl
    · rw [if_neg e, if_neg e]
  · rw [if_neg h, look_append, look_cons, look_nil]
    have hn : k ∉ s.map (·.1) := fun z => h ((any_iff s k).mpr z)
    by_cases e : j = k
    · subst e; rw [look_none.mpr hn]; simp
    · have e' : ¬ k = j := fun z => e z.symm
      simp [e, e']
theorem get_put (s : List (κ × Int)) (k j : κ) (n : Int) : get (put s k n) j = if j = k then n else get s j := by
  unfold get; rw [look_put]; split <;> rfl
theorem keys_put (s : List (κ × Int)) (k : κ) (n : Int) : (put s k n).map (·.1) = if k ∈ s.map (·.1) then s.map (·.1) else s.map (·.1) ++ [k] := by
  unfold put
  by_cases h : k ∈ s.map (·.1)
  · rw [if_pos ((any_iff s k).mpr h), if_pos h, List.map_map]
    apply List.map_congr_left
    intro p _
    simp only [Function.comp]
    split <;> rfl
  · rw [if_neg (fun z => h ((any_iff s k).mp z)), if_neg h, List.map_append]
    rfl
theorem nodup_put {s : List (κ × Int)} (nd : (s.map (·.1)).Nodup) (k : κ) (n : Int) : ((put s k n).map (·.1)).Nodup := by
  rw [keys_put]
  split
  · exact nd
  · rename_i h
    rw [List.nodup_append]
    exact ⟨nd, List.nodup_cons.mpr ⟨List.not_mem_nil, List.nodup_nil⟩, fun a ha b hb => by
      rw [List.mem_singleton] at hb; subst hb; intro e; subst e; exact h ha⟩
theorem mem_keys_put {s : List (κ × Int)} {k j : κ} {n : Int} (h : j ∈ (put s k n).map (·.1)) : j = k ∨ j ∈ s.map (·.1) := by
  rw [keys_put] at h
  split at h
  · exact .inr h
  · rcases List.mem_append.mp h with h | h
    · exact .inr h
    · exact .inl (by simpa using h)
theorem length_put (s : List (κ × Int)) (k : κ) (n : Int) : (put s k n).length ≤ s.length + 1 := by
  unfold put; split <;> simp
theorem foldl_get (ps : List (κ × Int)) : ∀ (s : List (κ × Int)) (k : κ), get (ps.foldl step s) k = get s k + sumOf ps k := by
  induction ps with
  | nil => intro s k; simp [sumOf]
  | cons p r ih =>
    intro s k
    rw [List.foldl_cons, ih]
    unfold step
    rw [get_put]
    unfold sumOf
    rw [List.filter_cons]
    by_cases e : k = p.1
    · subst e; simp; omega
    · have e' : ¬ p.1 = k := fun z => e z.symm
      simp [e, e']
theorem foldl_nodup (ps : List (κ × Int)) : ∀ s : List (κ × Int), (s.map (·.1)).Nodup → ((ps.foldl step s).map (·.1)).Nodup := by
  induction ps with
  | nil => intro s h; exact h
  | cons p r ih => intro s h; exact ih _ (nodup_put h _ _)
theorem foldl_keys (ps : List (κ × Int)) : ∀ (s : List (κ × Int)) (k : κ), k ∈ (ps.foldl step s).map (·.1) → k ∈ s.map (·.1) ∨ k ∈ ps.map (·.1) := by
  induction ps with
  | nil => intro s k h; exact .inl h
  | cons p r ih =>
    intro s k h
    rcases ih _ k h with h | h
    · rcases mem_keys_put h with e | h
      · exact .inr (by simp [e])
      · exact .inl h
    · exact .inr (List.mem_cons_of_mem _ h)
theorem foldl_length (ps : List (κ × Int)) : ∀ s : List (κ × Int), (ps.foldl step s).length ≤ s.length + ps.length := by
  induction ps with
  | nil => intro s; simp
  | cons p r ih =>
    intro s
    rw [List.foldl_cons]
    have h1 := ih (step s p)
    have h2 : (step s p).length ≤ s.length + 1 := length_put s p.1 _
    rw [List.length_cons]
    omega
theorem get_acc (ps : List (κ × Int)) (k : κ) : get (acc ps) k = sumOf ps k := by
  have h := foldl_get ps [] k
  have h0 : get ([] : List (κ × Int)) k = 0 := rfl
  rw [h0, Int.zero_add] at h
  exact h
theorem nodup_acc (ps : List (κ × Int)) : ((acc ps).map (·.1)).Nodup := foldl_nodup ps [] List.nodup_nil
theorem keys_acc {ps : List (κ × Int)} {k : κ} (h : k ∈ (acc ps).map (·.1)) : k ∈ ps.map (·.1) := by
  rcases foldl_keys ps [] k h with h | h
  · cases h
  · exact h
theorem length_acc (ps : List (κ × Int)) : (acc ps).length ≤ ps.length := by have h := foldl_length ps []; simp only [List.length_nil, Nat.zero_add] at h; exact h
theorem acc_take_succ {ps : List (κ × Int)} {i : Nat} {p : κ × Int} (h : ps[i]? = some p) : acc (ps.take (i + 1)) = step (acc (ps.take i)) p := by
  unfold acc; rw [List.take_add_one, h, List.foldl_append]; rfl
theorem look_filter {s : List (κ × Int)} (nd : (s.map (·.1)).Nodup) (k : κ) : look (s.filter fun p => decide (p.2 ≠ 0)) k = (look s k).filter fun n => decide (n ≠ 0) := by
  induction s with
  | nil => rfl
  | cons p r ih =>
    simp only [List.map_cons, List.nodup_cons] at nd
    rw [List.filter_cons, look_cons]
    by_cases z : p.2 = 0
    · have zz : ¬ decide (p.2 ≠ 0) = true := by simp [z]
      rw [if_neg zz, ih nd.2]
      by_cases e : p.1 = k
      · rw [if_pos e, look_none.mpr (e ▸ nd.1)]; simp [Option.filter, z]
      · rw [if_neg e]
    · have zz : decide (p.2 ≠ 0) = true := by simp [z]
      rw [if_pos zz, look_cons, ih nd.2]
      by_cases e : p.1 = k
      · rw [if_pos e, if_pos e]; simp [Option.filter, z]
      · rw [if_neg e, if_neg e]
theorem get_filter {s : List (κ × Int)} (nd : (s.map (·.1)).Nodup) (k : κ) : get (s.filter fun p => decide (p.2 ≠ 0)) k = get s k := by
  unfold get; rw [look_filter nd]
  cases look s k with
  | none => rfl
  | some n => by_cases h : n = 0 <;> simp [Option.filter, h]
theorem get_sheet (ps : List (κ × Int)) (k : κ) : get (sheet ps) k = sumOf ps k := by
  unfold sheet; rw [get_filter (nodup_acc ps), get_acc]
theorem nodup_sheet (ps : List (κ × Int)) : ((sheet ps).map (·.1)).Nodup := (List.filter_sublist.map _).nodup (nodup_acc ps)
theorem mem_sheet {ps : List (κ × Int)} {p : κ × Int} (h : p ∈ sheet ps) : p.1 ∈ ps.map (·.1) ∧ p.2 ≠ 0 := by
  obtain ⟨h1, h2⟩ := List.mem_filter.mp h
  exact ⟨keys_acc (List.mem_map.mpr ⟨p, h1, rfl⟩), by simpa using h2⟩
theorem length_sheet (ps : List (κ × Int)) : (sheet ps).length ≤ ps.length := Nat.le_trans (List.length_filter_le _ _) (length_acc ps)
end Sh

namespace L2
open PySem PySem.Spec PyProof.Rows
open Sem (wp)
/-! sheets in the heap -/
abbrev iv (s : List (KD × Int)) : List (KD × V) := s.map fun p => (p.1, V.int p.2)
theorem valV_iv (s : List (KD × Int)) (k : KD) : valV (iv s) k = (Sh.look s k).map V.int := by
  induction s with
  | nil => rfl
  | cons p r ih =>
    rw [Sh.look_cons]
    by_cases e : p.1 = k
    · rw [if_pos e]; exact valV_pos (p := (p.1, V.int p.2)) e
    · rw [if_neg e, ← ih]; exact valV_neg (p := (p.1, V.int p.2)) e
theorem getD_iv (s : List (KD × Int)) (k : KD) : (valV (iv s) k).getD (V.int 0) = V.int (Sh.get s k) := by
  rw [valV_iv]; unfold Sh.get; cases Sh.look s k <;> rfl
theorem putK_iv (s : List (KD × Int)) (k : KD) (n : Int) : putK (iv s) k (V.int n) = iv (Sh.put s k n) := by
  unfold putK Sh.put
  have e : ((iv s).any fun kv => decide (kv.1 = k)) = s.any fun p => decide (p.1 = k) := by rw [List.any_map]; rfl
  rw [e]
  split
  · unfold iv
    rw [List.map_map, List.map_map]
    apply List.map_congr_left
    intro p _
    simp only [Function.comp]
    split <;> rfl
  · unfold iv; rw [List.map_append]; rfl

section
variable {K : PySem.W.Frag} {H : Hp} {Q : VK} {p v : Addr} {k : KD} {y z : V} {ep : Nat} {s : List (KD × Int)} {kvs : List (KD × V)}
theorem get2_of (h : H p = some (.dX ep kvs)) (hk : KeyV H k y) (q : Q ((valV kvs k).getD z) H) : rXGet2 (.ref p) [y, z] H Q := ⟨p, ep, kvs, k, y, z, rfl, rfl, h, hk, q⟩
theorem get2I_of (h : H p = some (.dX ep (iv s))) (hk : KeyV H k y) (q : Q (.int (Sh.get s k)) H) : rXGet2 (.ref p) [y, .int 0] H Q := get2_of h hk (by rw [getD_iv]; exact q)
theorem putI_of {Q : Hp → Prop} {n : Int} (h : H p = some (.dX ep (iv s))) (hk : KeyV H k y) (hz : s.length < sizeLine) (q : ∀ ep', Q (upd H p (.dX ep' (iv (Sh.put s k n))))) : rXPut (.ref p) y (.int n) H Q :=
  ⟨p, ep, iv s, k, rfl, h, hk, by rw [List.length_map]; exact hz, by rw [putK_iv]; exact q _⟩
theorem put_of {Q : Hp → Prop} (h : H p = some (.dX ep kvs)) (hk : KeyV H k y) (hz : kvs.length < sizeLine) (q : ∀ ep', Q (upd H p (.dX ep' (putK kvs k z)))) : rXPut (.ref p) y z H Q := ⟨p, ep, kvs, k, rfl, h, hk, hz, q _⟩
theorem xget_of (h : H p = some (.dX ep kvs)) (hk : KeyV H k y) (e : valV kvs k = some z) (q : Q z H) : rXGet (.ref p) y H Q := ⟨p, ep, kvs, k, z, rfl, h, hk, e, q⟩
theorem xin_of (h : H p = some (.dX ep kvs)) (hk : KeyV H k y) (q : Q (.bl (valV kvs k).isSome) H) : rXIn false y (.ref p) H Q := ⟨p, ep, kvs, k, rfl, h, hk, by simpa using q⟩
theorem xnotin_of (h : H p = some (.dX ep kvs)) (hk : KeyV H k y) (q : Q (.bl (!(valV kvs k).isSome)) H) : rXIn true y (.ref p) H Q := ⟨p, ep, kvs, k, rfl, h, hk, by simpa using q⟩
theorem xclear_of (h : H p = some (.dX ep kvs)) (q : ∀ ep', Q .non (upd H p (.dX ep' []))) : rXClear (.ref p) [] H Q := ⟨p, ep, kvs, rfl, rfl, h, q _⟩
theorem items_of (h : H p = some (.dX ep kvs)) (q : ∀ r, H r = none → Q (.ref r) (upd H r (viewO r p))) : rItems (.ref p) [] H Q := ⟨p, ep, kvs, rfl, rfl, h, q⟩
theorem listView_of (hv : H v = some (viewO v p)) (h : H p = some (.dX ep kvs)) (q : ∀ l vs H', H l = none → Same H H' → H' l = some (.lst vs) → PairsAt H' kvs vs → Q (.ref l) H') : rListView [.ref v] H Q := ⟨v, p, ep, kvs, rfl, hv, h, q⟩
end
theorem keyV_two {H : Hp} {t : Addr} {a b : Str} (h : H t = some (.tup [.str a, .str b])) : KeyV H (.inr [.inr a, .inr b]) (.ref t) := ⟨t, rfl, h⟩
/-- a dict's pairs, as the loop takes them -/
theorem y_items (a : Addr) (ep : Nat) (kvs : List (KD × V)) : Yields (Itd a ep kvs.length) kvs.length (fun _ H => H a = some (.dX ep kvs))
    (fun i H x H' => ∃ p k v y, x = .ref p ∧ H p = none ∧ kvs[i]? = some (k, v) ∧ KeyV H k y ∧ H' = upd H p (.tup [y, v])) where
  go := fun i H h hq => ⟨kvs, kvs[i], hq, rfl, List.getElem?_eq_getElem h⟩
  yld := fun i H x H' h hq z => by
    obtain ⟨p, e, hp, kvs', k, v, y, ha, hi, hk, e2⟩ := z
    rw [hq] at ha
    cases ha
    exact ⟨p, k, v, y, e, hp, hi, hk, e2⟩
  stop := fun H hq => ⟨⟨kvs, hq, rfl⟩, Nat.le_refl _⟩
theorem nodup_ix' {α : Type} {l : List α} (h : l.Nodup) {i j : Nat} {x : α} (a : l[i]? = some x) (b : l[j]? = some x) : i = j := by
  obtain ⟨hi, ei⟩ := List.getElem?_eq_some_iff.mp a
  obtain ⟨hj, ej⟩ := List.getElem?_eq_some_iff.mp b
  exact (List.getElem_inj h).mp (ei.trans ej.symm)
/-! what is taken away -/
def negP (p : KD × Int) : KD × Int := (p.1, -p.2)
theorem PairsAt.append {H : Hp} {a b : List (KD × V)} {us vs : List V} (h : PairsAt H a us) (h' : PairsAt H b vs) : PairsAt H (a ++ b) (us ++ vs) := by
  unfold PairsAt at *
  induction h with
  | nil => exact h'
  | cons x _ ih => exact .cons x ih
theorem PairsAt.same {H H' : Hp} {kvs : List (KD × V)} {vs : List V} (h : PairsAt H kvs vs) (s : Same H H') : PairsAt H' kvs vs := h.mono fun b xs e => s b _ e
theorem PairsAt.len {H : Hp} {kvs : List (KD × V)} {vs : List V} (h : PairsAt H kvs vs) : kvs.length = vs.length := Paired.length h
theorem iv_append (a b : List (KD × Int)) : iv (a ++ b) = iv a ++ iv b := List.map_append
theorem KeyV.same {H H' : Hp} {k : KD} {y : V} (h : KeyV H k y) (s : Same H H') : KeyV H' k y := h.mono fun b xs e => s b _ e
/-! legs and deals in the heap -/
abbrev Leg := Str × Str × Str × Int
abbrev shelf (a b : Str) : KD := .inr [.inr a, .inr b]
def gP (l : Leg) : KD × Int := (shelf l.1 l.2.2.1, l.2.2.2)
def bP (l : Leg) : KD × Int := (shelf l.2.1 l.2.2.1, l.2.2.2)
def LegAt (H : Hp) (l : Leg) (v : V) : Prop := ∃ t, v = .ref t ∧ H t = some (.tup [.str l.1, .str l.2.1, .str l.2.2.1, .int l.2.2.2])
def LegsAt (H : Hp) : List Leg → List V → Prop := Paired (LegAt H)
theorem LegsAt.same {H H' : Hp} {ls : List Leg} {vs : List V} (h : LegsAt H ls vs) (s : Same H H') : LegsAt H' ls vs := Paired.mapP h fun _ _ ⟨t, e, ht⟩ => ⟨t, e, s _ _ ht⟩
theorem LegsAt.len {H : Hp} {ls : List Leg} {vs : List V} (h : LegsAt H ls vs) : ls.length = vs.length := Paired.length h
def DealAt (H : Hp) (v : V) (nm : Str) (ls : List Leg) : Prop := ∃ t lt vs, v = .ref t ∧ H t = some (.tup [.str nm, .ref lt]) ∧ H lt = some (.tup vs) ∧ LegsAt H ls vs
theorem DealAt.same {H H' : Hp} {v : V} {nm : Str} {ls : List Leg} (h : DealAt H v nm ls) (s : Same H H') : DealAt H' v nm ls := let ⟨t, lt, vs, e, h1, h2, h3⟩ := h; ⟨t, lt, vs, e, s _ _ h1, s _ _ h2, h3.same s⟩
def chg (ls : List Leg) : List (KD × Int) := Sh.sheet (Sh.sheet (ls.map bP) ++ (Sh.sheet (ls.map gP)).map negP)
end L2
namespace L2
open PySem PySem.Spec PyProof.Rows
/-! ### names of letters -/
def abc : Str := "abcdefghijklmnopqrstuvwxyz"
def goodNm (s : Str) : Prop := 1 ≤ s.length ∧ s.length ≤ 8 ∧ ∀ c ∈ s.cps.toList, c ∈ abc.cps.toList

theorem str_ext {a b : Str} (h : a.cps.toList = b.cps.toList) : a = b := by
  obtain ⟨x⟩ := a; obtain ⟨y⟩ := b
  have : x = y := by simpa using congrArg List.toArray h
  rw [this]
theorem str_len (a : Str) : a.length = a.cps.toList.length := by simp [Str.length]
theorem app_chars (a b : Str) : (a ++ b).cps.toList = a.cps.toList ++ b.cps.toList := by
  show (Str.append a b).cps.toList = _
  simp [Str.append]
/-- n times the sign f -/
abbrev rep (f : Nat) (n : Int) : Str := Txt.mul ⟨#[f]⟩ n
theorem rep_chars (f : Nat) (n : Int) : (rep f n).cps.toList = List.replicate n.toNat f := mul_one_list f n
theorem rep_ok (f : Nat) {n : Int} (h0 : 0 ≤ n) (h8 : n ≤ 100) : MulOk ⟨#[f]⟩ n ∧ (rep f n).length ≤ sizeLine := by
  refine ⟨mulOk_of 1 100 (Nat.le_refl _) h8 (by omega) (by decide) (by decide), ?_⟩
  rw [str_len, rep_chars, List.length_replicate]
  have := sizeLine_big
  omega
theorem nodup_on {α β : Type} {f : α → β} : ∀ {l : List α}, l.Nodup → (∀ x ∈ l, ∀ y ∈ l, f x = f y → x = y) → (l.map f).Nodup
  | [], _, _ => List.nodup_nil
  | a :: l, h, inj => by
    obtain ⟨h1, h2⟩ := List.nodup_cons.mp h
    rw [List.map_cons, List.nodup_cons]
    refine ⟨fun hm => ?_, nodup_on h2 fun x hx y hy => inj x (List.mem_cons_of_mem _ hx) y (List.mem_cons_of_mem _ hy)⟩
    obtain ⟨b, hb, e⟩ := List.mem_map.mp hm
    have := inj b (List.mem_cons_of_mem _ hb) a List.mem_cons_self e
    exact h1 (this ▸ hb)
theorem strOk_of_abc {s : Str} (h : ∀ c ∈ s.cps.toList, c ∈ abc.cps.toList) : PyData.strOk s = true := by
  have ha : abc.cps.toList.all (fun c => decide (c < 0x110000)) = true := by decide +kernel
  show s.cps.all (fun c => decide (c < 0x110000)) = true
  rw [← Array.all_toList, List.all_eq_true]
  exact fun c hc => List.all_eq_true.mp ha c (h c hc)
theorem goodNm.ok {s : Str} (h : goodNm s) : PyData.strOk s = true := strOk_of_abc h.2.2
theorem abc_at {i : Nat} (h : i < 26) : abc.cps.toList.getD i 0 ∈ abc.cps.toList := by
  have hl : abc.cps.toList.length = 26 := by decide +kernel
  rw [List.getD_eq_getElem?_getD, List.getElem?_eq_getElem (by omega)]
  exact List.getElem_mem _
theorem abc_inj {i j : Nat} (hi : i < 26) (hj : j < 26) (e : abc.cps.toList.getD i 0 = abc.cps.toList.getD j 0) : i = j := by
  have hl : abc.cps.toList.length = 26 := by decide +kernel
  have nd : abc.cps.toList.Nodup := by decide +kernel
  rw [List.getD_eq_getElem?_getD, List.getD_eq_getElem?_getD, List.getElem?_eq_getElem (by omega), List.getElem?_eq_getElem (by omega)] at e
  exact (List.getElem_inj nd).mp e
end L2
namespace L2
open PySem PySem.Spec PyProof.Rows
theorem SqL.same {K : PySem.W.Frag} {H H' : Hp} {a : Addr} {xs : List V} (h : SqL K H a xs) (s : Same H H') : SqL K H' a xs := by
  rcases h with (h | ⟨o, h⟩) | h
  · exact .inl (.inl (s _ _ h))
  · exact .inl (.inr ⟨o, s _ _ h⟩)
  · exact .inr h
theorem Paired.append {α β : Type} {F : α → β → Prop} {a c : List α} {b d : List β} (h : Paired F a b) (h' : Paired F c d) : Paired F (a ++ c) (b ++ d) := by
  induction h with
  | nil => exact h'
  | cons x _ ih => exact .cons x ih
theorem Paired.snoc {α β : Type} {F : α → β → Prop} : ∀ {a : List α} {x : α} {m : List β}, Paired F (a ++ [x]) m → ∃ m0 y, m = m0 ++ [y] ∧ Paired F a m0 ∧ F x y
  | [], x, m, h => by
    cases h with
    | cons hx ht => cases ht; exact ⟨[], _, rfl, .nil, hx⟩
  | c :: a, x, m, h => by
    cases h with
    | cons hx ht =>
      obtain ⟨m0, y, rfl, h1, h2⟩ := Paired.snoc ht
      exact ⟨_ :: m0, y, rfl, .cons hx h1, h2⟩
theorem Paired.mapM {α β : Type} {F G : α → β → Prop} : ∀ {a : List α} {m : List β}, Paired F a m → (∀ x y, y ∈ m → F x y → G x y) → Paired G a m
  | _, _, .nil, _ => .nil
  | _, _, .cons h t, f => .cons (f _ _ List.mem_cons_self h) (Paired.mapM t fun x y hy => f x y (List.mem_cons_of_mem _ hy))
/-- a change of a list leaves legs -/
theorem LegsAt.updL {H : Hp} {ls : List Leg} {vs : List V} {p : Addr} {o : HO} (h : LegsAt H ls vs) (hp : ∀ us, H p ≠ some (.tup us)) : LegsAt (upd H p o) ls vs :=
  Paired.mapP h fun _ _ ⟨t, e, ht⟩ => ⟨t, e, by
    rw [upd_ne]
    · exact ht
    · rintro rfl
      exact hp _ ht⟩
/-- deals as a list of lists of legs, all made since H -/
def DealsAt (H H2 : Hp) (p : Addr) (dss : List (List Leg)) : Prop :=
  H p = none ∧ ∃ rs : List Addr, H2 p = some (.lst (rs.map V.ref)) ∧ rs.Nodup ∧ (∀ r ∈ rs, H r = none ∧ r ≠ p) ∧ Paired (fun ls r => ∃ vs, H2 r = some (.lst vs) ∧ LegsAt H2 ls vs) dss rs
theorem DealsAt.same {H H2 H3 : Hp} {p : Addr} {dss : List (List Leg)} (h : DealsAt H H2 p dss) (s : Same H2 H3) : DealsAt H H3 p dss := by
  obtain ⟨h0, rs, h1, h2, h3, h4⟩ := h
  exact ⟨h0, rs, s _ _ h1, h2, h3, Paired.mapP h4 fun _ _ ⟨vs, e, hl⟩ => ⟨vs, s _ _ e, hl.same s⟩⟩
theorem DealsAt.fresh {H H2 : Hp} {p r : Addr} {dss : List (List Leg)} {us : List V} (h : DealsAt H H2 p dss) (s : Same H H2) (hr : H2 r = none) (hp : H2 p = some (.lst us)) :
    DealsAt H (upd (upd H2 r (.lst [])) p (.lst (us ++ [.ref r]))) p (dss ++ [[]]) := by
  obtain ⟨h0, rs, h1, h2, h3, h4⟩ := h
  have e : us = rs.map V.ref := by rw [hp] at h1; cases h1; rfl
  subst e
  have hrp : r ≠ p := fun e => by rw [e, hp] at hr; cases hr
  have t := Same.upd (o := .lst []) hr
  have hp' := t _ _ hp
  have notT : ∀ us, (upd H2 r (.lst [])) p ≠ some (.tup us) := fun us e => by rw [hp'] at e; cases e
  refine ⟨h0, rs ++ [r], by rw [upd_same, List.map_append]; rfl, ?_, ?_, ?_⟩
  · rw [List.nodup_append]
    refine ⟨h2, by simp, fun x hx y hy => ?_⟩
    rw [List.mem_singleton.mp hy]
    rintro rfl
    obtain ⟨j, hj⟩ := List.mem_iff_getElem?.mp hx
    obtain ⟨ls, hls⟩ : ∃ ls, dss[j]? = some ls := ⟨_, List.getElem?_eq_getElem (by rw [Paired.length h4]; exact (List.getElem?_eq_some_iff.mp hj).1)⟩
    obtain ⟨b, hb, vs, e, _⟩ := Paired.get h4 hls
    rw [hj] at hb; cases hb
    rw [hr] at e; cases e
  · intro x hx
    rcases List.mem_append.mp hx with hx | hx
    · exact h3 x hx
    · rw [List.mem_singleton.mp hx]; exact ⟨s.free hr, hrp⟩
  · refine Paired.append (Paired.mapM h4 fun ls x hx ⟨vs, e, hl⟩ => ⟨vs, ?_, (hl.same t).updL notT⟩) (.cons ⟨[], ?_, .nil⟩ .nil)
    · rw [upd_ne (h3 x hx).2]; exact t _ _ e
    · rw [upd_ne hrp, upd_same]
theorem DealsAt.last {H H2 : Hp} {p : Addr} {ds : List (List Leg)} {ls : List Leg} (h : DealsAt H H2 p (ds ++ [ls])) :
    ∃ (us : List V) (r : Addr) (vs : List V), H2 p = some (.lst (us ++ [.ref r])) ∧ us.length = ds.length ∧ H r = none ∧ H2 r = some (.lst vs) ∧ LegsAt H2 ls vs ∧ ∀ l v, LegAt H2 l v → DealsAt H (upd H2 r (.lst (vs ++ [v]))) p (ds ++ [ls ++ [l]]) := by
  obtain ⟨h0, rs, h1, h2, h3, h4⟩ := h
  obtain ⟨rs0, r, rfl, h5, vs, e, hl⟩ := Paired.snoc h4
  have hr := h3 r (by simp)
  have notT : ∀ us, H2 r ≠ some (.tup us) := fun us e' => by rw [e] at e'; cases e'
  rw [List.nodup_append] at h2
  refine ⟨rs0.map V.ref, r, vs, by rw [h1, List.map_append]; rfl, by rw [List.length_map, ← Paired.length h5], hr.1, e, hl, fun l v hlv => ⟨h0, rs0 ++ [r], ?_, ?_, h3, Paired.append (Paired.mapM h5 fun ls x hx ⟨vs', e', hl'⟩ => ⟨vs', ?_, hl'.updL notT⟩) (.cons ⟨_, upd_same, LegsAt.updL (ls := ls ++ [l]) (vs := vs ++ [v]) (Paired.append hl (.cons hlv .nil)) notT⟩ .nil)⟩⟩
  · rw [upd_ne (Ne.symm hr.2)]; exact h1
  · rw [List.nodup_append]; exact h2
  · rw [upd_ne (h2.2.2 x hx r (by simp))]; exact e'
end L2
namespace L2
open PySem PySem.Spec PyProof.Rows
theorem eqv_two (a b c d : Str) : PyData.eqv (.tuple [.str a, .str b]) (.tuple [.str c, .str d]) = decide (shelf a b = shelf c d) := by
  have : (decide (shelf a b = shelf c d)) = (decide (a = c) && decide (b = d)) := by
    unfold shelf
    simp only [Sum.inr.injEq, List.cons.injEq, and_true, Bool.decide_and]
  rw [this]
  simp [PyData.eqv, PyData.eqvAll]
  rw [Bool.eq_iff_iff]
  simp
theorem shp_two {a b : Str} (h : PyData.strOk a = true) (h2 : PyData.strOk b = true): SeqAt.shaped (.tuple [.str a, .str b]) = true := by
  simp [SeqAt.shaped, PyData.canLay0, PyData.canLayAll0, PyData.depth, PyData.depthAll, h, h2]
theorem eqD_two {H : Hp} {p q : PySem.Addr} {a b c d : Str} {Q : VK} (hp : H p = some (.tup [.str a, .str b])) (hq : H q = some (.tup [.str c, .str d])) (ha : PyData.strOk a = true) (hb : PyData.strOk b = true) (hc : PyData.strOk c = true) (hd : PyData.strOk d = true)
    (k : Q (.bl (decide (shelf a b = shelf c d))) H) : rEqD false (.ref p) (.ref q) H Q :=
  ⟨.tuple [.str a, .str b], .tuple [.str c, .str d], ⟨p, _, rfl, hp, _, _, rfl, rfl, _, _, rfl, rfl, rfl⟩, ⟨q, _, rfl, hq, _, _, rfl, rfl, _, _, rfl, rfl, rfl⟩, shp_two ha hb, shp_two hc hd, by rw [eqv_two]; simpa using k⟩
end L2
namespace L2
open PySem
theorem nodup_sub_len {α : Type} [DecidableEq α] : ∀ {a b : List α}, a.Nodup → (∀ x ∈ a, x ∈ b) → a.length ≤ b.length
  | [], _, _, _ => Nat.zero_le _
  | x :: a, b, h, hs => by
    obtain ⟨h1, h2⟩ := List.nodup_cons.mp h
    have hx := hs x List.mem_cons_self
    have := nodup_sub_len (b := b.erase x) h2 fun y hy => (by
      refine (List.mem_erase_of_ne ?_).mpr (hs y (List.mem_cons_of_mem _ hy))
      rintro rfl
      exact h1 hy)
    rw [List.length_erase_of_mem hx] at this
    have hb := List.length_pos_of_mem hx
    rw [List.length_cons]
    omega
def cntZ (s : List (KD × Int)) (h : Str) (z : List Str) : Nat := (z.filter fun w => decide (Sh.get s (shelf h w) ≠ 0)).length
def cntY (s : List (KD × Int)) (y z : List Str) : Nat := (y.map fun h => cntZ s h z).sum
def cells (s : List (KD × Int)) (y z : List Str) : List KD := y.flatMap fun h => (z.filter fun w => decide (Sh.get s (shelf h w) ≠ 0)).map (shelf h)
theorem cells_len (s : List (KD × Int)) (y z : List Str) : (cells s y z).length = cntY s y z := by
  unfold cells cntY cntZ
  rw [List.length_flatMap]
  simp
theorem mem_cells {s : List (KD × Int)} {y z : List Str} {k : KD} : k ∈ cells s y z ↔ ∃ h ∈ y, ∃ w ∈ z, k = shelf h w ∧ Sh.get s k ≠ 0 := by
  unfold cells
  rw [List.mem_flatMap]
  constructor
  · rintro ⟨h, hh, hk⟩
    obtain ⟨w, hw, rfl⟩ := List.mem_map.mp hk
    obtain ⟨hw1, hw2⟩ := List.mem_filter.mp hw
    exact ⟨h, hh, w, hw1, rfl, of_decide_eq_true hw2⟩
  · rintro ⟨h, hh, w, hw, rfl, hn⟩
    exact ⟨h, hh, List.mem_map.mpr ⟨w, List.mem_filter.mpr ⟨hw, decide_eq_true hn⟩, rfl⟩⟩
theorem shelf_inj {a b c d : Str} (h : shelf a b = shelf c d) : a = c ∧ b = d := by
  have := Sum.inr.inj h
  simp only [List.cons.injEq, and_true, Sum.inr.injEq] at this
  exact this
theorem nodup_cells (s : List (KD × Int)) {z : List Str} (hz : z.Nodup) : ∀ {y : List Str}, y.Nodup → (cells s y z).Nodup
  | [], _ => List.nodup_nil
  | h :: y, hy => by
    obtain ⟨h1, h2⟩ := List.nodup_cons.mp hy
    unfold cells
    rw [List.flatMap_cons, List.nodup_append]
    refine ⟨nodup_on (hz.sublist List.filter_sublist) fun a _ b _ e => (shelf_inj e).2, nodup_cells s hz h2, ?_⟩
    intro a ha b hb e
    subst e
    obtain ⟨w, _, rfl⟩ := List.mem_map.mp ha
    obtain ⟨h', hh', w', _, e, _⟩ := mem_cells.mp hb
    exact h1 ((shelf_inj e).1 ▸ hh')
theorem cnt_eq {s : List (KD × Int)} {y z : List Str} (hy : y.Nodup) (hz : z.Nodup) (nd : (s.map (·.1)).Nodup) (hs : ∀ kn ∈ s, kn.2 ≠ 0 ∧ ∃ h ∈ y, ∃ w ∈ z, kn.1 = shelf h w) : cntY s y z = s.length := by
  rw [← cells_len]
  refine Nat.le_antisymm ?_ ?_
  · rw [← List.length_map (as := s) (f := (·.1))]
    refine nodup_sub_len (nodup_cells s hz hy) fun k hk => ?_
    obtain ⟨h, _, w, _, e, hn⟩ := mem_cells.mp hk
    by_cases hm : k ∈ s.map (·.1)
    · exact hm
    · exact absurd (by unfold Sh.get; rw [Sh.look_none.mpr hm]; rfl) hn
  · rw [← List.length_map (as := s) (f := (·.1))]
    refine nodup_sub_len nd fun k hk => ?_
    obtain ⟨kn, hkn, rfl⟩ := List.mem_map.mp hk
    obtain ⟨hne, h, hh, w, hw, e⟩ := hs kn hkn
    refine mem_cells.mpr ⟨h, hh, w, hw, e, ?_⟩
    unfold Sh.get
    rw [Sh.look_mem nd (n := kn.2) hkn]
    exact hne
theorem look_of_get {s : List (KD × Int)} {k : KD} (h : Sh.get s k ≠ 0) : Sh.look s k = some (Sh.get s k) := by
  unfold Sh.get at *
  cases e : Sh.look s k with
  | none => rw [e] at h; exact absurd rfl h
  | some n => rfl
theorem isi_dX {K : PySem.W.Frag} {H : Hp} {a : Addr} {ep : Nat} {kvs : List (KD × V)} {Q : VK} (h : H a = some (.dX ep kvs)) (q : Q (.bl true) H) : rIsi K [.ref a, .ty "dict"] H Q :=
  ⟨_, _, _, true, rfl, .dX h, kit_ty (by decide +kernel) (by decide +kernel), q⟩
end L2
namespace L2
open PySem
theorem sumOf_append {κ : Type} [DecidableEq κ] (a b : List (κ × Int)) (k : κ) : Sh.sumOf (a ++ b) k = Sh.sumOf a k + Sh.sumOf b k := by
  unfold Sh.sumOf
  rw [List.filter_append, List.map_append, List.sum_append]
theorem sumOf_neg (a : List (KD × Int)) (k : KD) : Sh.sumOf (a.map negP) k = - Sh.sumOf a k := by
  induction a with
  | nil => rfl
  | cons p r ih =>
    rw [List.map_cons, show (negP p :: r.map negP) = [negP p] ++ r.map negP from rfl, show p :: r = [p] ++ r from rfl, sumOf_append, sumOf_append, ih]
    have : Sh.sumOf [negP p] k = - Sh.sumOf [p] k := by
      unfold Sh.sumOf negP
      by_cases h : p.1 = k <;> simp [h]
    omega
theorem sumOf_nodup {κ : Type} [DecidableEq κ] : ∀ {s : List (κ × Int)}, (s.map (·.1)).Nodup → ∀ k, Sh.sumOf s k = Sh.get s k
  | [], _, _ => rfl
  | p :: r, nd, k => by
    rw [List.map_cons, List.nodup_cons] at nd
    rw [show p :: r = [p] ++ r from rfl, sumOf_append, sumOf_nodup nd.2 k]
    unfold Sh.get
    rw [show [p] ++ r = p :: r from rfl, Sh.look_cons]
    by_cases h : p.1 = k
    · rw [if_pos h, Sh.look_none.mpr (h ▸ nd.1)]
      simp [Sh.sumOf, h]
    · rw [if_neg h]
      simp [Sh.sumOf, h]
theorem sumOf_sheet {κ : Type} [DecidableEq κ] (ps : List (κ × Int)) (k : κ) : Sh.sumOf (Sh.sheet ps) k = Sh.sumOf ps k := by
  rw [sumOf_nodup (Sh.nodup_sheet ps), Sh.get_sheet]
theorem get_chg (ls : List Leg) (k : KD) : Sh.get (chg ls) k = Sh.sumOf (ls.map bP) k - Sh.sumOf (ls.map gP) k := by
  unfold chg
  rw [Sh.get_sheet, sumOf_append, sumOf_neg, sumOf_sheet, sumOf_sheet]
  omega
end L2

namespace KS
open PySem PySem.W PyProof.Rows
/-! the sort's tree of questions, asked of a strict order: it answers with a sorted arrangement -/
section
variable {n : Nat} {lt : Nat → Nat → Bool} {cmp : Nat → Nat → (Bool → Shared → Prop) → Shared → Prop} {s : Shared}
structure Ord (n : Nat) (lt : Nat → Nat → Bool) : Prop where
  tr : ∀ i j k, i < n → j < n → k < n → lt i j = true → lt j k = true → lt i k = true
  tot : ∀ i j, i < n → j < n → i ≠ j → lt i j = false → lt j i = true
abbrev g (p : Array Nat) (i : Nat) : Nat := p.getD i 0
def Arr (n : Nat) (p : Array Nat) : Prop := p.Perm (List.range n).toArray
theorem Arr.size {p : Array Nat} (h : Arr n p) : p.size = n := by
  have := h.size_eq
  simpa using this
theorem Arr.bd {p : Array Nat} (h : Arr n p) {i : Nat} (hi : i < n) : g p i < n := by
  have hs := h.size
  have hm : p[i]'(by omega) ∈ p := Array.getElem_mem _
  have := (h.mem_iff).mp hm
  rw [show g p i = p[i]'(by omega) from by simp [g, Array.getD, hs, hi]]
  simpa using this
theorem Arr.inj {p : Array Nat} (h : Arr n p) {i j : Nat} (hi : i < n) (hj : j < n) (e : g p i = g p j) : i = j := by
  have hs := h.size
  have hp : p.toList.Perm (List.range n) := by
    have := Array.perm_iff_toList_perm.mp h
    simpa using this
  have nd : p.toList.Nodup := hp.nodup_iff.mpr List.nodup_range
  have e2 : p.toList[i]'(by simp; omega) = p.toList[j]'(by simp; omega) := by
    simpa [g, Array.getD, hs, hi, hj] using e
  exact (List.getElem_inj nd).mp e2
def S (lt : Nat → Nat → Bool) (p : Array Nat) (m : Nat) : Prop := ∀ i j, i < j → j < m → lt (g p i) (g p j) = true
def D (lt : Nat → Nat → Bool) (p : Array Nat) (m : Nat) : Prop := ∀ i j, i < j → j < m → lt (g p j) (g p i) = true
variable (O : Ord n lt) (hc : ∀ i j C, i < n → j < n → i ≠ j → C (lt i j) s → cmp i j C s)
include O hc
theorem asc_wp {p : Array Nat} (hp : Arr n p) : ∀ (f m : Nat) {Q : Nat → Shared → Prop}, 1 ≤ m → m + f ≤ n → S lt p m → (∀ m', m ≤ m' → m' ≤ m + f → S lt p m' → (m' < m + f → lt (g p m') (g p (m' - 1)) = true) → Q m' s) → (kas_asc p f m).kasWp cmp Q s
  | 0, m, Q, h1, h2, hS, k => k m (Nat.le_refl _) (Nat.le_refl _) hS (fun h => absurd h (by omega))
  | f + 1, m, Q, h1, h2, hS, k => by
    refine hc _ _ _ (hp.bd (by omega)) (hp.bd (by omega)) (fun h => absurd (hp.inj (by omega) (by omega) h) (by omega)) ?_
    cases e : lt (p.getD m 0) (p.getD (m - 1) 0) with
    | true =>
      dsimp only
      rw [if_pos rfl]
      exact k m (Nat.le_refl _) (by omega) hS (fun _ => e)
    | false =>
      dsimp only
      rw [if_neg (by simp)]
      have hlast : lt (g p (m - 1)) (g p m) = true := O.tot _ _ (hp.bd (by omega)) (hp.bd (by omega)) (fun h => absurd (hp.inj (by omega) (by omega) h) (by omega)) e
      refine asc_wp hp f (m + 1) (by omega) (by omega) (fun i j hij hj => ?_) (fun m' a b c d => k m' (by omega) (by omega) c fun h => d (by omega))
      by_cases hjm : j < m
      · exact hS i j hij hjm
      · have : j = m := by omega
        subst this
        by_cases hi : i = j - 1
        · subst hi; exact hlast
        · exact O.tr _ _ _ (hp.bd (by omega)) (hp.bd (by omega)) (hp.bd (by omega)) (hS i (j - 1) (by omega) (by omega)) hlast
theorem desc_wp {p : Array Nat} (hp : Arr n p) : ∀ (f m : Nat) {Q : Array Nat × Nat × Nat → Shared → Prop}, 1 ≤ m → m + f ≤ n → D lt p m → (∀ m', m ≤ m' → m' ≤ m + f → D lt p m' → Q (p, m', 0) s) → (kas_desc f p m 0).kasWp cmp Q s
  | 0, m, Q, h1, h2, hS, k => k m (Nat.le_refl _) (Nat.le_refl _) hS
  | f + 1, m, Q, h1, h2, hS, k => by
    refine hc _ _ _ (hp.bd (by omega)) (hp.bd (by omega)) (fun h => absurd (hp.inj (by omega) (by omega) h) (by omega)) ?_
    cases e : lt (p.getD m 0) (p.getD (m - 1) 0) with
    | true =>
      dsimp only
      rw [if_pos rfl, if_neg (by omega)]
      refine desc_wp hp f (m + 1) (by omega) (by omega) (fun i j hij hj => ?_) (fun m' a b c => k m' (by omega) (by omega) c)
      by_cases hjm : j < m
      · exact hS i j hij hjm
      · have : j = m := by omega
        subst this
        by_cases hi : i = j - 1
        · subst hi; exact e
        · exact O.tr _ _ _ (hp.bd (by omega)) (hp.bd (by omega)) (hp.bd (by omega)) e (hS i (j - 1) (by omega) (by omega))
    | false =>
      dsimp only
      rw [if_neg (by simp)]
      have hlast : lt (g p (m - 1)) (g p m) = true := O.tot _ _ (hp.bd (by omega)) (hp.bd (by omega)) (fun h => absurd (hp.inj (by omega) (by omega) h) (by omega)) e
      refine hc _ _ _ (hp.bd (by omega)) (hp.bd (by omega)) (fun h => absurd (hp.inj (by omega) (by omega) h) (by omega)) ?_
      rw [show lt (p.getD (m - 1) 0) (p.getD m 0) = true from hlast]
      dsimp only
      rw [if_pos rfl]
      exact k m (Nat.le_refl _) (by omega) hS
omit O hc in
theorem rev_at {p : Array Nat} {m : Nat} (hm : m ≤ p.size) {i : Nat} (hi : i < m) : g (kas_rev p 0 m) i = g p (m - 1 - i) := by
  have e := getElem?_mirror_all (xs := p) (i := 0) (j := m) hm i
  simp only [Nat.zero_le, true_and, if_pos hi, Nat.zero_add] at e
  have : (kas_rev p 0 m)[i]? = p[m - 1 - i]? := by
    unfold kas_rev
    exact e
  simp only [g, Array.getD_eq_getD_getElem?, this]
omit O hc in
theorem Arr.rev {p : Array Nat} (h : Arr n p) (i j : Nat) : Arr n (kas_rev p i j) := (mirror_perm _ _ _ _).trans h
omit O hc in
theorem Arr.bub {p : Array Nat} (h : Arr n p) (i j : Nat) : Arr n (bubble p i j) := (bubble_perm _ _ _).trans h
theorem tail3_wp {p : Array Nat} (hp : Arr n p) {m : Nat} {Q : Nat × Array Nat → Shared → Prop} (h1 : 1 ≤ m) (h2 : m ≤ n) (hD : D lt p m) (k : ∀ m' p', m' ≤ n → 1 ≤ m' → Arr n p' → S lt p' m' → Q (m', p') s) : (kas_tail3 m n p).kasWp cmp Q s := by
  unfold kas_tail3
  rw [KasT.kasWp_bind]
  have hs := hp.size
  refine asc_wp O hc (hp.rev 0 m) (n - m) m h1 (by omega) (fun i j hij hj => ?_) (fun m' a b c _ => k m' _ (by omega) (by omega) (hp.rev 0 m) c)
  rw [rev_at (by omega) (by omega), rev_at (by omega) (by omega)]
  exact hD _ _ (by omega) (by omega)
theorem count_wp {p : Array Nat} (hp : Arr n p) (hn : 2 ≤ n) {Q : Nat × Array Nat → Shared → Prop} (k : ∀ m' p', m' ≤ n → 1 ≤ m' → Arr n p' → S lt p' m' → Q (m', p') s) : (kas_count n p).kasWp cmp Q s := by
  unfold kas_count
  rw [KasT.kasWp_bind]
  refine asc_wp O hc hp (n - 1) 1 (Nat.le_refl _) (by omega) (fun i j hij hj => by omega) (fun m a b hS hstop => ?_)
  by_cases hm : m = n
  · rw [if_pos (by simpa using hm)]
    exact k m p (by omega) (by omega) hp hS
  · rw [if_neg (by simpa using hm)]
    by_cases h1 : m > 1
    · rw [if_pos h1]
      refine hc _ _ _ (hp.bd (by omega)) (hp.bd (by omega)) (fun h => absurd (hp.inj (by omega) (by omega) h) (by omega)) ?_
      rw [show lt (p.getD 0 0) (p.getD (m - 1) 0) = true from hS 0 (m - 1) (by omega) (by omega)]
      dsimp only
      rw [if_pos rfl]
      exact k m p (by omega) (by omega) hp hS
    · rw [if_neg h1]
      have : m = 1 := by omega
      subst this
      unfold kas_descPart
      rw [KasT.kasWp_bind]
      have h0 := hstop (by omega)
      refine desc_wp O hc hp (n - (1 + 1)) (1 + 1) (by omega) (by omega) (fun i j hij hj => ?_) (fun m' a b hD => ?_)
      · have : i = 0 := by omega
        have : j = 1 := by omega
        subst i; subst j
        exact h0
      · show KasT.kasWp cmp (if (0 : Nat) > 0 then _ else kas_tail3 m' n p) Q s
        rw [if_neg (by omega)]
        exact tail3_wp O hc hp (by omega) (by omega) hD k
theorem place_wp {p : Array Nat} (hp : Arr n p) {kk : Nat} (hk : kk < n) (hS : S lt p kk) : ∀ (f l r : Nat) {Q : Nat → Shared → Prop}, l ≤ r → r ≤ kk → r - l ≤ f → (∀ i, i < l → lt (g p i) (g p kk) = true) → (∀ i, r ≤ i → i < kk → lt (g p kk) (g p i) = true) →
    (∀ l', l' ≤ kk → (∀ i, i < l' → lt (g p i) (g p kk) = true) → (∀ i, l' ≤ i → i < kk → lt (g p kk) (g p i) = true) → Q l' s) → (kas_place p kk f l r).kasWp cmp Q s
  | 0, l, r, Q, h1, h2, h3, ha, hb, k => k l (by omega) ha (fun i hi hik => hb i (by omega) hik)
  | f + 1, l, r, Q, h1, h2, h3, ha, hb, k => by
    unfold kas_place
    by_cases hlr : l ≥ r
    · rw [if_pos hlr]
      exact k l (by omega) ha (fun i hi hik => hb i (by omega) hik)
    · rw [if_neg hlr]
      have hmid : (l + r) / 2 < kk := by omega
      refine hc _ _ _ (hp.bd hk) (hp.bd (by omega)) (fun h => absurd (hp.inj hk (by omega) h) (by omega)) ?_
      cases e : lt (p.getD kk 0) (p.getD ((l + r) / 2) 0) with
      | true =>
        dsimp only
        rw [if_pos rfl]
        refine place_wp hp hk hS f l ((l + r) / 2) (by omega) (by omega) (by omega) ha (fun i hi hik => ?_) k
        by_cases hi2 : i = (l + r) / 2
        · subst hi2; exact e
        · exact O.tr _ _ _ (hp.bd hk) (hp.bd (by omega)) (hp.bd (by omega)) e (hS _ _ (by omega) hik)
      | false =>
        dsimp only
        rw [if_neg (by simp)]
        have he : lt (g p ((l + r) / 2)) (g p kk) = true := O.tot _ _ (hp.bd hk) (hp.bd (by omega)) (fun h => absurd (hp.inj hk (by omega) h) (by omega)) e
        refine place_wp hp hk hS f ((l + r) / 2 + 1) r (by omega) (by omega) (by omega) (fun i hi => ?_) hb k
        by_cases hi2 : i = (l + r) / 2
        · subst hi2; exact he
        · exact O.tr _ _ _ (hp.bd (by omega)) (hp.bd (by omega)) (hp.bd hk) (hS _ _ (by omega) (by omega)) he
omit O hc in
theorem bub_at {p : Array Nat} {kk l : Nat} (hk : kk < p.size) (hl : l ≤ kk) (i : Nat) : g (bubble p kk (kk - l)) i = if i = l then g p kk else if l < i ∧ i ≤ kk then g p (i - 1) else g p i := by
  have e := getElem?_bubble (xs := p) hk (kk - l) (by omega) i
  rw [show kk - (kk - l) = l by omega] at e
  simp only [g, Array.getD_eq_getD_getElem?, e]
  split
  · rfl
  · split <;> rfl
theorem bin_wp : ∀ (f : Nat) {p : Array Nat} {kk : Nat} {Q : Array Nat → Shared → Prop}, Arr n p → kk + f = n → 1 ≤ kk → S lt p kk → (∀ p', Arr n p' → S lt p' n → Q p' s) → (kas_bin f p kk).kasWp cmp Q s
  | 0, p, kk, Q, hp, hf, h1, hS, k => k p hp (by rw [← hf]; exact hS)
  | f + 1, p, kk, Q, hp, hf, h1, hS, k => by
    unfold kas_bin
    rw [KasT.kasWp_bind]
    have hs := hp.size
    refine place_wp O hc hp (by omega) hS kk 0 kk (by omega) (Nat.le_refl _) (by omega) (fun i hi => by omega) (fun i hi hik => by omega) (fun l hl ha hb => ?_)
    refine bin_wp f (hp.bub kk (kk - l)) (by omega) (by omega) (fun i j hij hj => ?_) k
    rw [bub_at (by omega) hl, bub_at (by omega) hl]
    by_cases hi : i = l
    · subst hi
      rw [if_pos rfl, if_neg (by omega), if_pos ⟨by omega, by omega⟩]
      exact hb (j - 1) (by omega) (by omega)
    · rw [if_neg hi]
      by_cases hjl : j = l
      · subst hjl
        rw [if_pos rfl, if_neg (by omega)]
        exact ha i (by omega)
      · rw [if_neg hjl]
        by_cases h3 : l < i
        · rw [if_pos ⟨h3, by omega⟩, if_pos ⟨by omega, by omega⟩]
          exact hS _ _ (by omega) (by omega)
        · rw [if_neg (by omega)]
          by_cases h4 : l < j
          · rw [if_pos ⟨h4, by omega⟩]
            exact hS _ _ (by omega) (by omega)
          · rw [if_neg (by omega)]
            exact hS _ _ (by omega) (by omega)
theorem sort_wp (hn : 2 ≤ n) {Q : Array Nat → Shared → Prop} (k : ∀ p', Arr n p' → S lt p' n → Q p' s) : (kas_sort n).kasWp cmp Q s := by
  unfold kas_sort
  rw [KasT.kasWp_bind]
  refine count_wp O hc (Array.Perm.refl _ : Arr n (List.toArray (List.range n))) hn (fun m p h1 h2 hp hS => ?_)
  show KasT.kasWp cmp (if m < n then kas_bin (n - max m 1) p (max m 1) else .ret p) Q s
  by_cases hm : m < n
  · rw [if_pos hm, show max m 1 = m by omega]
    exact bin_wp O hc (n - m) hp (by omega) h2 hS k
  · rw [if_neg hm]
    have : m = n := by omega
    subst this
    exact k p hp hS
end
end KS

namespace KS
open PySem PySem.W PyProof.Rows
/-! list.sort of a list of tuples of two texts, no two alike -/
def ltS (a b : Str) : Bool := decide (a.cps.toList < b.cps.toList)
def lt2 (x y : Str × Str) : Bool := if x.1 = y.1 then ltS x.2 y.2 else ltS x.1 y.1
/-- the tuple of two texts at a -/
def Two (h : Heap) (v : Value) (x : Str × Str) : Prop := ∃ a o t u n, v = .ref a ∧ h.get? a = some o ∧ o.cls = .type "tuple" ∧ o.data = .seq #[.str x.1 t, .str x.2 u] n
theorem Two.keep {h h' : Heap} {v : Value} {x : Str × Str} (q : Two h v x) (k : ∀ b o, h.get? b = some o → h'.get? b = some o) : Two h' v x := by
  obtain ⟨a, o, t, u, n, e, ho, r⟩ := q
  exact ⟨a, o, t, u, n, e, k _ _ ho, r⟩
section
variable {prog : Program} {w : World} {A : Around} {E : Value → Shared → Prop} {s : Shared} {Q : Bool → Shared → Prop}
theorem lt_two {v u : Value} {x y : Str × Str} (hv : Two s.heap v x) (hu : Two s.heap u y) (hne : x ≠ y) (q : Q (lt2 x y) s) : wpAny (model prog w) A (keyLt' (tuples' true) v u) Q E s := by
  obtain ⟨a, o, t1, t2, n, rfl, ho, hc, hd⟩ := hv
  obtain ⟨b, o', t3, t4, n', rfl, ho', hc', hd'⟩ := hu
  refine kat_lt ho hd ho' hd' ?_
  refine kat_cons (PySem.wpAny_eqBool_str ?_)
  by_cases e1 : x.1 = y.1
  · rw [decide_eq_true e1]
    refine kat_yes (kat_cons (PySem.wpAny_eqBool_str ?_))
    have e2 : x.2 ≠ y.2 := fun e => hne (Prod.ext e1 e)
    rw [decide_eq_false e2]
    refine kat_no (kat_one _ _ ?_)
    refine lt_str ?_
    unfold lt2 at q
    rw [if_pos e1] at q
    exact q
  · rw [decide_eq_false e1]
    refine kat_no (oneLt_str ?_)
    unfold lt2 at q
    rw [if_neg e1] at q
    exact q
end
theorem list_lt_trans {a b c : List Nat} (h1 : a < b) (h2 : b < c) : a < c := List.lt_trans h1 h2
theorem ltS_trans {a b c : Str} (h1 : ltS a b = true) (h2 : ltS b c = true) : ltS a c = true := by
  unfold ltS at *
  exact decide_eq_true (List.lt_trans (of_decide_eq_true h1) (of_decide_eq_true h2))
theorem str_ext' {a b : Str} (h : a.cps.toList = b.cps.toList) : a = b := by
  obtain ⟨x⟩ := a; obtain ⟨y⟩ := b
  have : x = y := by simpa using congrArg List.toArray h
  rw [this]
theorem ltS_tot {a b : Str} (hne : a ≠ b) (h : ltS a b = false) : ltS b a = true := by
  unfold ltS at *
  have h1 : ¬ a.cps.toList < b.cps.toList := of_decide_eq_false h
  refine decide_eq_true ?_
  have h2 : b.cps.toList ≤ a.cps.toList := List.not_lt.mp h1
  rcases List.le_iff_lt_or_eq.mp h2 with h3 | h3
  · exact h3
  · exact absurd (str_ext' h3.symm) hne
theorem ltS_irr {a : Str} : ltS a a = false := by
  unfold ltS
  exact decide_eq_false (List.lt_irrefl _)
theorem lt2_trans {x y z : Str × Str} (h1 : lt2 x y = true) (h2 : lt2 y z = true) : lt2 x z = true := by
  unfold lt2 at *
  by_cases e1 : x.1 = y.1
  · rw [if_pos e1] at h1
    by_cases e2 : y.1 = z.1
    · rw [if_pos e2] at h2
      rw [if_pos (e1.trans e2)]
      exact ltS_trans h1 h2
    · rw [if_neg e2] at h2
      rw [if_neg (fun e => e2 (e1 ▸ e)), e1]
      exact h2
  · rw [if_neg e1] at h1
    by_cases e2 : y.1 = z.1
    · rw [if_neg (fun e => e1 (e2 ▸ e)), ← e2]
      exact h1
    · rw [if_neg e2] at h2
      have h3 := ltS_trans h1 h2
      by_cases e3 : x.1 = z.1
      · rw [e3, ltS_irr] at h3; cases h3
      · rw [if_neg e3]; exact h3
theorem lt2_tot {x y : Str × Str} (hne : x ≠ y) (h : lt2 x y = false) : lt2 y x = true := by
  unfold lt2 at *
  by_cases e1 : x.1 = y.1
  · rw [if_pos e1] at h
    rw [if_pos e1.symm]
    exact ltS_tot (fun e => hne (Prod.ext e1 e)) h
  · rw [if_neg e1] at h
    rw [if_neg (Ne.symm e1)]
    exact ltS_tot e1 h
/-- the order of the places of ks -/
def ltK (ks : List (Str × Str)) (i j : Nat) : Bool := lt2 (ks.getD i ("", "")) (ks.getD j ("", ""))
theorem ord_of {ks : List (Str × Str)} (nd : ks.Nodup) : Ord ks.length (ltK ks) := by
  refine ⟨fun i j k _ _ _ h1 h2 => lt2_trans h1 h2, fun i j hi hj hij h => lt2_tot (fun e => hij ?_) h⟩
  rw [List.getD_eq_getElem?_getD, List.getD_eq_getElem?_getD, List.getElem?_eq_getElem hi, List.getElem?_eq_getElem hj] at e
  exact (List.getElem_inj nd).mp e
section
variable {prog : Program} {w : World} {A : Around} {E : Value → Shared → Prop} {s : Shared}
theorem list_sort_two {a : Addr} {vs : List Value} {ks : List (Str × Str)} {n : Nat} {P : PySem.Fin → Shared → Prop} (ho : s.heap.get? a = some (seqObj "list" vs.toArray n)) (hl : vs.length = ks.length)
    (h0 : ∀ (i : Nat) v k, vs[i]? = some v → ks[i]? = some k → Two s.heap v k) (nd : ks.Nodup) (h64 : vs.length < 64)
    (h : ∀ p : Array Nat, Arr vs.length p → S (ltK ks) p vs.length → P (.done (.ret .none)) { s with heap := sortedHeap s.heap a vs (List.toArray (p.toList.map fun i => vs.getD i Value.none)) }) :
    wpAny (model prog w) A (Builtin.«list.sort» ⟨[.ref a], []⟩) P E s := by
  rw [list_sort_plain]
  have ha : a < s.heap.objs.size := Heap.lt_size ho
  refine wpAny_bind (listItems_at ho rfl ?_)
  refine wpAny_bind (listUpdate_at ho rfl ?_)
  obtain ⟨e1, ho1⟩ : ∃ e1, (s.heap.update a (Obj.mapSeq fun _ => #[])).get? a = some (seqObj "list" #[] e1) := ⟨_, get?_update_seq ho (fun _ => #[])⟩
  refine wpAny_bind (seqEpoch_at ho1 rfl ?_)
  refine wpAny_bind (wpAny_newTuple ?_)
  refine wpAny_bind (wpAny_newList ?_)
  refine wpAny_holding ?_
  have ho6 : (((s.heap.update a (Obj.mapSeq fun _ => #[])).push (seqObj "tuple" vs.toArray 0)).push (seqObj "list" #[] 0)).get? a = some (seqObj "list" #[] e1) := by
    rw [Heap.get?_push_ne _ _ _ (by rw [size_push', Heap.size_update]; exact Nat.ne_of_lt (Nat.lt_succ_of_lt ha)), Heap.get?_push_ne _ _ _ (by rw [Heap.size_update]; exact Nat.ne_of_lt ha)]
    exact ho1
  show wpAny (model prog w) A _ P E { s with heap := ((s.heap.update a (Obj.mapSeq fun _ => #[])).push (seqObj "tuple" vs.toArray 0)).push (seqObj "list" #[] 0) }
  dsimp only
  have hsz : vs.toArray.size = vs.length := by simp
  have keep : ∀ b o, b ≠ a → s.heap.get? b = some o → (((s.heap.update a (Obj.mapSeq fun _ => #[])).push (seqObj "tuple" vs.toArray 0)).push (seqObj "list" #[] 0)).get? b = some o := fun b o hb e =>
    Heap.get?_push_of_some _ (Heap.get?_push_of_some _ ((Heap.get?_update_other _ _ (Ne.symm hb)).trans e))
  have two6 : ∀ (i : Nat) v k, vs[i]? = some v → ks[i]? = some k → Two (((s.heap.update a (Obj.mapSeq fun _ => #[])).push (seqObj "tuple" vs.toArray 0)).push (seqObj "list" #[] 0)) v k := fun i v k h1 h2 => by
    obtain ⟨b, o, t, u, m, e, hb, hc, hd⟩ := h0 i v k h1 h2
    refine ⟨b, o, t, u, m, e, keep b o ?_ hb, hc, hd⟩
    rintro rfl
    rw [ho] at hb
    cases hb
    exact absurd hc (by simp [seqObj])
  have fin := h
  by_cases h2 : vs.toArray.size < 2
  · rw [if_pos h2, if_pos h2]
    refine wpAny_bind (wpAny_pure ?_)
    rw [StateT.run_pure]
    refine wpAny_bind (wpAny_pure ?_)
    dsimp only
    refine wpAny_bind (seqEpoch_at ho6 rfl ?_)
    refine wpAny_bind (listUpdate_at ho6 rfl ?_ (hsz2 := by rw [Array.size_map]; show (pairsOf vs).size ≤ _; rw [pairsOf_size, sizeLine_eq]; omega))
    simp only [bne_self_eq_false, Bool.false_eq_true, if_false]
    have hf := fin (List.toArray (List.range vs.length)) (Array.Perm.refl _) (fun i j hij hj => by omega)
    refine wpAny_pure ?_
    have e : (arrOf (SortSt.mk' general' (vs.toArray.zip vs.toArray) #[] 7 none)).map (·.2) = List.toArray ((List.toArray (List.range vs.length)).toList.map fun i => vs.getD i Value.none) := by
      refine kat_snds rfl ?_
      have e := kas_range (vs.toArray.zip vs.toArray)
      rw [show (vs.toArray.zip vs.toArray).size = vs.length by simp] at e
      exact e.symm
    unfold sortedHeap at hf
    rw [← e] at hf
    exact hf
  · rw [if_neg h2, if_neg h2]
    have h2' : 2 ≤ vs.length := by omega
    have ht : ∀ (us : List Value) (ls : List (Str × Str)), us.length = ls.length → (∀ (i : Nat) v k, us[i]? = some v → ls[i]? = some k → Two (((s.heap.update a (Obj.mapSeq fun _ => #[])).push (seqObj "tuple" vs.toArray 0)).push (seqObj "list" #[] 0)) v k) →
        ∃ fs : List Value, KatTups (((s.heap.update a (Obj.mapSeq fun _ => #[])).push (seqObj "tuple" vs.toArray 0)).push (seqObj "list" #[] 0)) us fs ∧ fs.length = us.length ∧ ∀ v ∈ fs, ∃ x t, v = Value.str x t := by
      intro us
      induction us with
      | nil => exact fun ls _ _ => ⟨[], trivial, rfl, by simp⟩
      | cons u us ih =>
        intro ls hll hh
        cases ls with
        | nil => simp at hll
        | cons k ls =>
          obtain ⟨fs, h3, h4, h5⟩ := ih ls (by simpa using hll) (fun i v k h1 h2 => hh (i + 1) v k (by simpa using h1) (by simpa using h2))
          obtain ⟨b, o, t, u', m, rfl, hb, hc, hd⟩ := hh 0 u k rfl rfl
          refine ⟨.str k.1 t :: fs, KatTups.cons hb hc hd rfl h3, by simp [h4], fun v hv => ?_⟩
          rcases List.mem_cons.mp hv with rfl | hv
          · exact ⟨_, _, rfl⟩
          · exact h5 v hv
    obtain ⟨fs, t1, t2, t3⟩ := ht vs ks hl two6
    refine wpAny_bind (kat_kind (T := .type "str") t1 (by omega) (fun v hv => ?_) (by decide) ?_)
    · obtain ⟨x, t, rfl⟩ := t3 v hv
      exact .now
    refine wpAny_bind (wpAny_mono (kat_run (ks := vs) (Q := fun st' s' => ∃ p : Array Nat, arrOf st' = p.map (kas_item (vs.toArray.zip vs.toArray)) ∧ failedOf st' = none ∧ s' = { s with heap := ((s.heap.update a (Obj.mapSeq fun _ => #[])).push (seqObj "tuple" vs.toArray 0)).push (seqObj "list" #[] 0) } ∧ Arr vs.length p ∧ S (ltK ks) p vs.length)
      rfl h2' h64 (fun p' st' s' a1 a2 a3 a4 => ⟨p', a2, a3, a4⟩) (sort_wp (n := vs.length) (lt := ltK ks) (hl ▸ ord_of nd) (fun i j C hi hj hij q => ?_) h2' fun p h1 h2 => ⟨rfl, h1, h2⟩)) ?_ fun _ _ e => e)
    · have gi : vs[i]? = some (vs.getD i Value.none) := by rw [List.getD_eq_getElem?_getD, List.getElem?_eq_getElem hi]; rfl
      have gj : vs[j]? = some (vs.getD j Value.none) := by rw [List.getD_eq_getElem?_getD, List.getElem?_eq_getElem hj]; rfl
      have ki : ks[i]? = some (ks.getD i ("", "")) := by rw [List.getD_eq_getElem?_getD, List.getElem?_eq_getElem (by omega)]; rfl
      have kj : ks[j]? = some (ks.getD j ("", "")) := by rw [List.getD_eq_getElem?_getD, List.getElem?_eq_getElem (by omega)]; rfl
      unfold kas_ask
      refine lt_two (two6 _ _ _ gi ki) (two6 _ _ _ gj kj) (fun e => hij ?_) q
      rw [List.getD_eq_getElem?_getD, List.getD_eq_getElem?_getD, List.getElem?_eq_getElem (by omega), List.getElem?_eq_getElem (by omega)] at e
      exact (List.getElem_inj nd).mp e
    rintro ⟨⟨⟩, st'⟩ s' ⟨p, har, hf, rfl, hp, hs⟩
    dsimp only
    refine wpAny_bind (seqEpoch_at ho6 rfl ?_)
    have hout := kat_snds (ks := vs) (vs := vs) rfl har
    rw [hout]
    refine wpAny_bind (listUpdate_at ho6 rfl ?_ (hsz2 := by rw [List.size_toArray, List.length_map, Array.length_toList, hp.size, sizeLine_eq]; omega))
    rw [hf]
    simp only [bne_self_eq_false, Bool.false_eq_true, if_false]
    exact wpAny_pure (fin p hp hs)
end
end KS

namespace L2
open PySem PySem.Spec PyProof.Rows PySem.W KS
/-! ### a dict's keys as a source; sorted(d) of shelves -/
section
variable {prog : Program} {w : World} {A : Around} {E : Value → Shared → Prop} {s : Shared} {d : Addr} {es : Array DictEntry} {ep : Nat}
theorem walks_raw (hh : A.handled = none) (I d : Addr) (hne : d ≠ I) (es : Array DictEntry) (ep : Nat) :
    Walks prog w A I [I, d] [I] es.size (fun i v => ∃ e, es[i]? = some e ∧ v = e.key) (fun i h => h.IsKeyIter I d i es.size ep ∧ RawD h d es ep) where
  sub := fun b hb => by simp at hb; simp [hb]
  frame := fun _ _ _ st hk => ⟨st.1.at fun o e => hk I (by simp) o e, st.2.keep fun o e => hk d (by simp) o e⟩
  item := fun i s Q E hi st hQ => by
    obtain ⟨e, hx⟩ : ∃ e, es[i]? = some e := ⟨es[i], by simp [hi]⟩
    refine next_keys_x st.1 st.2 hx fun h' hit' hs' => ?_
    exact hQ e.key h' s.toks ⟨e, hx, rfl⟩ ⟨hit', st.2.keep fun o e => hs'.extBut d o hne e⟩ fun b o hb e => hs'.extBut b o (fun h => hb (by simp [h])) e
  done := fun s Q E st hQ => end_keys_x hh st.1 st.2 (by simp) fun h' he' => hQ h' s.toks fun b o hb e => he' b o (fun h => hb (by simp [h])) e
  self := fun _ _ _ _ st hQ => wpAny_pyIter_keyiter st.1 hQ
theorem kdl_raw (lo : (d == sysModules) = false) : KdlSrc prog w "dict" d d es.size (fun i v => ∃ e, es[i]? = some e ∧ v = e.key) (fun h => RawD h d es ep) where
  type := fun _ hm => hm.typeIs
  there := fun _ hm => ⟨hm.lt, hm.lt⟩
  keep := fun _ _ hm hk => hm.keep fun o e => hk d (.inl rfl) o e
  notList := by decide
  notTuple := by decide
  hint := fun _ _ _ _ hm hq => kdl_hint_dict hm.typeIs hq
  iter := fun _ _ hh hm => ⟨_, _, (fun _ _ hq => iter_keys_x lo hm hq), walks_raw hh _ d (Nat.ne_of_lt hm.lt) es ep, ⟨⟨_, Heap.get?_push_size _ rfl, rfl, rfl⟩, hm.keep fun o e => Heap.get?_push_of_some _ e⟩⟩
theorem sorted_raw {Q : Value → Shared → Prop} (lo : (d == sysModules) = false) (hh : A.handled = none) (hm : RawD s.heap d es ep) {ks : List (Str × Str)} (hn : es.size < 64) (hl : es.size = ks.length) (nd : ks.Nodup)
    (h0 : ∀ (i : Nat) e k, es[i]? = some e → ks[i]? = some k → Two s.heap e.key k)
    (h : ∀ (h' : Heap) (tk : Nat) (D c : Addr) (p : Array Nat), (∀ b o, s.heap.get? b = some o → h'.get? b = some o) → s.heap.get? D = none → Arr es.size p → S (ltK ks) p es.size →
      h'.get? D = some { cls := .type "list", data := .seq (List.toArray (p.toList.map fun i => (es.toList.map (·.key)).getD i Value.none)) c } → Q (.ref D) { s with heap := h', toks := tk }) :
    wpAny (model prog w) A (call (.builtin "sorted") [.ref d]) Q E s := by
  have hz : es.size ≤ sizeLine := by rw [sizeLine_eq]; omega
  refine Calls.call_function_entry kind_sorted plain_sorted entry_sorted (args_sorted1 _) ?_
  unfold Builtin.«sorted»
  refine wpAny_bind (m := checkCount "sorted" 1 1 _) (wpAny_pure ?_)
  refine wpAny_bind (kdu_collect (A := A.in1) (kdl_raw lo) hh hm hz fun h1 tk acc hk hacc => ?_)
  have hla : acc.toList.length = es.size := by rw [Array.length_toList]; exact hacc.1
  have hvs : acc.toList = es.toList.map (·.key) := by
    refine List.ext_getElem? fun i => ?_
    rw [List.getElem?_map, Array.getElem?_toList, Array.getElem?_toList]
    by_cases hi : i < es.size
    · obtain ⟨v, hv⟩ : ∃ v, acc[i]? = some v := ⟨_, Array.getElem?_eq_getElem (by rw [hacc.1]; exact hi)⟩
      obtain ⟨e, he, rfl⟩ := hacc.2 i v hv
      rw [hv, he]; rfl
    · rw [Array.getElem?_eq_none (by rw [hacc.1]; omega), Array.getElem?_eq_none (by omega)]; rfl
  refine wpAny_bind (wpAny_newList ?_ (by rw [hla]; exact hz))
  have hoL : (h1.push (seqObj "list" acc.toList.toArray 0)).get? h1.objs.size = some (seqObj "list" acc.toList.toArray 0) := Heap.get?_push_size _ rfl
  show wpAny _ _ _ _ _ { s with heap := h1.push (seqObj "list" acc.toList.toArray 0), toks := tk }
  have hle : s.heap.get? h1.objs.size = none := by
    cases e : s.heap.get? h1.objs.size with
    | none => rfl
    | some o => exact absurd (Heap.lt_size (hk _ _ e)) (Nat.lt_irrefl _)
  refine wpAny_bind (wpAny_holding (wpAny_call_entry slot_list_sort ⟨_, hoL, rfl⟩ entry_list_sort (list_sort_two (ks := ks) (s := { s with heap := h1.push (seqObj "list" acc.toList.toArray 0), toks := tk }) hoL (by rw [hla, hl]) (fun i v k hv hk' => ?_) nd (by rw [hla]; exact hn) fun p hp hs => ⟨_, rfl, ?_⟩) (args_list_sort _)))
  · rw [hvs, List.getElem?_map, Array.getElem?_toList] at hv
    obtain ⟨e, he, rfl⟩ := Option.map_eq_some_iff.mp hv
    exact (h0 i e k he hk').keep fun b o q => Heap.get?_push_of_some _ (hk b o q)
  · refine wpAny_pure ⟨_, rfl, ?_⟩
    rw [hla] at hp hs
    obtain ⟨c, hc⟩ := sortedHeap_at (vs := acc.toList) (out := List.toArray (p.toList.map fun i => acc.toList.getD i Value.none)) hoL
    refine h _ tk h1.objs.size c p (fun b o q => ?_) hle hp hs ?_
    · have hb := Heap.lt_size (hk b o q)
      rw [sortedHeap_old (Nat.ne_of_lt hb) (by rw [size_push']; exact Nat.lt_succ_of_lt hb)]
      exact Heap.get?_push_of_some _ (hk b o q)
    · rw [hc, hvs]
end
theorem ObjOk.some {P : Program} {w : World} {H : Hp} {h : Heap} {a : Addr} {o : HO} (x : ObjOk P w H h a o) : ∃ ob, h.get? a = some ob := by
  cases o with
  | lst xs => obtain ⟨_, _, _, _, e⟩ := x; exact ⟨_, e⟩
  | tup xs => obtain ⟨_, _, _, p⟩ := x; obtain ⟨o, e, _⟩ := p; exact ⟨_, e⟩
  | dK kvs => obtain ⟨_, _, _, _, o, _, _, e, _⟩ := x; exact ⟨_, e⟩
  | dT kvs => obtain ⟨_, _, _, _, o, _, _, e, _⟩ := x; exact ⟨_, e⟩
  | dX ep kvs => obtain ⟨_, _, _, _, o, _, e, _⟩ := x; exact ⟨_, e⟩
  | set S n => obtain ⟨o, _, _, _, e, _⟩ := x; exact ⟨_, e⟩
  | ins C dx fs => obtain ⟨_, _, _, e, _⟩ := x; exact ⟨_, e⟩
  | own y => obtain ⟨_, e⟩ := x; exact ⟨_, e⟩
  | xd fs => obtain ⟨_, ⟨_, _, _, e, _⟩, _⟩ := x; exact ⟨_, e⟩
  | rng lo hi => obtain ⟨_, _, _, e⟩ := x; exact ⟨_, e⟩
  | frz ob u => obtain ⟨e, _⟩ := x; exact ⟨_, e⟩
  | tbl ps => exact ⟨_, (show h.get? a = Option.some _ from x)⟩
  | met f y => exact ⟨_, (show h.get? a = Option.some _ from x)⟩
  | ext φ => obtain ⟨_, ⟨_, e⟩, _⟩ := x; exact ⟨_, e⟩
theorem Inv.laidN {X : Cx} {pins : List (Addr × Obj)} {σ : St} {H : Hp} {s : Shared} {h' : Heap} {p : Addr} {o : HO} {t' : Nat} (I : Inv X pins σ H s) (k : ∀ b u, s.heap.get? b = some u → h'.get? b = some u)
    (hp : s.heap.get? p = none) (new : ObjOk X.prog X.w (upd H p o) h' p o) : H p = none ∧ Inv X pins σ (upd H p o) { s with heap := h', toks := t' } := by
  have fr : H p = none := by
    cases e : H p with
    | none => rfl
    | some u => obtain ⟨ob, h⟩ := (I.hok p u e).some; rw [hp] at h; cases h
  have sm : Same H (upd H p o) := Same.upd fr
  have out : ∀ b u, s.heap.get? b = some u → upd H p o b = H b := fun b u e => by
    rw [upd_ne]
    rintro rfl
    rw [hp] at e; cases e
  refine ⟨fr, I.un ⟨fun b u q _ _ _ => k b u q, fun b u q _ _ _ => ⟨u.slots, k b u q⟩, fun b u q n _ => by rw [out b u q]; exact n, fun b u q _ => ⟨u, k b u q⟩, fun b xs q => sm b _ q, fun b o u q => sm b _ q, fun b ps q => ⟨#[], by rw [sm b _ q]; simp⟩⟩ ?_⟩
  intro b u e
  by_cases hb : b = p
  · subst hb
    rw [upd_same] at e
    cases e
    exact new
  · rw [upd_ne hb] at e
    exact (I.hok b u e).stay (fun c v _ q => k c v q) (fun c q => sm c _ q) fun c xs q => sm c _ q
theorem nodup_of_map {α β : Type} {f : α → β} : ∀ {l : List α}, (l.map f).Nodup → l.Nodup
  | [], _ => List.nodup_nil
  | a :: l, h => by
    rw [List.map_cons, List.nodup_cons] at h
    exact List.nodup_cons.mpr ⟨fun hm => h.1 (List.mem_map.mpr ⟨a, hm, rfl⟩), nodup_of_map h.2⟩
abbrev shelfP (k : Str × Str) : KD := shelf k.1 k.2
def rSortedD : List V → Hp → VK → Prop := fun xs H Q => ∃ a ep kvs ks, xs = [.ref a] ∧ H a = some (.dX ep kvs) ∧ kvs.map (·.1) = ks.map shelfP ∧ kvs.length < 64 ∧
  ∀ l rs ks', H l = none → ks'.Perm ks → ks'.Pairwise (fun x y => lt2 x y = true) → Paired (fun (k : Str × Str) r => H r = some (.tup [.str k.1, .str k.2])) ks' rs → Q (.ref l) (upd H l (.lst (rs.map V.ref)))
theorem call_sorted_d {X : Cx} (hc : X.calm = true) : CallR X (.builtin "sorted") rSortedD := by
  intro pins s σ H xs us Q I r h
  obtain ⟨a, ep, kvs, ks, rfl, ha, hks, h64, q⟩ := h
  obtain ⟨u, rfl, ru⟩ := vals1 r
  cases ru
  obtain ⟨hz, hd, ts, rx, m⟩ := dx_of I.hok ha
  obtain ⟨ent, rd, he⟩ := m.raw
  have hsz : ent.size = kvs.length := by rw [ent_size he, ← rx.length]
  have hkl : kvs.length = ks.length := by
    have := congrArg List.length hks
    simpa using this
  -- the keys as values
  have key : ∀ (i : Nat) e k, ent[i]? = some e → ks[i]? = some k → ∃ b, e.key = Value.ref b ∧ H b = some (.tup [.str k.1, .str k.2]) := fun i e k hi hk => by
    have hkv : (kvs.map (·.1))[i]? = some (shelfP k) := by rw [hks, List.getElem?_map, hk]; rfl
    rw [List.getElem?_map] at hkv
    obtain ⟨kv, hkv1, hkv2⟩ := Option.map_eq_some_iff.mp hkv
    obtain ⟨u, v', hts, hu, rv⟩ := rx.at hkv1
    rw [ent_at he i, hts] at hi
    cases hi
    rw [hkv2] at hu
    exact hu
  have ndk : ks.Nodup := by
    obtain ⟨_, _, _, _, _, _, _, nd⟩ := m
    have e : ts.map (·.1) = kvs.map (·.1) := by
      refine List.ext_getElem? fun i => ?_
      rw [List.getElem?_map, List.getElem?_map]
      cases hi : kvs[i]? with
      | none => rw [List.getElem?_eq_none (by rw [← rx.length]; exact List.getElem?_eq_none_iff.mp hi)]; rfl
      | some kv => obtain ⟨u, v', hts, _, _⟩ := rx.at hi; rw [hts]; rfl
    rw [e, hks] at nd
    exact nodup_of_map nd
  have addr : ∀ (i : Nat) k, ks[i]? = some k → ∃ b, (ent.toList.map (·.key))[i]? = some (Value.ref b) ∧ H b = some (.tup [.str k.1, .str k.2]) := fun i k hi => by
    have hlt : i < ent.size := by have := (List.getElem?_eq_some_iff.mp hi).1; omega
    obtain ⟨e, hee⟩ : ∃ e, ent[i]? = some e := ⟨_, Array.getElem?_eq_getElem hlt⟩
    obtain ⟨b, e1, e2⟩ := key i e k hee hi
    refine ⟨b, ?_, e2⟩
    rw [List.getElem?_map, Array.getElem?_toList, hee, ← e1]
    rfl
  have bsx : ∃ bs : List Addr, ent.toList.map (·.key) = bs.map Value.ref ∧ Paired (fun (k : Str × Str) r => H r = some (.tup [.str k.1, .str k.2])) ks bs := by
    refine ⟨(ent.toList.map (·.key)).map fun v => match v with | .ref b => b | _ => 0, ?_, Paired.of_get (by simp; omega) fun i k b hi hb => ?_⟩
    · rw [List.map_map]
      refine List.ext_getElem? fun i => ?_
      rw [List.getElem?_map (f := _ ∘ _)]
      cases hi : ks[i]? with
      | none =>
        have : ks.length ≤ i := List.getElem?_eq_none_iff.mp hi
        rw [List.getElem?_eq_none (by simp; omega)]; rfl
      | some k =>
        obtain ⟨b, h1, _⟩ := addr i k hi
        rw [h1]; rfl
    · obtain ⟨b', h1, h2⟩ := addr i k hi
      rw [List.getElem?_map, h1] at hb
      cases hb
      exact h2
  obtain ⟨bs, hbs, pb⟩ := bsx
  have hbl := pb.length
  refine sorted_raw hd (I.ok.hd hc) rd (ks := ks) (by omega) (by omega) ndk (fun i e k hi hk => ?_) fun h' tk D c p hk hD hp hs hget => ?_
  · obtain ⟨b, e1, e2⟩ := key i e k hi hk
    obtain ⟨_, its, rv, o, ho, hcl, n, hdt⟩ := (show ObjOk X.prog X.w H s.heap b (.tup [.str k.1, .str k.2]) from I.hok b _ e2)
    cases rv with
    | cons r1 rv =>
      cases rv with
      | cons r2 rv =>
        cases rv
        obtain ⟨t1, rfl⟩ := r1
        obtain ⟨t2, rfl⟩ := r2
        exact ⟨b, o, t1, t2, n, e1, ho, hcl, hdt⟩
  · have hpl : p.toList.Perm (List.range ent.size) := by
      have := Array.perm_iff_toList_perm.mp hp
      simpa using this
    have plen : p.toList.length = ent.size := by rw [Array.length_toList]; exact hp.size
    have pbd : ∀ i ∈ p.toList, i < ent.size := fun i hi => List.mem_range.mp (hpl.mem_iff.mp hi)
    have eout : (p.toList.map fun i => (ent.toList.map (·.key)).getD i Value.none) = (p.toList.map fun i => bs.getD i 0).map Value.ref := by
      rw [List.map_map]
      refine List.map_congr_left fun i hi => ?_
      have hb := pbd i hi
      rw [hbs]
      simp only [Function.comp, List.getD_eq_getElem?_getD, List.getElem?_map]
      rw [List.getElem?_eq_getElem (by omega)]
      rfl
    have hl1 : ((p.toList.map fun i => bs.getD i 0).map V.ref).length ≤ sizeLine := by
      rw [List.length_map, List.length_map, plen]; omega
    obtain ⟨frD, inv⟩ := I.laidN (h' := h') (t' := tk) (o := .lst ((p.toList.map fun i => bs.getD i 0).map V.ref)) hk hD ⟨hl1, _, c, vals_refs _, by rw [← eout]; exact hget⟩
    refine ⟨.ref D, _, inv, rfl, q D _ (p.toList.map fun i => ks.getD i ("", "")) frD ?_ ?_ ?_⟩
    · have e : (List.range ks.length).map (fun i => ks.getD i ("", "")) = ks := by
        refine List.ext_getElem? fun i => ?_
        rw [List.getElem?_map]
        by_cases hi : i < ks.length
        · rw [List.getElem?_range hi]
          simp only [Option.map_some, List.getD_eq_getElem?_getD]
          rw [List.getElem?_eq_getElem hi]; rfl
        · rw [List.getElem?_eq_none (by simp; omega), List.getElem?_eq_none (by omega)]; rfl
      have h1 := hpl.map fun i => ks.getD i ("", "")
      rw [show ent.size = ks.length by omega, e] at h1
      exact h1
    · rw [List.pairwise_map, List.pairwise_iff_getElem]
      intro i j hi hj hij
      have := hs i j hij (by omega)
      simp only [ltK, g, Array.getD_eq_getD_getElem?, ← Array.getElem?_toList] at this
      rw [List.getElem?_eq_getElem hi, List.getElem?_eq_getElem hj] at this
      exact this
    · refine Paired.of_get (by simp) fun i k b hi hb => ?_
      rw [List.getElem?_map] at hi hb
      obtain ⟨j, hj, rfl⟩ := Option.map_eq_some_iff.mp hi
      rw [hj] at hb
      cases hb
      have hjb := pbd j (List.mem_of_getElem? hj)
      obtain ⟨b, hb1, hb2⟩ := Paired.get pb (i := j) (a := ks.getD j ("", "")) (by rw [List.getD_eq_getElem?_getD, List.getElem?_eq_getElem (by omega)]; rfl)
      have e : bs.getD j 0 = b := by rw [List.getD_eq_getElem?_getD, hb1]; rfl
      show H (bs.getD j 0) = _
      rw [e]
      exact hb2
end L2

namespace KS
open PySem PySem.W PyProof.Rows
def lexS : List Str → List Str → Bool
  | [], [] => false
  | [], _ :: _ => true
  | _ :: _, [] => false
  | x :: xs, y :: ys => if x = y then lexS xs ys else ltS x y
theorem lexS_cons (x y : Str) (xs ys : List Str) : lexS (x :: xs) (y :: ys) = if x = y then lexS xs ys else ltS x y := rfl
inductive Strs : List Value → List Str → Prop where
  | nil : Strs [] []
  | cons (a : Str) (t : Tok) {vs : List Value} {ss : List Str} (r : Strs vs ss) : Strs (.str a t :: vs) (a :: ss)
theorem Strs.length {vs : List Value} {ss : List Str} (h : Strs vs ss) : vs.length = ss.length := by
  induction h with
  | nil => rfl
  | cons _ _ _ ih => simp [ih]
section
open PySem.SeqAt
open PySem.AutoSeq1 (wpAny_loadPart')
open PySem.MeetsSeq PySem.MeetsSeq2 PySem.MeetsSeq3
theorem eqAt_strs (A : Around) (s : Shared) (a : Str) (t : Tok) (c : Str) (u : Tok) : ∃ e, SeqAt.EqAt A s (.str a t) (.str c u) e ∧ (e = true ↔ a = c) :=
  ⟨decide (a = c), fun prog w E Q h => PySem.wpAny_eqBool_str h, by simp⟩
theorem rcLt_str (A : Around) (s : Shared) (a : Str) (t : Tok) (c : Str) (u : Tok) (prog : Program) (w : World) (E : Value → Shared → Prop) (Q : Value → Shared → Prop) (h : Q (.bool (ltS a c)) s) :
    wpAny (model prog w) A (richCompare .Lt (.str a t) (.str c u)) Q E s :=
  (PyProof.Rows.lt_str h : wpAny (model prog w) A (compareOp .Lt (.str a t) (.str c u)) Q E s)
theorem tuple_lt_strs (l b : Addr) (items items2 : Array Value) (n n2 : Nat) (dd dd2 : Option Addr) (sl sl2 : Array (Option Value)) (ns ms : List Str) (hi : Strs items.toList ns) (hj : Strs items2.toList ms) :
    Meets (Builtin.«tuple.__lt__» ⟨[.ref l, .ref b], []⟩)
      (fun _ R s => s.heap.get? l = some { cls := .type "tuple", dict := dd, data := .seq items n, slots := sl } ∧ s.heap.get? b = some { cls := .type "tuple", dict := dd2, data := .seq items2 n2, slots := sl2 } ∧
        R (.ok (.ret (.bool (lexS ns ms)))) s) :=
  .of_wp fun prog w A R s h => by
    obtain ⟨hp, g, d, tk, os⟩ := s; obtain ⟨hl, hb, h⟩ := h
    have f2 := AutoSeq1.sub_tuple_tuple
    have z1 : items.size = ns.length := by rw [← hi.length]; simp
    have z2 : items2.size = ms.length := by rw [← hj.length]; simp
    wp_walk using wpAny_loadPart' hl, wpAny_loadPart' hb, wpAny_forIn_list _ (fun rest b s' => b.1 = none ∧ s' = ⟨hp, g, d, tk, os⟩ ∧ ∃ (vs ws : List Value) (ns' ms' : List Str), rest = vs.zip ws ∧
      Strs vs ns' ∧ Strs ws ms' ∧ ns'.length + items2.size = ms'.length + items.size ∧ R (.ok (.ret (.bool (lexS ns' ms')))) ⟨hp, g, d, tk, os⟩) _
    case turn =>
      rintro ⟨y, x⟩ rest b s' ⟨hb', rfl, vs, ws, ns', ms', hz, hvi, hwi, hlen, hR⟩
      cases hvi with
      | nil => rw [List.zip_nil_left] at hz; cases hz
      | cons a t hvi' =>
        cases hwi with
        | nil => rw [List.zip_nil_right] at hz; cases hz
        | cons c u hwi' =>
          rw [List.zip_cons_cons] at hz
          injection hz with hyx hrest
          injection hyx with hy hx
          subst hy hx
          rw [lexS_cons] at hR
          simp only [List.length_cons] at hlen
          obtain ⟨e, he, hiff⟩ := eqAt_strs A.in1 ⟨hp, g, d, tk, os⟩ a t c u
          refine wpAny_bind (he prog w _ _ ?_)
          cases e with
          | true =>
            rw [if_pos (hiff.mp rfl)] at hR
            wp_walk
            exact ⟨rfl, rfl, _, _, _, _, hrest, hvi', hwi', by omega, hR⟩
          | false =>
            rw [if_neg (fun q => absurd (hiff.mpr q) Bool.false_ne_true)] at hR
            have hri := rcLt_str A.in1 ⟨hp, g, d, tk, os⟩ a t c u prog w
            wp_walk using hri
            exact ⟨_, rfl, by simpa using hR⟩
    case fin =>
      rintro ⟨b1, b2⟩ s' ⟨hb', rfl, vs, ws, ns', ms', hz, hvi, hwi, hlen, hR⟩
      simp only at hb'
      subst hb'
      have hv : lexS ns' ms' = decide (items.size < items2.size) := by
        cases hvi with
        | nil =>
          cases hwi with
          | nil =>
            simp only [List.length_nil] at hlen
            exact (decide_eq_false (by omega)).symm
          | cons c u hw =>
            simp only [List.length_nil, List.length_cons] at hlen
            exact (decide_eq_true (by omega)).symm
        | cons a t hv =>
          cases hwi with
          | nil =>
            simp only [List.length_nil, List.length_cons] at hlen
            exact (decide_eq_false (by omega)).symm
          | cons c u hw =>
            rw [List.zip_cons_cons] at hz
            cases hz
      rw [hv] at hR
      wp_walk
      exact ⟨_, rfl, by simpa [Builtin.Tuple.tupleCompareSizes] using hR⟩
    case h =>
      exact ⟨rfl, rfl, items.toList, items2.toList, ns, ms, rfl, hi, hj, by omega, h⟩
end
end KS
namespace L2
open PySem PySem.Spec PyProof.Rows PySem.W KS
section
variable {X : Cx}
/-! ### t < u of tuples of two texts -/
def rLtP : R2 := fun x y H Q => ∃ a b k m, x = .ref a ∧ y = .ref b ∧ H a = some (.tup [.str (Prod.fst k), .str (Prod.snd k)]) ∧ H b = some (.tup [.str (Prod.fst m), .str (Prod.snd m)]) ∧ Q (.bl (lt2 k m)) H
theorem op_ltP (hu : X.A.units + 64 < cLine) : OpR X (compareOp .Lt) rLtP := by
  intro pins s σ H x y v u Q I rx ry h
  obtain ⟨a, b, k, m, rfl, rfl, ha, hb, q⟩ := h
  cases rx
  cases ry
  obtain ⟨_, its, r1, p1⟩ := (show ObjOk X.prog X.w H s.heap a (.tup [.str k.1, .str k.2]) from I.hok a _ ha)
  obtain ⟨_, its2, r2, p2⟩ := (show ObjOk X.prog X.w H s.heap b (.tup [.str m.1, .str m.2]) from I.hok b _ hb)
  have i1 : Strs its [k.1, k.2] := by
    cases r1 with
    | cons r1 rv => cases rv with
      | cons r2 rv => cases rv; obtain ⟨t1, rfl⟩ := r1; obtain ⟨t2, rfl⟩ := r2; exact .cons _ _ (.cons _ _ .nil)
  have i2 : Strs its2 [m.1, m.2] := by
    cases r2 with
    | cons r1 rv => cases rv with
      | cons r2 rv => cases rv; obtain ⟨t1, rfl⟩ := r1; obtain ⟨t2, rfl⟩ := r2; exact .cons _ _ (.cons _ _ .nil)
  have e : lexS [k.1, k.2] [m.1, m.2] = lt2 k m := by
    unfold lt2
    rw [lexS_cons, lexS_cons]
    by_cases h1 : k.1 = m.1
    · rw [if_pos h1, if_pos h1]
      by_cases h2 : k.2 = m.2
      · rw [if_pos h2, h2, ltS_irr]; rfl
      · rw [if_neg h2]
    · rw [if_neg h1, if_neg h1]
  obtain ⟨⟨cls, dd, data, sl⟩, ho, hc, n, hd⟩ := id p1
  obtain ⟨⟨cls2, dd2, data2, sl2⟩, ho2, hc2, n2, hd2⟩ := id p2
  simp only at hc hd hc2 hd2
  subst hc hd hc2 hd2
  refine richCompare_meets_room (op := .Lt) ⟨_, ho, rfl⟩ ⟨_, ho2, rfl⟩ PySem.F.slot_tuple_lt PySem.F.entry_tuple_lt (PySem.F.args_tuple_lt_2 _ _) (tuple_lt_strs a b its.toArray its2.toArray n n2 dd dd2 sl sl2 _ _ i1 i2)
    ⟨ho, ho2, show Value.bool (lexS [k.1, k.2] [m.1, m.2]) ≠ Value.notImplemented ∧ _ from ⟨(fun x => nomatch x), ?_⟩⟩ (by omega)
  rw [e]
  exact ⟨.bl (lt2 k m), H, I, rfl, q⟩
theorem shp_list {ds : List PyData} (h : Shp (.list ds)) : PyData.canLayAll0 ds = true ∧ PyData.depthAll ds ≤ 63 := by
  have h' : SeqAt.shaped (.list ds) = true := h
  simp only [SeqAt.shaped, PyData.canLay0, PyData.depth, Bool.and_eq_true] at h'
  have := of_decide_eq_true h'.2
  exact ⟨h'.1, by omega⟩
theorem shp_can {d : PyData} (h : Shp d) : d.canLay0 = true := by
  have h' : SeqAt.shaped d = true := h
  simp only [SeqAt.shaped, Bool.and_eq_true] at h'
  exact h'.1
theorem op_inD (hu : X.A.units + 64 < cLine) : OpR X (compareOp .In) (rInD false) := by
  intro pins s σ H x y v u Q I rx ry h
  obtain ⟨d, ds, hd, hl, sd, sl, q⟩ := h
  obtain ⟨as, ra⟩ := hd.reads I.hok rx
  obtain ⟨h1, h2⟩ := shp_list sl
  rcases hl with hl | hl
  · obtain ⟨bs, rb⟩ := hl.reads I.hok ry
    exact SeqAt.in_list_reads rb ra h1 (shp_can sd) (by omega) ⟨.bl _, H, I, rfl, by simpa using q⟩
  · obtain ⟨bs, rb⟩ := hl.reads I.hok ry
    exact SeqAt.in_tuple_reads rb ra h1 (shp_can sd) (by omega) ⟨.bl _, H, I, rfl, by simpa using q⟩
theorem op_notinD (hu : X.A.units + 64 < cLine) : OpR X (compareOp .NotIn) (rInD true) := by
  intro pins s σ H x y v u Q I rx ry h
  obtain ⟨d, ds, hd, hl, sd, sl, q⟩ := h
  obtain ⟨as, ra⟩ := hd.reads I.hok rx
  obtain ⟨h1, h2⟩ := shp_list sl
  rcases hl with hl | hl
  · obtain ⟨bs, rb⟩ := hl.reads I.hok ry
    exact SeqAt.notIn_list_reads rb ra h1 (shp_can sd) (by omega) ⟨.bl _, H, I, rfl, by simpa using q⟩
  · obtain ⟨bs, rb⟩ := hl.reads I.hok ry
    exact SeqAt.notIn_tuple_reads rb ra h1 (shp_can sd) (by omega) ⟨.bl _, H, I, rfl, by simpa using q⟩
end
/-- pairs of texts in a list -/
def twoD (k : Str × Str) : PyData := .tuple [.str k.1, .str k.2]
theorem reps_two {H : Hp} : ∀ {ks : List (Str × Str)} {rs : List Addr}, Paired (fun (k : Str × Str) r => H r = some (.tup [.str k.1, .str k.2])) ks rs → Reps H (ks.map twoD) (rs.map V.ref)
  | _, _, .nil => rfl
  | _, _, .cons h r => ⟨_, _, rfl, ⟨_, _, rfl, h, _, _, rfl, rfl, _, _, rfl, rfl, rfl⟩, reps_two r⟩
theorem any_two (ks : List (Str × Str)) (k : Str × Str) : (ks.map twoD).any (fun z => PyData.eqv z (twoD k)) = decide (k ∈ ks) := by
  rw [List.any_map, Bool.eq_iff_iff, List.any_eq_true]
  simp only [decide_eq_true_eq, Function.comp]
  constructor
  · rintro ⟨z, hz, h⟩
    have h : PyData.eqv (.tuple [.str z.1, .str z.2]) (.tuple [.str k.1, .str k.2]) = true := h
    rw [eqv_two, decide_eq_true_eq] at h
    obtain ⟨h1, h2⟩ := shelf_inj h
    rw [← (Prod.ext h1 h2 : z = k)]
    exact hz
  · intro hk
    refine ⟨k, hk, ?_⟩
    show PyData.eqv (.tuple [.str k.1, .str k.2]) (.tuple [.str k.1, .str k.2]) = true
    rw [eqv_two, decide_eq_true_eq]
theorem shp_twos {ks : List (Str × Str)} (h : ∀ k ∈ ks, goodNm k.1 ∧ goodNm k.2) : Shp (.list (ks.map twoD)) := by
  have : PyData.canLayAll0 (ks.map twoD) = true ∧ PyData.depthAll (ks.map twoD) ≤ 2 := by
    induction ks with
    | nil => exact ⟨rfl, by simp [PyData.depthAll]⟩
    | cons k r ih =>
      obtain ⟨h1, h2⟩ := ih fun l hl => h l (List.mem_cons_of_mem _ hl)
      obtain ⟨a, b⟩ := h k List.mem_cons_self
      refine ⟨?_, ?_⟩
      · simp only [List.map_cons, PyData.canLayAll0, h1, Bool.and_true]
        simp [twoD, PyData.canLay0, PyData.canLayAll0, a.ok, b.ok]
      · simp only [List.map_cons, PyData.depthAll]
        have : (twoD k).depth ≤ 2 := by simp [twoD, PyData.depth, PyData.depthAll]
        omega
  show SeqAt.shaped _ = true
  simp only [SeqAt.shaped, PyData.canLay0, PyData.depth, this.1, Bool.true_and]
  exact decide_eq_true (by omega)
theorem inD_two {neg : Bool} {H : Hp} {t p : Addr} {k : Str × Str} {ks : List (Str × Str)} {rs : List Addr} {Q : VK} (ht : H t = some (.tup [.str k.1, .str k.2])) (hp : H p = some (.lst (rs.map V.ref))) (hr : Paired (fun (k : Str × Str) r => H r = some (.tup [.str k.1, .str k.2])) ks rs)
    (hk : goodNm k.1 ∧ goodNm k.2) (hks : ∀ k ∈ ks, goodNm k.1 ∧ goodNm k.2) (q : Q (.bl (xor neg (decide (k ∈ ks)))) H) : rInD neg (.ref t) (.ref p) H Q :=
  ⟨twoD k, ks.map twoD, ⟨_, _, rfl, ht, _, _, rfl, rfl, _, _, rfl, rfl, rfl⟩, (.inl ⟨_, _, rfl, hp, reps_two hr⟩), shp_two hk.1.ok hk.2.ok, shp_twos hks, by rw [any_two]; exact q⟩
theorem isi_tup {K : PySem.W.Frag} {H : Hp} {a : Addr} {xs : List V} {Q : VK} (h : H a = some (.tup xs)) (q : Q (.bl true) H) : rIsi K [.ref a, .ty "tuple"] H Q :=
  ⟨_, _, _, true, rfl, .tup h, kit_ty (by decide +kernel) (by decide +kernel), q⟩
theorem isi_lst {K : PySem.W.Frag} {H : Hp} {a : Addr} {xs : List V} {Q : VK} (h : H a = some (.lst xs)) (q : Q (.bl true) H) : rIsi K [.ref a, .ty "list"] H Q :=
  ⟨_, _, _, true, rfl, .lst h, kit_ty (by decide +kernel) (by decide +kernel), q⟩
end L2

namespace L2
open PySem PySem.Spec PyProof.Rows PySem.W KS
/-! ### list(d) -/
def KeysAt (H : Hp) : List (KD × V) → List V → Prop := Paired fun kv y => KeyV H kv.1 y
theorem KeysAt.same {H H' : Hp} {kvs : List (KD × V)} {ys : List V} (h : KeysAt H kvs ys) (s : Same H H') : KeysAt H' kvs ys := Paired.mapP h fun _ _ e => e.same s
/-- the values that stand in a dict's entries, as the keys' -/
theorem ent_keys {P : Program} {w : World} {ent : Array DictEntry} {ts : List (KD × Value × Value)} (he : ent.toList = ts.map (entX P w)) {ys : List V} (rys : Paired (fun y (x : KD × Value × Value) => RelV y x.2.1) ys ts) : Vals ys (ent.toList.map (·.key)) := by
  rw [he, List.map_map]
  clear he
  induction rys with
  | nil => exact .nil
  | cons h t ih => exact .cons h ih
theorem ent_vals {H : Hp} {P : Program} {w : World} {ent : Array DictEntry} {ts : List (KD × Value × Value)} {kvs : List (KD × V)} (he : ent.toList = ts.map (entX P w)) (rx : KX H kvs ts) : Vals (kvs.map (·.2)) (ent.toList.map (·.val)) := by
  rw [he, List.map_map]
  clear he
  induction rx with
  | nil => exact .nil
  | cons h t ih => exact .cons h.2.2 ih
def rListD : List V → Hp → VK → Prop := fun xs H Q => ∃ a ep kvs, xs = [.ref a] ∧ H a = some (.dX ep kvs) ∧ ∀ l ys, H l = none → KeysAt H kvs ys → Q (.ref l) (upd H l (.lst ys))
theorem call_list_dX {X : Cx} (hc : X.calm = true) : CallR X (.type "list") rListD := by
  intro pins s σ H xs us Q I r h
  obtain ⟨a, ep, kvs, rfl, ha, q⟩ := h
  obtain ⟨u, rfl, ru⟩ := vals1 r
  cases ru
  obtain ⟨hz, hd, ts, rx, m⟩ := dx_of I.hok ha
  obtain ⟨ent, rd, he⟩ := m.raw
  have hsz : ent.size = kvs.length := by rw [ent_size he, ← rx.length]
  obtain ⟨ys, hys, rys⟩ := rx.keysV
  refine kdl_call (kdl_raw hd) (I.ok.hd hc) rd (by rw [hsz]; exact hz) fun h' tk acc c hk hS hacc => ?_
  have hvs : acc.toList = ent.toList.map (·.key) := by
    refine List.ext_getElem? fun i => ?_
    rw [List.getElem?_map, Array.getElem?_toList, Array.getElem?_toList]
    by_cases hi : i < ent.size
    · obtain ⟨v, hv⟩ : ∃ v, acc[i]? = some v := ⟨_, Array.getElem?_eq_getElem (by rw [hacc.1]; exact hi)⟩
      obtain ⟨e, he, rfl⟩ := hacc.2 i v hv
      rw [hv, he]; rfl
    · rw [Array.getElem?_eq_none (by rw [hacc.1]; omega), Array.getElem?_eq_none (by omega)]; rfl
  have hyl : ys.length ≤ sizeLine := by rw [← hys.length]; exact hz
  obtain ⟨fr, inv⟩ := I.laidN (h' := h') (t' := tk) (p := s.heap.objs.size) (o := .lst ys) hk (Heap.get?_none_of_le (Nat.le_refl _)) ⟨hyl, _, c, ent_keys he rys, by rw [← hvs, Array.toArray_toList]; exact hS⟩
  exact ⟨.ref s.heap.objs.size, _, inv, rfl, q _ _ fr hys⟩
/-! ### for k in d -/
def Itk (a : Addr) (ep n : Nat) : It :=
  ⟨fun i H => ∃ kvs kv, H a = some (.dX ep kvs) ∧ kvs.length = n ∧ kvs[i]? = some kv,
   fun i H x H' => H' = H ∧ ∃ kvs kv, H a = some (.dX ep kvs) ∧ kvs[i]? = some kv ∧ KeyV H kv.1 x,
   fun i H => (∃ kvs, H a = some (.dX ep kvs) ∧ kvs.length = n) ∧ n ≤ i⟩
theorem turn_keys {P : Program} {w : World} {K : PySem.W.Frag} {tg : Expr} (a it : Addr) (ep n : Nat) : Turn P w K tg (Itk a ep n) [it] it (fun i h => h.IsKeyIter it a i n ep) where
  mem := by simp
  obj := fun i h st b hb => by
    have e : b = it := by simpa using hb
    subst e
    obtain ⟨o, e, c, d⟩ := st
    exact ⟨o, e, fun v z => by rw [d] at z; cases z⟩
  keep := fun i h h' st k => st.at fun o e => k it (by simp) o e
  item := by
    intro X hP hw hK hc i pins s σ H E I hf st hg
    subst hP hw hK
    obtain ⟨kvs, kv, ha, hn, hx⟩ := hg
    obtain ⟨hz, hd, xs, r, m⟩ := dx_of I.hok ha
    obtain ⟨ent, rd, he⟩ := m.raw
    obtain ⟨u, v, hxs, hU, rv⟩ := r.at hx
    have hsz : ent.size = n := by rw [ent_size he, ← r.length, hn]
    have hent : ent[i]? = some ⟨hashX X.prog X.w kv.1, u, v⟩ := by rw [ent_at he i, hxs]; rfl
    obtain ⟨y, hy, ry⟩ := hU.v
    subst hsz
    obtain ⟨f0, f1, f2, f3, f4, f5⟩ := hf it (by simp)
    refine next_keys_x st rd hent fun h' st' sb => ?_
    have I1 : Inv X pins σ H { s with heap := h' } := I.turned (t' := s.toks) (fun b o hb e => (sb.2 b hb).trans e) f0 f1 f3 f4 f5
    obtain ⟨o, e, c, d⟩ := id st'
    exact ⟨u, rfl, go_of (s := { s with heap := h' }) e c d (by decide) ⟨y, H, I1, ry, ⟨rfl, kvs, kv, ha, hx, hy⟩, st', fun b hb => (hf b hb).1⟩⟩
  done := by
    intro X hP hw hK hc i pins s σ H E I hf st hg
    subst hP hw hK
    obtain ⟨⟨kvs, ha, hn⟩, hi⟩ := hg
    obtain ⟨hz, hd, xs, r, m⟩ := dx_of I.hok ha
    obtain ⟨ent, rd, he⟩ := m.raw
    have hsz : ent.size = n := by rw [ent_size he, ← r.length, hn]
    subst hsz
    obtain ⟨f0, f1, f2, f3, f4, f5⟩ := hf it (by simp)
    exact end_keys_x (I.ok.hd hc) st rd hi fun h' eb => ⟨rfl, I.turned (t' := s.toks) (fun b o hb e => eb b o hb e) f0 f1 f3 f4 f5⟩
  self := fun _ _ _ _ _ st h => wpAny_pyIter_keyiter st h
def iKeys (te : TE) : TI := fun σ H R => te σ H fun x H1 => ∃ a ep kvs, x = .ref a ∧ H1 a = some (.dX ep kvs) ∧ R (Itk a ep kvs.length) H1
theorem pi_keys {X : Cx} {tg e : Expr} {te : TE} (he : PE X e te) : PI X tg e (iKeys te) := by
  intro pins s σ H R I h
  refine thn (he pins s σ H _ I h) fun u s1 ⟨x, H1, I1, r1, q1⟩ => ?_
  obtain ⟨a, ep, kvs, rfl, ha, q⟩ := q1
  cases r1
  obtain ⟨hz, hd, ts, rx, m⟩ := dx_of I1.hok ha
  obtain ⟨ent, rd, hent⟩ := m.raw
  have hsz : ent.size = kvs.length := by rw [ent_size hent, ← rx.length]
  refine iter_keys_x hd rd ?_
  refine ⟨s1.heap.objs.size, [s1.heap.objs.size], _, _, H1, rfl, I1.kept (t' := s1.toks) fun b o e => Heap.get?_push_of_some _ e, turn_keys a _ ep kvs.length, ?_, fun b hb => ?_, q⟩
  · rw [← hsz]
    exact ⟨_, Heap.get?_push_size _ rfl, rfl, rfl⟩
  · have e : b = s1.heap.objs.size := by simpa using hb
    subst e
    exact I1.fpOk (Nat.le_refl _) (I1.hok.fresh (Nat.le_refl _))
theorem y_keys (a : Addr) (ep : Nat) (kvs : List (KD × V)) : Yields (Itk a ep kvs.length) kvs.length (fun _ H => H a = some (.dX ep kvs))
    (fun i H x H' => H' = H ∧ ∃ kv, kvs[i]? = some kv ∧ KeyV H kv.1 x) where
  go := fun i H h hq => ⟨kvs, kvs[i], hq, rfl, List.getElem?_eq_getElem h⟩
  yld := fun i H x H' h hq z => by
    obtain ⟨e, kvs', kv, ha, hi, hk⟩ := z
    rw [hq] at ha
    cases ha
    exact ⟨e, kv, hi, hk⟩
  stop := fun H hq => ⟨⟨kvs, hq, rfl⟩, Nat.le_refl _⟩
end L2

namespace L2
open PySem PySem.Spec PyProof.Rows PySem.W KS
/-! ### d.values(), sum of it -/
section
variable {prog : Program} {w : World} {A : Around} {E : Value → Shared → Prop} {s : Shared} {d r : Addr} {es : Array DictEntry} {ep : Nat}
theorem walks_rawV (hh : A.handled = none) (I d : Addr) (hne : d ≠ I) (es : Array DictEntry) (ep : Nat) :
    Walks prog w A I [I, d] [I] es.size (fun i v => ∃ e, es[i]? = some e ∧ v = e.val) (fun i h => h.IsValIter I d i es.size ep ∧ RawD h d es ep) where
  sub := fun b hb => by simp at hb; simp [hb]
  frame := fun _ _ _ st hk => ⟨st.1.at fun o e => hk I (by simp) o e, st.2.keep fun o e => hk d (by simp) o e⟩
  item := fun i s Q E hi st hQ => by
    obtain ⟨e, hx⟩ : ∃ e, es[i]? = some e := ⟨es[i], by simp [hi]⟩
    refine next_vals_x st.1 st.2 hx fun h' hit' hs' => ?_
    exact hQ e.val h' s.toks ⟨e, hx, rfl⟩ ⟨hit', st.2.keep fun o e => hs'.extBut d o hne e⟩ fun b o hb e => hs'.extBut b o (fun h => hb (by simp [h])) e
  done := fun s Q E st hQ => end_vals_x hh st.1 st.2 (by simp) fun h' he' => hQ h' s.toks fun b o hb e => he' b o (fun h => hb (by simp [h])) e
  self := fun _ _ _ _ st hQ => wpAny_pyIter_valiter st.1 hQ
theorem kdl_rawV : KdlSrc prog w "dict_values" r d es.size (fun i v => ∃ e, es[i]? = some e ∧ v = e.val) (fun h => h.IsValuesView r d ∧ RawD h d es ep) where
  type := fun _ hm => hm.1.typeIs
  there := fun _ hm => ⟨let ⟨_, ho, _⟩ := hm.1; Heap.lt_size ho, hm.2.lt⟩
  keep := fun _ _ hm hk => ⟨let ⟨o, ho, x⟩ := hm.1; ⟨o, hk r (.inl rfl) o ho, x⟩, hm.2.keep fun o e => hk d (.inr rfl) o e⟩
  notList := by decide
  notTuple := by decide
  hint := fun _ _ _ _ hm hq => kdl_hint_values hm.1.typeIs hq
  iter := fun _ _ hh hm => ⟨_, _, (fun _ _ hq => iter_vals_x hm.1 hm.2 hq), walks_rawV hh _ d (Nat.ne_of_lt hm.2.lt) es ep, ⟨⟨_, Heap.get?_push_size _ rfl, rfl, rfl⟩, hm.2.keep fun o e => Heap.get?_push_of_some _ e⟩⟩
theorem sum_src {T : String} {n : Nat} {P : Nat → Value → Prop} {OK : Heap → Prop} {Q : Value → Shared → Prop} (K : KdlSrc prog w T r d n P OK) (hh : A.handled = none) (hok : OK s.heap) (val : Nat → Int) (hval : ∀ (i : Nat) (v : Value), P i v → ∃ t : Tok, v = Value.int (val i) t)
    (h : ∀ (h' : Heap) (tk : Nat) (t' : Tok), (∀ b o, s.heap.get? b = some o → h'.get? b = some o) → Q (.int (preSum val n) t') { s with heap := h', toks := tk }) :
    wpAny (model prog w) A (call (.builtin "sum") [.ref r]) Q E s := by
  refine call_sum_walkAnyS ?_
  obtain ⟨oI, St, hit, W, st⟩ := K.iter A.in1 s hh hok
  refine hit _ _ ⟨s.heap.objs.size, _, _, _, n, P, _, val, rfl, W.toS, st, fun b hb => ?_, hval, fun s' t' hm => ?_⟩
  · show b < (s.heap.push oI).objs.size
    rw [size_push']
    rcases List.mem_cons.mp hb with e | hb
    · rw [e]; exact Nat.lt_succ_self _
    · rw [List.mem_singleton.mp hb]; exact Nat.lt_succ_of_lt (K.there _ hok).2
  · rw [Moved.eq_with hm]
    exact h s'.heap s'.toks t' fun b o e => hm.heap b o (fun hI => absurd (Heap.lt_size e) (by rw [List.mem_singleton.mp hI]; exact Nat.lt_irrefl _)) (Heap.get?_push_of_some _ e)
end
def viewVO (v d : Addr) : HO := .ext fun h => h.IsValuesView v d
def rValues : V → List V → Hp → VK → Prop := fun x vs H Q => ∃ a ep kvs, x = .ref a ∧ vs = [] ∧ H a = some (.dX ep kvs) ∧ ∀ p, H p = none → Q (.ref p) (upd H p (viewVO p a))
theorem mt_values {X : Cx} : MtR X "dict.values" rValues := by
  intro pins s σ H x vs v us Q I rx rv h
  obtain ⟨a, ep, kvs, rfl, rfl, ha, q⟩ := h
  cases rx
  cases rv
  obtain ⟨hz, hd, xs, r, m⟩ := dx_of I.hok ha
  obtain ⟨es, rd, _⟩ := m.raw
  refine call_meetsIn PySem.F.slot_dict_values m.typeIs PySem.F.entry_dict_values (PySem.F.args_dict_values_1 _) (meets_values_x a hd) ⟨⟨es, ep, rd⟩, ?_⟩
  refine ⟨.ref s.heap.objs.size, _, I.laid (a := s.heap.objs.size) (o := viewVO s.heap.objs.size a) (t' := s.toks) (fun _ _ e => Heap.get?_push_of_some _ e) (Nat.le_refl _) ?_, rfl, q _ (I.hok.fresh (Nat.le_refl _))⟩
  exact ⟨⟨_, Heap.get?_push_size _ rfl, rfl, rfl⟩, ⟨_, Heap.get?_push_size _ rfl⟩, fun h1 h2 ⟨o, e, c⟩ k => ⟨o, k o e, c⟩⟩
def rSumV : List V → Hp → VK → Prop := fun xs H Q => ∃ v a ep ns, xs = [.ref v] ∧ H v = some (viewVO v a) ∧ H a = some (.dX ep (iv ns)) ∧ Q (.int (ns.map (·.2)).sum) H
theorem preSum_list : ∀ (ns : List Int), preSum (fun i => ns.getD i 0) ns.length = ns.sum
  | [] => rfl
  | n :: ns => by
    rw [List.length_cons, kdu_shift]
    show n + preSum (fun i => ns.getD i 0) ns.length = _
    rw [preSum_list ns, List.sum_cons]
theorem call_sum_values {X : Cx} (hc : X.calm = true) : CallR X (.builtin "sum") rSumV := by
  intro pins s σ H xs us Q I r h
  obtain ⟨v, a, ep, ns, rfl, hv, ha, q⟩ := h
  obtain ⟨u, rfl, ru⟩ := vals1 r
  cases ru
  obtain ⟨hz, hd, ts, rx, m⟩ := dx_of I.hok ha
  obtain ⟨ent, rd, he⟩ := m.raw
  obtain ⟨ivw, _, _⟩ := (show ObjOk X.prog X.w H s.heap v (viewVO v a) from I.hok v _ hv)
  have hsz : ent.size = ns.length := by rw [ent_size he, ← rx.length]; unfold iv; rw [List.length_map]
  refine sum_src kdl_rawV (I.ok.hd hc) ⟨ivw, rd⟩ (fun i => (ns.map (·.2)).getD i 0) (fun i x hx => ?_) fun h' tk t' hk => ?_
  · obtain ⟨e, he1, rfl⟩ := hx
    have hi : i < ns.length := by have := (Array.getElem?_eq_some_iff.mp he1).1; omega
    have hkv : (iv ns)[i]? = some (ns[i].1, V.int ns[i].2) := by unfold iv; rw [List.getElem?_map, List.getElem?_eq_getElem hi]; rfl
    obtain ⟨u, v', hts, _, rv⟩ := rx.at hkv
    rw [ent_at he i, hts] at he1
    cases he1
    obtain ⟨t, rfl⟩ := rv
    refine ⟨t, ?_⟩
    simp [List.getD_eq_getElem?_getD, List.getElem?_eq_getElem hi, entX]
  · refine ⟨.int (ns.map (·.2)).sum, H, I.kept (t' := tk) hk, ⟨t', ?_⟩, q⟩
    rw [hsz, ← preSum_list]
    simp
end L2

namespace L2
open PySem PySem.Spec PyProof.Rows PySem.W KS
/-! ### d == e, d != e (by their entries) -/
section
variable {P : Program} {w : World} {A : Around} {E : Value → Shared → Prop} {s : Shared}
inductive HitsX (A : Around) (s : Shared) (ys : Tab) : Tab → Bool → Prop
  | nil : HitsX A s ys [] true
  | miss {k : KD} {u v : Value} {r : Tab} : atX ys k = none → HitsX A s ys ((k, u, v) :: r) false
  | hit {k : KD} {u v y : Value} {u' : Value} {r : Tab} {e b : Bool} : atX ys k = some (u', y) → SeqAt.EqAt A s v y e → HitsX A s ys r b → HitsX A s ys ((k, u, v) :: r) (e && b)
theorem HitsX.inv {ys : Tab} {k : KD} {u v : Value} {r : Tab} {b : Bool} (h : HitsX A s ys ((k, u, v) :: r) b) :
    (atX ys k = none ∧ b = false) ∨ ∃ u' y e b', atX ys k = some (u', y) ∧ SeqAt.EqAt A s v y e ∧ HitsX A s ys r b' ∧ b = (e && b') := by
  cases h with
  | miss hn => exact .inl ⟨hn, rfl⟩
  | hit hy he hr => exact .inr ⟨_, _, _, _, hy, he, hr, rfl⟩
theorem same_x {nm : String} {a b : Addr} {xs ys : Tab} {ep ep' : Nat} {r : Bool} {Q : Bool → Shared → Prop} (ha : (a == sysModules) = false) (hb : (b == sysModules) = false) (hu : A.units < cLine)
    (da : DX P w s.heap a ep xs) (db : DX P w s.heap b ep' ys) (hits : xs.length = ys.length → HitsX A s ys xs r) (h : Q (xs.length == ys.length && r) s) :
    wpAny (model P w) A (Builtin.Dict.samePairs nm a b) Q E s := by
  obtain ⟨oa, es, hoa, _, hda, hea, hka, hna⟩ := da
  obtain ⟨ob, es', hob, _, hdb, heb, hkb, hnb⟩ := db
  have hla : xs.length = es.size := (ent_size hea).symm
  have hlb : ys.length = es'.size := (ent_size heb).symm
  rw [hla, hlb] at h
  unfold Builtin.Dict.samePairs Builtin.Dict.showsAll
  rw [if_neg (show ¬ (a == sysModules) = true by rw [ha]; exact Bool.false_ne_true), if_neg (show ¬ (b == sysModules) = true by rw [hb]; exact Bool.false_ne_true)]
  refine wpAny_bind (wpAny_pure (wpAny_bind (wpAny_pure ?_)))
  refine wpAny_bind (wpAny_dictEntries hoa hda ?_)
  dsimp only
  refine wpAny_bind (wpAny_dictEntries hob hdb ?_)
  by_cases hsz : es.size = es'.size
  case neg =>
    rw [if_pos (by simpa using hsz)]
    have hbf : (es.size == es'.size) = false := by simpa using hsz
    rw [hbf, Bool.false_and] at h
    exact wpAny_bind (wpAny_rule (wpAny_pure h))
  case pos =>
    have h' : Q r s := by simpa [hsz] using h
    have hits' := hits (by rw [hla, hlb]; exact hsz)
    rw [if_neg (by rw [hsz]; simp)]
    refine wpAny_bind (wpAny_dictEpoch hoa hda ?_)
    refine wpAny_bind ?_
    rw [Std.Legacy.Range.forIn_eq_forIn_range']
    simp only [Std.Legacy.Range.size, Nat.sub_zero, Nat.add_sub_cancel, Nat.div_one]
    refine wpAny_forIn_list _
      (fun rest q s' => s' = s ∧ q = (none, ()) ∧ ∃ i, rest = List.range' i (es.size - i) ∧ i ≤ es.size ∧ HitsX A s ys (xs.drop i) r)
      _ ?_ ?_ _ _ ⟨rfl, rfl, 0, by simp, Nat.zero_le _, hits'⟩
    · rintro x rest q s' ⟨rfl, rfl, i, hr, hi, hpre⟩
      have hlt : i < es.size := by
        rcases Nat.lt_or_ge i es.size with h | h
        · exact h
        · rw [Nat.sub_eq_zero_of_le h] at hr; simp at hr
      obtain ⟨rfl, hrest⟩ : x = i ∧ rest = List.range' (i + 1) (es.size - (i + 1)) := by
        have e : es.size - i = (es.size - (i + 1)) + 1 := by omega
        rw [e, List.range'_succ] at hr
        injection hr with h1 h2
        exact ⟨h1, h2⟩
      refine wpAny_bind (wpAny_dictEntries hoa hda ?_)
      have hlt' : x < xs.length := by rw [hla]; exact hlt
      obtain ⟨k, u, v, hkv⟩ : ∃ k u v, xs[x]? = some (k, u, v) := ⟨_, _, _, List.getElem?_eq_getElem hlt'⟩
      have hdrop : xs.drop x = (k, u, v) :: xs.drop (x + 1) := by
        rw [List.drop_eq_getElem_cons hlt']
        rw [List.getElem?_eq_getElem hlt'] at hkv
        rw [Option.some.inj hkv]
      rw [ent_at hea x, hkv]
      have hkA := hka _ (List.mem_of_getElem? hkv)
      rw [hdrop] at hpre
      show wpAny _ _ (holding [u, v] _ >>= _) _ _ _
      refine wpAny_bind (wpAny_holding (wpAny_bind (findX (k := k) (u := u) hu hkA hob hdb heb hkb hnb ?_ ?_)))
      · intro hno
        have hn := atX_none hno
        rcases hpre.inv with ⟨_, er⟩ | ⟨u', y, _, _, hy, _⟩
        · rw [er] at h'
          refine wpAny_pure ?_
          show wpAny _ _ (if (!false) = true then _ else _) _ _ _
          rw [if_pos (by decide)]
          exact wpAny_pure (wpAny_pure h')
        · rw [hn] at hy; exact nomatch hy
      · intro j p hj
        have hv' := atX_of_get hnb hj
        refine wpAny_bind (wpAny_dictEntries hob hdb ?_)
        rw [ent_at heb j, hj]
        rcases hpre.inv with ⟨hn, _⟩ | ⟨u', y, e, b', hy, he, hrr, er⟩
        · rw [hv'] at hn; exact nomatch hn
        · have ey : p = (u', y) := Option.some.inj (hv'.symm.trans hy)
          subst ey
          refine wpAny_holding (he P w _ _ ?_)
          cases e with
          | false =>
            rw [er, Bool.false_and] at h'
            show wpAny _ _ (if (!false) = true then _ else _) _ _ _
            rw [if_pos (by decide)]
            exact wpAny_pure (wpAny_pure h')
          | true =>
            rw [Bool.true_and] at er
            rw [← er] at hrr
            show wpAny _ _ (if (!true) = true then _ else _) _ _ _
            rw [if_neg (by decide)]
            refine wpAny_bind (wpAny_dictEpoch hoa hda ?_)
            rw [if_neg (by simp)]
            exact wpAny_pure ⟨rfl, rfl, x + 1, hrest, hlt, hrr⟩
    · rintro q s' ⟨rfl, rfl, i, hr, hi, hpre⟩
      have hin : i = es.size := by
        rcases Nat.lt_or_ge i es.size with h | h
        · have e : es.size - i = (es.size - (i + 1)) + 1 := by omega
          rw [e, List.range'_succ] at hr; exact nomatch hr
        · exact Nat.le_antisymm hi h
      refine wpAny_pure ?_
      rw [hin, ← hla, List.drop_length] at hpre
      cases hpre
      exact h'
theorem eq_x {a b : Addr} {xs ys : Tab} {ep ep' : Nat} {r : Bool} {Q : Value → Shared → Prop} (ha : (a == sysModules) = false) (hb : (b == sysModules) = false) (hu : A.units + 1 < cLine)
    (da : DX P w s.heap a ep xs) (db : DX P w s.heap b ep' ys) (hits : xs.length = ys.length → HitsX A.in1 s ys xs r) (h : Q (.bool (xs.length == ys.length && r)) s) :
    wpAny (model P w) A (compareOp .Eq (.ref a) (.ref b)) Q E s := by
  refine wpAny_richCompare_same_room (op := .Eq) da.typeIs db.typeIs PySem.F.slot_dict_eq (wpAny_call_entry PySem.F.slot_dict_eq da.typeIs PySem.F.entry_dict_eq ?_ (PySem.F.args_dict_eq_2 _ _)) (by omega)
  show wpAny _ _ (Builtin.Dict.dictSlotArgs "__eq__" ⟨[.ref a, .ref b], []⟩ >>= _) _ _ s
  refine wpAny_bind ?_
  unfold Builtin.Dict.dictSlotArgs
  refine wpAny_bind (wpAny_notOrdered_dict da.typeIs ?_)
  show wpAny _ _ (pure (Value.ref a, Value.ref b)) _ _ s
  refine wpAny_pure ?_
  refine wpAny_bind (wpAny_isInstance (T := "dict") db.typeIs PySem.F.sub_dict_dict ?_)
  simp only [Bool.not_true, Bool.false_eq_true, if_false]
  refine wpAny_bind (wpAny_pure (wpAny_bind (wpAny_pure ?_)))
  refine wpAny_bind (same_x ha hb hu da db hits ?_)
  refine wpAny_pure ⟨_, rfl, ?_, ?_⟩
  · exact fun x => nomatch x
  · simpa using h
theorem ne_x {a b : Addr} {xs ys : Tab} {ep ep' : Nat} {r : Bool} {Q : Value → Shared → Prop} (ha : (a == sysModules) = false) (hb : (b == sysModules) = false) (hu : A.units + 1 < cLine)
    (da : DX P w s.heap a ep xs) (db : DX P w s.heap b ep' ys) (hits : xs.length = ys.length → HitsX A.in1 s ys xs r) (h : Q (.bool (!(xs.length == ys.length && r))) s) :
    wpAny (model P w) A (compareOp .NotEq (.ref a) (.ref b)) Q E s := by
  refine wpAny_richCompare_same_room (op := .NotEq) da.typeIs db.typeIs PySem.F.slot_dict_ne (wpAny_call_entry PySem.F.slot_dict_ne da.typeIs PySem.F.entry_dict_ne ?_ (PySem.F.args_dict_ne_2 _ _)) (by omega)
  show wpAny _ _ (Builtin.Dict.dictSlotArgs "__ne__" ⟨[.ref a, .ref b], []⟩ >>= _) _ _ s
  refine wpAny_bind ?_
  unfold Builtin.Dict.dictSlotArgs
  refine wpAny_bind (wpAny_notOrdered_dict da.typeIs ?_)
  show wpAny _ _ (pure (Value.ref a, Value.ref b)) _ _ s
  refine wpAny_pure ?_
  refine wpAny_bind (wpAny_isInstance (T := "dict") db.typeIs PySem.F.sub_dict_dict ?_)
  simp only [Bool.not_true, Bool.false_eq_true, if_false]
  refine wpAny_bind (wpAny_pure (wpAny_bind (wpAny_pure ?_)))
  refine wpAny_bind (same_x ha hb hu da db hits ?_)
  refine wpAny_pure ⟨_, rfl, ?_, ?_⟩
  · exact fun x => nomatch x
  · simpa using h
end
/-! sheets: the same numbers at the same keys -/
def sameS (a b : List (KD × Int)) : Bool := a.length == b.length && a.all fun p => decide (Sh.look b p.1 = some p.2)
theorem sameS_self {a : List (KD × Int)} (nd : (a.map (·.1)).Nodup) : sameS a a = true := by
  unfold sameS
  rw [beq_self_eq_true, Bool.true_and, List.all_eq_true]
  exact fun p hp => decide_eq_true (Sh.look_mem nd hp)
theorem hits_iv {H : Hp} {P : Program} {w : World} {A : Around} {s : Shared} {b : List (KD × Int)} {ys : Tab} (ry : KX H (iv b) ys) : ∀ {a : List (KD × Int)} {xs : Tab}, KX H (iv a) xs → HitsX A s ys xs (a.all fun p => decide (Sh.look b p.1 = some p.2))
  | [], _, h => by cases h; exact .nil
  | p :: a, _, h => by
    cases h with
    | @cons _ q _ xs z t =>
      obtain ⟨k, u, v⟩ := q
      obtain ⟨e1, _, rv⟩ := z
      have e1 : p.1 = k := e1
      subst e1
      obtain ⟨t1, rfl⟩ := (show ∃ t, v = Value.int p.2 t from rv)
      have hv := ry.val p.1
      rw [valV_iv] at hv
      have ih := hits_iv (P := P) (w := w) (A := A) (s := s) ry t
      rw [List.all_cons]
      cases hy : atX ys p.1 with
      | none =>
        rw [hy] at hv
        have hl : Sh.look b p.1 = none := by
          cases hq : Sh.look b p.1 with
          | none => rfl
          | some n => rw [hq] at hv; exact False.elim hv
        rw [hl]
        simp only [reduceCtorEq, decide_false, Bool.false_and]
        exact .miss hy
      | some q =>
        obtain ⟨u', y⟩ := q
        rw [hy] at hv
        cases hq : Sh.look b p.1 with
        | none => rw [hq] at hv; exact False.elim hv
        | some n =>
          rw [hq] at hv
          obtain ⟨t2, rfl⟩ := (show ∃ t, y = Value.int n t from hv)
          have e : decide (some n = some p.2) = (p.2 == n) := by
            rw [Bool.eq_iff_iff]
            simp only [decide_eq_true_eq, Option.some.injEq, beq_iff_eq]
            exact eq_comm
          rw [e]
          exact .hit hy (SeqAt.EqAt.int_int _ _ _ _) ih
def rEqX (neg : Bool) : R2 := fun x y H Q => ∃ p q ep ep' a b, x = .ref p ∧ y = .ref q ∧ H p = some (.dX ep (iv a)) ∧ H q = some (.dX ep' (iv b)) ∧ Q (.bl (xor neg (sameS a b))) H
section
variable {X : Cx}
theorem op_eqX (hu : X.A.units + 1 < cLine) : OpR X (compareOp .Eq) (rEqX false) := by
  intro pins s σ H x y v u Q I rx ry h
  obtain ⟨p, q, ep, ep', a, b, rfl, rfl, hp, hq, k⟩ := h
  cases rx
  cases ry
  obtain ⟨_, hd, xs, rX, m⟩ := dx_of I.hok hp
  obtain ⟨_, hd', ys, rY, m'⟩ := dx_of I.hok hq
  have l1 : xs.length = a.length := by rw [← rX.length]; unfold iv; rw [List.length_map]
  have l2 : ys.length = b.length := by rw [← rY.length]; unfold iv; rw [List.length_map]
  refine eq_x hd hd' hu m m' (fun _ => hits_iv (P := X.prog) (w := X.w) rY rX) ⟨.bl (sameS a b), H, I, ?_, by simpa using k⟩
  rw [l1, l2]; rfl
theorem op_neX (hu : X.A.units + 1 < cLine) : OpR X (compareOp .NotEq) (rEqX true) := by
  intro pins s σ H x y v u Q I rx ry h
  obtain ⟨p, q, ep, ep', a, b, rfl, rfl, hp, hq, k⟩ := h
  cases rx
  cases ry
  obtain ⟨_, hd, xs, rX, m⟩ := dx_of I.hok hp
  obtain ⟨_, hd', ys, rY, m'⟩ := dx_of I.hok hq
  have l1 : xs.length = a.length := by rw [← rX.length]; unfold iv; rw [List.length_map]
  have l2 : ys.length = b.length := by rw [← rY.length]; unfold iv; rw [List.length_map]
  refine ne_x hd hd' hu m m' (fun _ => hits_iv (P := X.prog) (w := X.w) rY rX) ⟨.bl (!sameS a b), H, I, ?_, by simpa using k⟩
  rw [l1, l2]; rfl
end
end L2

/-! sums of a sheet's numbers, gathered by another key -/
namespace Sh
variable {κ μ : Type} [DecidableEq κ] [DecidableEq μ]
def by_ (f : κ → μ) (p : κ × Int) : μ × Int := (f p.1, p.2)
theorem sumOf_app (a b : List (κ × Int)) (k : κ) : sumOf (a ++ b) k = sumOf a k + sumOf b k := by
  unfold sumOf
  rw [List.filter_append, List.map_append, List.sum_append]
theorem sumOf_one (p : κ × Int) (k : κ) : sumOf [p] k = if p.1 = k then p.2 else 0 := by
  unfold sumOf
  by_cases h : p.1 = k <;> simp [h]
theorem sumOf_cons (p : κ × Int) (r : List (κ × Int)) (k : κ) : sumOf (p :: r) k = (if p.1 = k then p.2 else 0) + sumOf r k := by
  rw [show p :: r = [p] ++ r from rfl, sumOf_app, sumOf_one]
theorem by_cons (f : κ → μ) (p : κ × Int) (r : List (κ × Int)) (j : μ) : sumOf ((p :: r).map (by_ f)) j = (if f p.1 = j then p.2 else 0) + sumOf (r.map (by_ f)) j := by
  rw [List.map_cons, sumOf_cons]
  rfl
theorem by_rep (f : κ → μ) (k : κ) (n : Int) (j : μ) : ∀ {s : List (κ × Int)}, (s.map (·.1)).Nodup → k ∈ s.map (·.1) →
    sumOf ((s.map fun p => if p.1 = k then (p.1, n) else p).map (by_ f)) j = sumOf (s.map (by_ f)) j + (if f k = j then n - get s k else 0)
  | [], _, h => by simp at h
  | p :: r, nd, h => by
    rw [List.map_cons, List.nodup_cons] at nd
    rw [List.map_cons, by_cons, by_cons]
    by_cases e : p.1 = k
    · have hr : (r.map fun p => if p.1 = k then (p.1, n) else p) = r := by
        refine (List.map_congr_left fun q hq => ?_).trans (List.map_id r)
        rw [if_neg]
        · rfl
        · intro e2
          exact nd.1 (List.mem_map.mpr ⟨q, hq, e2.trans e.symm⟩)
      rw [hr]
      have hg : get (p :: r) k = p.2 := by unfold get; rw [look_cons, if_pos e]; rfl
      rw [hg, if_pos e]
      subst e
      dsimp only
      split <;> omega
    · have hm : k ∈ r.map (·.1) := by
        rw [List.map_cons] at h
        exact (List.mem_cons.mp h).resolve_left (fun x => e x.symm)
      have ih := by_rep f k n j nd.2 hm
      have hg : get (p :: r) k = get r k := by unfold get; rw [look_cons, if_neg e]
      rw [if_neg e, ih, hg]
      omega
theorem by_put (f : κ → μ) (k : κ) (n : Int) (j : μ) {s : List (κ × Int)} (nd : (s.map (·.1)).Nodup) : sumOf ((put s k n).map (by_ f)) j = sumOf (s.map (by_ f)) j + (if f k = j then n - get s k else 0) := by
  unfold put
  by_cases h : (s.any fun p => decide (p.1 = k)) = true
  · rw [if_pos h]
    exact by_rep f k n j nd ((any_iff s k).mp h)
  · rw [if_neg h, List.map_append, sumOf_app]
    have hg : get s k = 0 := by
      unfold get
      rw [look_none.mpr (fun z => h ((any_iff s k).mpr z))]
      rfl
    rw [hg, List.map_singleton, sumOf_one]
    show sumOf (s.map (by_ f)) j + (if f k = j then n else 0) = _
    by_cases e : f k = j
    · rw [if_pos e, if_pos e]; omega
    · rw [if_neg e, if_neg e]
theorem by_fold (f : κ → μ) (j : μ) : ∀ (ps s : List (κ × Int)), (s.map (·.1)).Nodup → sumOf ((ps.foldl step s).map (by_ f)) j = sumOf (s.map (by_ f)) j + sumOf (ps.map (by_ f)) j
  | [], s, _ => by simp [sumOf]
  | p :: ps, s, nd => by
    rw [List.foldl_cons, by_fold f j ps (step s p) (nodup_put nd _ _), by_cons]
    have := by_put f p.1 (get s p.1 + p.2) j nd
    have e : step s p = put s p.1 (get s p.1 + p.2) := rfl
    rw [e, this]
    split <;> omega
theorem by_filter (f : κ → μ) (j : μ) : ∀ (s : List (κ × Int)), sumOf ((s.filter fun p => decide (p.2 ≠ 0)).map (by_ f)) j = sumOf (s.map (by_ f)) j
  | [] => rfl
  | p :: r => by
    rw [List.filter_cons, by_cons]
    by_cases h : p.2 = 0
    · rw [if_neg (by simp [h]), by_filter f j r, h]
      split <;> omega
    · rw [if_pos (by simp [h]), by_cons, by_filter f j r]
theorem by_sheet (f : κ → μ) (j : μ) (ps : List (κ × Int)) : sumOf ((sheet ps).map (by_ f)) j = sumOf (ps.map (by_ f)) j := by
  unfold sheet
  rw [by_filter]
  unfold acc
  rw [by_fold f j ps [] List.nodup_nil]
  simp [sumOf]
theorem all_eq (s : List (κ × Int)) : (s.map (·.2)).sum = sumOf (s.map (by_ fun _ => ())) () := by
  induction s with
  | nil => rfl
  | cons p r ih => rw [List.map_cons, List.sum_cons, by_cons, if_pos rfl, ih]
theorem all_sheet (ps : List (κ × Int)) : ((sheet ps).map (·.2)).sum = (ps.map (·.2)).sum := by
  rw [all_eq, all_eq, by_sheet]
theorem sheet_nil {ps : List (κ × Int)} (h : ∀ k, sumOf ps k = 0) : sheet ps = [] := by
  cases e : sheet ps with
  | nil => rfl
  | cons p r =>
    have hm : p ∈ sheet ps := by rw [e]; exact List.mem_cons_self
    have h1 := (mem_sheet hm).2
    have h2 := look_mem (nodup_sheet ps) (k := p.1) (n := p.2) hm
    have h3 := get_sheet ps p.1
    unfold get at h3
    rw [h2, h p.1] at h3
    exact absurd h3 h1
end Sh

namespace L2
open PySem PySem.Spec PyProof.Rows
open Sem (wp)

/-! ### dict(PAIRS), PAIRS a list of tuples of two -/
theorem lk_list_keys : typeLookup (.type "list") "keys" = pure none := am_miss_of_fast (by decide +kernel)
theorem entry_dul : entryFor table "dict.update.loop" = some Builtin.«dict.update.loop» := entryFor_of_tree (by kernel_rfl)
theorem plain_dul : plainId "dict.update.loop" = true := by decide +kernel
section
variable {P : Program} {w : World} {A : Around} {E : Value → Shared → Prop} {s : Shared}
theorem keys_miss {l : Addr} {xs : Array Value} {n : Nat} {Q : Option Value → Shared → Prop} (hx : s.heap.get? l = some (lst0 xs n)) (hA : A.handled = none)
    (h : ∀ h' tk, (∀ b o, s.heap.get? b = some o → h'.get? b = some o) → Q none { s with heap := h', toks := tk }) :
    wpAny (model P w) A (getAttr? (.ref l) "keys") Q E s := by
  obtain ⟨hp, g, d, tk, os⟩ := s
  have hT : ∀ tk', (⟨hp, g, d, tk', os⟩ : Shared).TypeIs (.ref l) "list" := fun _ => ⟨_, hx, rfl⟩
  have f1 := sub_AttributeError
  have f3 := PySem.F.slot_list_getattribute.lookup
  have f4 := PySem.F.slot_list_getattribute.bind (.ref l)
  have f5 := am_list_getattr_none
  unfold getAttr? getAttrBy? getAttrBy
  repeat (any_goals (first | assumption | exact hT _ | ((with_reducible show wpAny _ _ (call (Value.builtin "list.__getattribute__") _ _) _ _ _); refine call_meets PySem.F.slot_list_getattribute (hT _) am_entry_list_getattribute (PySem.F.args_list_getattribute_2 _ _) (meets_getattribute_miss_list l xs n #[] "keys" _ lk_list_keys (by decide) (by size_fits)) ⟨hx, hA, fun h' tk' e hx' => ?_⟩) | wp_step))
  obtain ⟨t', u', he⟩ := hx'.there
  show wpAny _ _ (getattributeRaised _ _ _ _ _ _ _) _ _ _
  unfold getattributeRaised
  repeat (any_goals (first | assumption | wp_step))
  exact h _ _ hx'.keeps
def fillX (xs ts : Tab) : Tab := ts.foldl (fun a x => stoX a x.1 x.2.1 x.2.2) xs
theorem stoX_length (xs : Tab) (k : KD) (u v : Value) : (stoX xs k u v).length ≤ xs.length + 1 := by
  unfold stoX
  split
  · rw [List.length_map]; omega
  · rw [List.length_append]; simp
theorem KAt.mono' {h h' : Heap} {k : KD} {u : Value} (x : KAt P w h k u) (ht : ∀ b o, h.get? b = some o → o.cls = .type "tuple" → h'.get? b = some o) : KAt P w h' k u := by
  cases k with
  | inl k => exact x
  | inr ks => obtain ⟨b, rfl, o, items, n, ho, hc, r⟩ := x; exact ⟨b, rfl, o, items, n, ht b o ho hc, hc, r⟩
/-- the pairs as they stand on the heap -/
def PrT (P : Program) (w : World) (h : Heap) (ts : Tab) (items : Array Value) : Prop :=
  ∀ (i : Nat) (x : KD × Value × Value), ts[i]? = some x → ∃ a n dd sl, items[i]? = some (.ref a) ∧ h.get? a = some { cls := .type "tuple", dict := dd, data := .seq #[x.2.1, x.2.2] n, slots := sl } ∧ KAt P w h x.1 x.2.1
theorem dul_loop {R : Result → Shared → Prop} {I d l : Addr} {items : Array Value} {ts : Tab} (hh : A.handled = none) (hu : A.units + 1 < cLine) (hdI : d ≠ I) (hdl : d ≠ l) (hlI : l ≠ I) (res : Value) {h₁ : Heap}
    (hnd : ∀ o, h₁.get? d = some o → o.cls ≠ .type "tuple") (hnI : ∀ o, h₁.get? I = some o → o.cls ≠ .type "tuple") (hp : PrT P w h₁ ts items) (hl : ts.length = items.size) (hz : items.size ≤ sizeLine)
    (hR : ∀ h' tk ep, (∀ b o, b ≠ d → b ≠ I → h₁.get? b = some o → h'.get? b = some o) → DX P w h' d ep (fillX [] ts) → R (.ok (.ret res)) { s with heap := h', toks := tk }) :
    ∀ (k i : Nat) (h : Heap) (tk ep : Nat), items.size - i = k → i ≤ items.size → h.IsListIter I l i → h.IsList l items → (∀ b o, b ≠ d → b ≠ I → h₁.get? b = some o → h.get? b = some o) → DX P w h d ep (fillX [] (ts.take i)) → (fillX [] (ts.take i)).length ≤ i →
      codeAny (model P w) A (.builtin "dict.update.loop" ⟨[.ref d, .ref I, rawInt i, res], []⟩) R { s with heap := h, toks := tk } := by
  intro k
  induction k with
  | zero =>
    intro i h tk ep hk hi hit hL hkeep hD hfl
    have hin : i = items.size := by omega
    refine codeAny_builtin entry_dul ?_
    rw [Around.under_plainId plain_dul _]
    show wpAny _ A.in1 (pyNext (.ref I) >>= _) _ _ _
    refine wpAny_bind (wpAny_pyNext_list_end (s := { s with heap := h, toks := tk }) (A := A.in1) hh hit hL (by simp; omega) fun h' he => ?_)
    rw [hin, ← hl, List.take_length] at hD
    have fin : DX P w h' d ep (fillX [] ts) := by
      obtain ⟨o, es, ho, hc, hd, hes, his, hn⟩ := hD
      refine ⟨o, es, he d _ hdI ho, hc, hd, hes, fun x hx => (his x hx).mono' fun b o' hb hcb => ?_, hn⟩
      by_cases e : b = I
      · subst e
        obtain ⟨oi, hoi, hci, _⟩ := id hit
        rw [hb] at hoi
        cases hoi
        rw [hci] at hcb
        exact absurd hcb (by simp)
      · exact he b _ e hb
    show wpAny _ _ (Builtin.Dict.addKeywords d [] >>= _) _ _ _
    exact wpAny_bind (wpAny_pure (wpAny_pure (hR h' tk ep (fun b o h1 h2 e => he b o h2 (hkeep b o h1 h2 e)) fin)))
  | succ k ih =>
    intro i h tk ep hk hi hit hL hkeep hD hfl
    have hlt : i < items.size := by omega
    obtain ⟨x, hx⟩ : ∃ x, ts[i]? = some x := ⟨_, List.getElem?_eq_getElem (by omega)⟩
    obtain ⟨a, n, dd, sl, ha, hoa, hka⟩ := hp i x hx
    refine codeAny_builtin entry_dul ?_
    rw [Around.under_plainId plain_dul _]
    show wpAny _ A.in1 (pyNext (.ref I) >>= _) _ _ _
    refine wpAny_bind (wpAny_pyNext_list_item (s := { s with heap := h, toks := tk }) (A := A.in1) hit hL ha fun h' hit' hs' => ?_)
    replace hs' : Heap.SameBut I h h' := hs'
    have had : a ≠ d := fun e => hnd _ (e ▸ hoa) rfl
    have haI : a ≠ I := fun e => hnI _ (e ▸ hoa) rfl
    have kp : ∀ b o, b ≠ I → h.get? b = some o → h'.get? b = some o := fun b o hb e => hs'.extBut b o hb e
    have hoa' := kp a _ haI (hkeep a _ had haI hoa)
    have hI' : ∃ oi, h.get? I = some oi ∧ oi.cls = .type "list_iterator" := let ⟨oi, hoi, hci, _⟩ := hit; ⟨oi, hoi, hci⟩
    have hka' : KAt P w h' x.1 x.2.1 := hka.mono' fun b o hb hc => kp b o (fun e => hnI _ (e ▸ hb) hc) (hkeep b o (fun e => hnd _ (e ▸ hb) hc) (fun e => hnI _ (e ▸ hb) hc) hb)
    have hD' : DX P w h' d ep (fillX [] (ts.take i)) := by
      obtain ⟨o, es, ho, hc, hd, hes, his, hn⟩ := hD
      refine ⟨o, es, kp d _ hdI ho, hc, hd, hes, fun x hx => (his x hx).mono' fun b o' hb hcb => ?_, hn⟩
      by_cases e : b = I
      · subst e
        obtain ⟨oi, hoi, hci⟩ := hI'
        rw [hb] at hoi
        cases hoi
        rw [hci] at hcb
        exact absurd hcb (by simp)
      · exact kp b _ e hb
    have hty : ({ s with heap := h', toks := tk } : Shared).TypeIs (.ref a) "tuple" := ⟨_, hoa', rfl⟩
    show wpAny _ A.in1 (holding [Value.ref a] _ >>= _) _ _ { s with heap := h', toks := tk }
    refine wpAny_bind (wpAny_holding (wpAny_bind (wpAny_tryCatch ?_)))
    unfold Builtin.Dict.pairItems
    refine wpAny_bind (wpAny_typeOf hty ?_)
    rw [if_pos (by decide)]
    refine wpAny_bind ?_
    unfold seqItems?
    refine wpAny_bind (wpAny_load hoa' (wpAny_pure (wpAny_pure ?_)))
    show wpAny _ _ (holding [x.2.1, x.2.2] (dictSet d x.2.1 x.2.2)) _ _ _
    refine wpAny_holding ?_
    refine setX (A := A.in1) (s := { s with heap := h', toks := tk }) hu hka' hD' (fun h'' hD'' hs'' => ?_) (by omega)
    replace hs'' : Heap.SameBut d h' h'' := hs''
    have hstep : stoX (fillX [] (ts.take i)) x.1 x.2.1 x.2.2 = fillX [] (ts.take (i + 1)) := by
      rw [List.take_add_one, hx]
      unfold fillX
      rw [List.foldl_append]
      rfl
    rw [hstep] at hD''
    refine wpAny_pure ⟨plainId_quiet plain_dul _, ?_⟩
    have e1 : rawInt ((i : Int) + 1) = rawInt ((i + 1 : Nat) : Int) := by push_cast; rfl
    show codeAny _ A (.builtin "dict.update.loop" ⟨[.ref d, .ref I, rawInt ((i : Int) + 1), res], []⟩) R _
    rw [e1]
    refine ih (i + 1) h'' _ _ (by omega) (by omega) (hit'.at fun o e => hs''.extBut _ _ hdI.symm e) ?_ (fun b o h1 h2 e => hs''.extBut _ _ h1 (kp b o h2 (hkeep b o h1 h2 e))) hD'' ?_
    · obtain ⟨ol, hol, r⟩ := hL
      exact ⟨ol, hs''.extBut _ _ hdl.symm (kp l _ hlI hol), r⟩
    · rw [← hstep]
      have := stoX_length (fillX [] (ts.take i)) x.1 x.2.1 x.2.2
      omega
theorem call_dict_pairs {Q : Value → Shared → Prop} {l : Addr} {items : Array Value} {n : Nat} {ts : Tab} (hh : A.handled = none) (hu : A.units + 3 < cLine) (hx : s.heap.get? l = some (lst0 items n)) (hp : PrT P w s.heap ts items) (hl : ts.length = items.size) (hz : items.size ≤ sizeLine)
    (hQ : ∀ h' tk ep, (∀ b o, s.heap.get? b = some o → h'.get? b = some o) → DX P w h' s.heap.objs.size ep (fillX [] ts) → Q (.ref s.heap.objs.size) { s with heap := h', toks := tk }) :
    wpAny (model P w) A (call (.type "dict") [.ref l]) Q E s := by
  refine callType_codes (Q₁ := fun obj s₁ => obj = .ref s.heap.objs.size ∧ s₁ = { s with heap := s.heap.push { cls := .type "dict", data := .dict #[] } }) PySem.F.kt_called_dict (PySem.F.kt_typeCall_dict_1 _) PySem.F.entry_dict_init (kt_code_dict_new _ ⟨rfl, rfl⟩) ?_
  rintro obj s₁ ⟨rfl, rfl⟩
  have hlS : l < s.heap.objs.size := Heap.lt_size hx
  have hd0 : (s.heap.push { cls := .type "dict", data := .dict #[] }).get? s.heap.objs.size = some { cls := .type "dict", data := .dict #[] } := Heap.get?_push_size _ rfl
  have hx1 : (s.heap.push { cls := .type "dict", data := .dict #[] }).get? l = some (lst0 items n) := Heap.get?_push_of_some _ hx
  have hTd : ({ s with heap := s.heap.push { cls := .type "dict", data := .dict #[] } } : Shared).TypeIs (.ref s.heap.objs.size) "dict" := ⟨_, hd0, rfl⟩
  have hTl : ({ s with heap := s.heap.push { cls := .type "dict", data := .dict #[] } } : Shared).TypeIs (.ref l) "list" := ⟨_, hx1, rfl⟩
  refine ⟨hTd, PySem.F.args_dict_init_2 _ _, ?_⟩
  unfold Builtin.«dict.__init__»
  refine wpAny_bind ?_
  unfold Builtin.Dict.selfAndRest
  refine wpAny_bind (wpAny_notOrdered_dict hTd ?_)
  show wpAny _ _ (pure (s.heap.objs.size, [Value.ref l])) _ _ _
  refine wpAny_pure ?_
  show wpAny _ _ (Builtin.Dict.updateFrom "dict.__init__" s.heap.objs.size (.ref l) [] .none) _ _ _
  unfold Builtin.Dict.updateFrom
  refine wpAny_bind (wpAny_typeOf hTl ?_)
  rw [if_pos (by decide)]
  refine wpAny_bind (keys_miss (s := { s with heap := s.heap.push { cls := .type "dict", data := .dict #[] } }) hx1 (by simp [hh]) fun h' tk hk => ?_)
  replace hk : ∀ b o, (s.heap.push { cls := .type "dict", data := .dict #[] }).get? b = some o → h'.get? b = some o := hk
  rw [if_pos (by rfl)]
  refine wpAny_bind (wpAny_rule (wpAny_bind ?_))
  have hx2 := hk l _ hx1
  have hd2 := hk _ _ hd0
  refine wpAny_pyIter_list (s := { s with heap := h', toks := tk }) ⟨_, hx2, rfl, n, rfl⟩ ?_
  have hdI : s.heap.objs.size ≠ h'.objs.size := Nat.ne_of_lt (Heap.lt_size hd2)
  have hlI : l ≠ h'.objs.size := Nat.ne_of_lt (Heap.lt_size hx2)
  have hk3 : ∀ b o, s.heap.get? b = some o → (h'.push { cls := .type "list_iterator", data := .fields #[.ref l, .int 0 0] }).get? b = some o := fun b o e => Heap.get?_push_of_some _ (hk b o (Heap.get?_push_of_some _ e))
  have hd3 := Heap.get?_push_of_some { cls := .type "list_iterator", data := .fields #[.ref l, .int 0 0] } hd2
  have hI3 : (h'.push { cls := .type "list_iterator", data := .fields #[.ref l, .int 0 0] }).get? h'.objs.size = some { cls := .type "list_iterator", data := .fields #[.ref l, .int 0 0] } := Heap.get?_push_size _ rfl
  refine wpAny_pure ⟨plainId_quiet plain_dul _, ?_⟩
  refine dul_loop (A := A.in1) (s := s) (h₁ := h'.push { cls := .type "list_iterator", data := .fields #[.ref l, .int 0 0] }) (by simp [hh]) (by simp; omega) hdI (Nat.ne_of_gt hlS) hlI .none (fun o e => ?_) (fun o e => ?_) (ts := ts) (items := items) (fun i x hx => ?_) hl hz (fun h4 tk4 ep hk4 hD4 => ?_)
    items.size 0 _ tk 0 (Nat.sub_zero _) (Nat.zero_le _) ⟨_, hI3, rfl, rfl⟩ ⟨_, Heap.get?_push_of_some _ hx2, rfl, n, rfl⟩ (fun b o _ _ e => e) ⟨_, _, hd3, ⟨rfl, rfl, rfl⟩, rfl, rfl, by simp [fillX], by simp [fillX]⟩ (by simp [fillX])
  · rw [hd3] at e; cases e; simp
  · rw [hI3] at e; cases e; simp
  · obtain ⟨a, m, dd, sl, h1, h2, h3⟩ := hp i x hx
    exact ⟨a, m, dd, sl, h1, hk3 _ _ h2, h3.mono' fun b o hb _ => hk3 b o hb⟩
  · refine ⟨rfl, hQ h4 tk4 ep (fun b o e => hk4 b o (Nat.ne_of_lt (Heap.lt_size e)) (fun e' => ?_) (hk3 b o e)) hD4⟩
    exact Nat.ne_of_lt (Heap.lt_size (hk b o (Heap.get?_push_of_some _ e))) e'
end
def PrE (P : Program) (w : World) (h : Heap) (x : KD × Value × Value) (v : Value) : Prop :=
  ∃ a n dd sl, v = .ref a ∧ h.get? a = some { cls := .type "tuple", dict := dd, data := .seq #[x.2.1, x.2.2] n, slots := sl } ∧ KAt P w h x.1 x.2.1
theorem prs_ts {P : Program} {w : World} {H : Hp} {h : Heap} (ok : HOk P w H h) : ∀ {kvs : List (KD × V)} {vs : List V} {its : List Value}, Paired (fun (kv : KD × V) v => ∃ p y, v = V.ref p ∧ H p = some (.tup [y, kv.2]) ∧ KeyV H kv.1 y) kvs vs → Vals vs its → ∃ ts : Tab, KX H kvs ts ∧ Paired (PrE P w h) ts its
  | _, _, _, .nil, .nil => ⟨[], .nil, .nil⟩
  | (k, z) :: _, _, _, .cons ⟨p, y, e, hp, hk⟩ t, .cons r t' => by
    obtain ⟨ts, h1, h2⟩ := prs_ts ok t t'
    subst e
    cases r
    obtain ⟨_, us, rv, o, ho, hc, m, hd⟩ := (show ObjOk P w H h p (.tup [y, z]) from ok p _ hp)
    obtain ⟨u, v, rfl, ru, rz⟩ := Vals.two rv
    obtain ⟨c, dd, dt, sl⟩ := o
    simp only at hc hd
    subst hc hd
    have hku := hk.u ru
    exact ⟨(k, u, v) :: ts, .cons ⟨rfl, hku, rz⟩ h1, .cons ⟨p, m, dd, sl, rfl, ho, key_at ok hku⟩ h2⟩
theorem fillX_length : ∀ (ts b : Tab), (fillX b ts).length ≤ b.length + ts.length
  | [], b => Nat.le_refl _
  | x :: ts, b => by
    have h1 := fillX_length ts (stoX b x.1 x.2.1 x.2.2)
    have h2 := stoX_length b x.1 x.2.1 x.2.2
    show (fillX (stoX b x.1 x.2.1 x.2.2) ts).length ≤ _
    rw [List.length_cons]
    omega
def fillK (kvs : List (KD × V)) : List (KD × V) := kvs.foldl (fun a p => putK a p.1 p.2) []
/-- dict([(k, v), ..]) -/
def rDictP : List V → Hp → VK → Prop := fun xs H Q => ∃ l vs kvs, xs = [.ref l] ∧ H l = some (.lst vs) ∧ PairsAt H kvs vs ∧ ∀ d ep, H d = none → Q (.ref d) (upd H d (.dX ep (fillK kvs)))
theorem fill_KX {H : Hp} : ∀ {kvs : List (KD × V)} {ts : Tab} {a : List (KD × V)} {b : Tab}, KX H kvs ts → KX H a b → KX H (kvs.foldl (fun a p => putK a p.1 p.2) a) (fillX b ts)
  | _, _, _, _, .nil, h => h
  | _, _, _, _, .cons (a := p) (b := q) ⟨e, hk, hv⟩ t, h => by
    obtain ⟨k, y⟩ := p
    obtain ⟨k', u, v⟩ := q
    cases e
    have z := fill_KX t (h.put hk hv)
    exact z
theorem call_dict_prs {X : Cx} (hc : X.calm = true) (hu : X.A.units + 64 < cLine) : CallR X (.type "dict") rDictP := by
  intro pins s σ H xs us Q I r h
  obtain ⟨l, vs, kvs, rfl, hl, hP, q⟩ := h
  obtain ⟨u, rfl, ru⟩ := vals1 r
  cases ru
  obtain ⟨hz, its, n, rv, hol⟩ := (show ObjOk X.prog X.w H s.heap l (.lst vs) from I.hok l _ hl)
  have hlen := Paired.length hP
  have hlen2 := rv.length
  obtain ⟨ts, hts, hpt⟩ : ∃ ts : Tab, KX H kvs ts ∧ PrT X.prog X.w s.heap ts its.toArray := by
    obtain ⟨ts, h1, h2⟩ := prs_ts I.hok hP rv
    refine ⟨ts, h1, fun i x hx => ?_⟩
    obtain ⟨v, hv, a, m, dd, sl, rfl, h3, h4⟩ := Paired.get h2 hx
    exact ⟨a, m, dd, sl, by simpa using hv, h3, h4⟩
  have htl := hts.length
  refine call_dict_pairs (I.ok.hd hc) (by omega) hol hpt (by rw [List.size_toArray]; omega) (by rw [List.size_toArray]; omega) fun h' tk ep hk hD => ?_
  have hfr := I.hok.fresh (Nat.le_refl s.heap.objs.size)
  have hKX : KX H (fillK kvs) (fillX [] ts) := fill_KX hts .nil
  refine ⟨.ref s.heap.objs.size, _, I.laid (t' := tk) (o := .dX ep (fillK kvs)) hk (Nat.le_refl _) (dx_new ?_ ?_ (hKX.mono fun b xs e => ?_) hD), rfl, q _ ep hfr⟩
  · have h1 := hKX.length
    have h2 := fillX_length ts []
    rw [h1]
    simp only [List.length_nil, Nat.zero_add] at h2
    omega
  · exact beq_eq_false_iff_ne.mpr (Ne.symm (Nat.ne_of_lt I.bigX))
  · exact (Same.upd hfr) b _ e
end L2

namespace L2
open PySem PySem.Spec PyProof.Rows
open Sem (wp)

/-! ### xs.index(y), xs[::-1], {k: v} -/
def rIndex (K : PySem.W.Frag) : V → List V → Hp → VK → Prop := fun x vs H Q => ∃ p xs y z j, x = .ref p ∧ vs = [y] ∧ SqL K H p xs ∧ flatV y = true ∧ xs.all flatV = true ∧ xs[j]? = some z ∧ eqV z y = true ∧ (∀ m z', m < j → xs[m]? = some z' → eqV z' y = false) ∧ Q (.int (j : Nat)) H
theorem mt_index {X : Cx} : MtR X "list.index" (rIndex X.K) := by
  intro pins s σ H x vs v us Q I rx rv h
  obtain ⟨p, xs, y, z, j, rfl, rfl, hq, fy, fs, hj, ej, hno, q⟩ := h
  cases rx
  obtain ⟨u, rfl, ru⟩ := rv.one
  obtain ⟨its, r, pl, hz⟩ := I.list hq
  obtain ⟨o, ho, hc, n, hd⟩ := pl.isList
  obtain ⟨c, dd, dt, sl⟩ := o
  simp only at hc hd
  subst hc hd
  have hlen := r.length
  have hjl : j < xs.length := (List.getElem?_eq_some_iff.mp hj).1
  have at_ : ∀ (m : Nat) (hm : m < its.toArray.size), ∃ z', xs[m]? = some z' ∧ eqU y its.toArray[m] = eqV z' y := fun m hm => by
    have hm' : m < its.length := by simpa using hm
    obtain ⟨z', hz'⟩ : ∃ z', xs[m]? = some z' := ⟨_, List.getElem?_eq_getElem (by omega)⟩
    obtain ⟨u', hu', rz⟩ := Paired.get r hz'
    have hf : flatV z' = true := List.all_eq_true.mp fs z' (List.mem_of_getElem? hz')
    refine ⟨z', hz', ?_⟩
    have e : its.toArray[m] = u' := by
      rw [List.getElem?_eq_getElem hm'] at hu'
      simpa using Option.some.inj hu'
    rw [e]
    exact eqU_of rz hf
  have hl63 := line63
  refine call_meets PySem.F.slot_list_index ⟨_, ho, rfl⟩ PySem.F.entry_list_index (PySem.F.args_list_index_2 _ _)
    (SeqAt.list_indexAt p its.toArray n dd sl u (eqU y) j (by simp; omega) (by omega) ?_ ?_) ⟨ho, fun w' hw => mem_eqAt ru fy r fs w' (by simpa using hw), ?_⟩
  · obtain ⟨z', h1, h2⟩ := at_ j (by simp; omega)
    rw [hj] at h1
    cases h1
    rw [h2]
    exact ej
  · intro m hm hmj
    obtain ⟨z', h1, h2⟩ := at_ m hm
    rw [h2]
    exact hno m z' hmj h1
  · exact ⟨.int j, H, I.tok _, ⟨_, rfl⟩, q⟩
theorem mt_indexk {X : Cx} {K : PySem.W.Frag} (hK : X.K = K) : MtR X "list.index" (rIndex K) := hK ▸ mt_index
theorem op_ink {X : Cx} {K : PySem.W.Frag} (hK : X.K = K) : OpR X (compareOp .In) (rIn K false) := hK ▸ op_in_seq
theorem op_notink {X : Cx} {K : PySem.W.Frag} (hK : X.K = K) : OpR X (compareOp .NotIn) (rIn K true) := hK ▸ op_notIn_seq
section
variable {X : Cx} {e st : Expr} {te : TE} {tk : TO} {pos p2 : Pos}
def tRev (K : PySem.W.Frag) (te : TE) (tk : TO) : TE := fun σ H Q => te σ H fun x H1 => tk σ H1 fun k H2 => ∃ a xs, x = .ref a ∧ k = some (-1) ∧ SqL K H2 a xs ∧ ∀ p, H2 p = none → Q (.ref p) (upd H2 p (.lst xs.reverse))
theorem Vals.rev {xs : List V} {us : List Value} (r : Vals xs us) : Vals xs.reverse us.reverse := by
  induction r with
  | nil => exact .nil
  | cons h t ih => rw [List.reverse_cons, List.reverse_cons]; exact Paired.append ih (.cons h .nil)
theorem pe_rev (he : PE X e te) (hk : PO X (some st) tk) : PE X (.Subscript e (.Slice none none (some st) p2) pos) (tRev X.K te tk) := by
  intro pins s σ H Q I h
  refine Subscript_ (thn (he pins s σ H _ I h) fun v s1 ⟨x, H1, I1, r1, q1⟩ => ?_)
  refine wpAny_Slice ?_
  rw [evalPart_none]
  refine wpAny_pure ?_
  refine wpAny_pure ?_
  refine thn (hk pins s1 σ H1 _ I1 q1) fun vk s2 ⟨k, H2, I2, pk, q2⟩ => ?_
  obtain ⟨a, xs, rfl, rfl, hx, q⟩ := q2
  cases r1
  have I3 : Inv X pins σ H2 { s2 with heap := s2.heap.push { cls := .type "slice", data := .fields #[.none, .none, vk] } } := I2.kept (t' := s2.toks) fun b ob q => Heap.get?_push_of_some _ q
  obtain ⟨its, r, ht, hz⟩ := I3.list hx
  have hlen := r.length
  show wpAny (model X.prog X.w) X.A (subscriptTail e (.Slice none none (some st) p2) (.ref a) (.ref s2.heap.objs.size)) (EP X pins σ Q) X.xe { s2 with heap := s2.heap.push { cls := .type "slice", data := .fields #[.none, .none, vk] } }
  refine tail_any (ops := [.ref a, .ref s2.heap.objs.size]) ht.isList.typeIs slot_list_getitem.lookup ?_ (by with_unfolding_all rfl)
  refine wpAny_getItem_list_slice ht.isList (Heap.IsSliceOf.new ..) .none .none pk (by simp) ?_ (by rw [List.size_toArray] <;> omega)
  rw [PySem.W.krv_pick]
  refine ⟨.ref _, _, I3.laid (t' := _) (o := .lst xs.reverse) (fun b ob q => Heap.get?_push_of_some _ q) (Nat.le_refl _) ?_, rfl, q _ (I3.hok.fresh (Nat.le_refl _))⟩
  exact ⟨by rw [List.length_reverse]; exact hz, _, 0, r.rev, Heap.get?_push_size _ rfl⟩
theorem pe_revk {K : PySem.W.Frag} (hK : X.K = K) (he : PE X e te) (hk : PO X (some st) tk) : PE X (.Subscript e (.Slice none none (some st) p2) pos) (tRev K te tk) := hK ▸ pe_rev he hk
end
section
variable {X : Cx} {ek ev : Expr} {tk tv : TE} {pos : Pos}
def tX1 (tk tv : TE) : TE := fun σ H Q => ∀ p, H p = none → tk σ (upd H p (.dX 0 [])) fun y H1 => tv σ H1 fun z H2 => ∃ k, KeyV H2 k y ∧ H2 p = some (.dX 0 []) ∧ Q (.ref p) (upd H2 p (.dX 1 [(k, z)]))
theorem pe_x1 (hu : X.A.units + 1 < cLine) (hk : PE X ek tk) (hv : PE X ev tv) : PE X (.Dict [some ek] [ev] pos) (tX1 tk tv) := by
  intro pins s σ H Q I h
  have hfr := I.hok.fresh (Nat.le_refl s.heap.objs.size)
  have I1 : Inv X pins σ (upd H s.heap.objs.size (.dX 0 [])) { s with heap := s.heap.push { cls := .type "dict", data := .dict #[] } } :=
    I.laid (a := s.heap.objs.size) (o := .dX 0 []) (t' := s.toks) (fun _ _ q => Heap.get?_push_of_some _ q) (Nat.le_refl _)
      ⟨Nat.zero_le _, beq_eq_false_iff_ne.mpr (Ne.symm (Nat.ne_of_lt I.bigX)), [], .nil, _, #[], Heap.get?_push_size _ rfl, ⟨rfl, rfl, rfl⟩, rfl, rfl, List.nodup_nil⟩
  refine wpAny_Dict_any rfl rfl (by simp) (by show 1 ≤ 15; decide) ?_
  show wpAny (model X.prog X.w) X.A (evalPairs [(eval ek X.env, (do let x ← eval ev X.env; standAt pos; pure x))]) _ _ _
  refine wpAny_bind (thn (hk pins _ σ _ _ I1 (h _ hfr)) fun u s1 ⟨y, H1, I2, r1, q1⟩ => ?_)
  refine wpAny_bind (wpAny_holding (wpAny_bind (thn (hv pins s1 σ H1 _ I2 q1) fun v s2 ⟨z, H2, I3, r2, q2⟩ => wpAny_bind (wpAny_standAt (wpAny_pure ?_)))))
  refine wpAny_bind (wpAny_holding (wpAny_pure (wpAny_pure ?_)))
  obtain ⟨k, hkk, hd, q⟩ := q2
  obtain ⟨_, hds, xs, rx, m⟩ := dx_of I3.hok hd
  cases rx
  unfold storeAll
  rw [List.forIn_cons]
  refine wpAny_bind (wpAny_bind ?_)
  have hku := hkk.u r1
  refine setX (by omega) (key_at I3.hok hku) m (fun h' m' hs => ?_) (Nat.zero_le _)
  refine wpAny_pure ?_
  show wpAny _ _ (forIn ([] : List (Value × Value)) PUnit.unit _) _ _ _
  rw [List.forIn_nil]
  refine wpAny_pure ⟨.ref s.heap.objs.size, _, I3.dwrite (A := X.A) (E := X.xe) (t' := _) (ep' := 1) (kvs' := [(k, z)]) hd hs (by show 1 ≤ sizeLine; decide) hds (.cons ⟨rfl, hku, r2⟩ .nil) m', rfl, q⟩
end
end L2

namespace L2
open PySem PySem.Spec PyProof.Rows KS
open Sem (wp)

/-! ### rows on the heap: a dict from shelves to lists of texts -/
abbrev Rw := (Str × Str) × Addr × List Str
def rwV (es : List Rw) : List (KD × V) := es.map fun e => (shelfP e.1, V.ref e.2.1)
def stripR (es : List Rw) : List ((Str × Str) × List Str) := es.map fun e => (e.1, e.2.2)
structure RowsAt (H : Hp) (d : Addr) (es : List Rw) : Prop where
  dct : ∃ ep, H d = some (.dX ep (rwV es))
  lst : ∀ e ∈ es, H e.2.1 = some (.lst (e.2.2.map V.str))
  nd : (es.map (·.1)).Nodup
theorem RowsAt.same {H H' : Hp} {d : Addr} {es : List Rw} (h : RowsAt H d es) (s : Same H H') : RowsAt H' d es := ⟨let ⟨ep, e⟩ := h.dct; ⟨ep, s _ _ e⟩, fun e he => s _ _ (h.lst e he), h.nd⟩
theorem valV_rw : ∀ {es : List Rw} {e : Rw}, (es.map (·.1)).Nodup → e ∈ es → valV (rwV es) (shelfP e.1) = some (.ref e.2.1)
  | x :: es, e, nd, he => by
    rw [List.map_cons, List.nodup_cons] at nd
    rcases List.mem_cons.mp he with rfl | h
    · exact valV_pos rfl
    · have hne : ¬ shelfP x.1 = shelfP e.1 := fun q => by
        obtain ⟨q1, q2⟩ := shelf_inj q
        exact nd.1 (List.mem_map.mpr ⟨e, h, Prod.ext q1.symm q2.symm⟩)
      show valV ((shelfP x.1, V.ref x.2.1) :: rwV es) (shelfP e.1) = _
      rw [valV_neg hne]
      exact valV_rw nd.2 h
theorem valV_rw_none : ∀ {es : List Rw} {k : Str × Str}, k ∉ es.map (·.1) → valV (rwV es) (shelfP k) = none
  | [], _, _ => rfl
  | x :: es, k, h => by
    rw [List.map_cons, List.mem_cons, not_or] at h
    have hne : ¬ shelfP x.1 = shelfP k := fun q => by
      obtain ⟨q1, q2⟩ := shelf_inj q
      exact h.1 (Prod.ext q1.symm q2.symm)
    show valV ((shelfP x.1, V.ref x.2.1) :: rwV es) (shelfP k) = _
    rw [valV_neg hne]
    exact valV_rw_none h.2
theorem rwV_len (es : List Rw) : (rwV es).length = es.length := List.length_map _
theorem rwV_get {es : List Rw} {i : Nat} {kv : KD × V} (h : (rwV es)[i]? = some kv) : ∃ e, es[i]? = some e ∧ e ∈ es ∧ kv = (shelfP e.1, .ref e.2.1) := by
  unfold rwV at h
  rw [List.getElem?_map] at h
  obtain ⟨e, he, rfl⟩ := Option.map_eq_some_iff.mp h
  exact ⟨e, he, List.mem_of_getElem? he, rfl⟩
theorem strip_get {es es' : List Rw} (h : stripR es' = stripR es) {e : Rw} (he : e ∈ es) : ∃ e' ∈ es', e'.1 = e.1 ∧ e'.2.2 = e.2.2 := by
  have : (e.1, e.2.2) ∈ stripR es := List.mem_map.mpr ⟨e, he, rfl⟩
  rw [← h] at this
  obtain ⟨e', h1, h2⟩ := List.mem_map.mp this
  exact ⟨e', h1, (Prod.mk.inj h2).1, (Prod.mk.inj h2).2⟩
def strsD (ss : List Str) : PyData := .list (ss.map PyData.str)
theorem reps_strs {H : Hp} : ∀ ss : List Str, Reps H (ss.map PyData.str) (ss.map V.str)
  | [] => rfl
  | s :: ss => ⟨_, _, rfl, rfl, reps_strs ss⟩
theorem rep_strs {H : Hp} {p : Addr} {ss : List Str} (h : H p = some (.lst (ss.map V.str))) : Rep H (strsD ss) (.ref p) := ⟨p, _, rfl, h, reps_strs ss⟩
theorem shp_strs {ss : List Str} (h : ∀ s ∈ ss, goodNm s) : Shp (strsD ss) := by
  have : PyData.canLayAll0 (ss.map PyData.str) = true ∧ PyData.depthAll (ss.map PyData.str) ≤ 2 := by
    induction ss with
    | nil => exact ⟨rfl, by simp [PyData.depthAll]⟩
    | cons k r ih =>
      obtain ⟨h1, h2⟩ := ih fun l hl => h l (List.mem_cons_of_mem _ hl)
      have a := (h k List.mem_cons_self).ok
      refine ⟨?_, ?_⟩
      · simp only [List.map_cons, PyData.canLayAll0, h1, Bool.and_true]
        simp [PyData.canLay0, a]
      · simp only [List.map_cons, PyData.depthAll]
        have : (PyData.str k).depth ≤ 2 := by simp [PyData.depth]
        omega
  show SeqAt.shaped _ = true
  simp only [strsD, SeqAt.shaped, PyData.canLay0, PyData.depth, this.1, Bool.true_and]
  exact decide_eq_true (by omega)
theorem shp_nil : Shp (.list []) := by decide +kernel
theorem eqv_strs_nil (ss : List Str) : PyData.eqv (strsD ss) (.list []) = decide (ss = []) := by
  cases ss with
  | nil => rfl
  | cons s r => simp [strsD, PyData.eqv, PyData.eqvAll]
/-- row == [], row != [] -/
theorem eqNil_of {neg : Bool} {H : Hp} {p q : Addr} {ss : List Str} {Q : VK} (hp : H p = some (.lst (ss.map V.str))) (hq : H q = some (.lst [])) (hg : ∀ s ∈ ss, goodNm s) (k : Q (.bl (xor neg (decide (ss = [])))) H) : rEqD neg (.ref p) (.ref q) H Q :=
  ⟨strsD ss, .list [], rep_strs hp, ⟨q, [], rfl, hq, rfl⟩, shp_strs hg, shp_nil, by rw [eqv_strs_nil]; exact k⟩
theorem flat_strs (ss : List Str) : (ss.map V.str).all flatV = true := by
  rw [List.all_map, List.all_eq_true]
  intro s _
  rfl
theorem inV_strs (s : Str) (ss : List Str) : inV (.str s) (ss.map V.str) = decide (s ∈ ss) := by
  unfold inV
  rw [List.any_map, Bool.eq_iff_iff, List.any_eq_true, decide_eq_true_eq]
  constructor
  · rintro ⟨x, hx, e⟩
    have e : (x == s) = true := e
    rw [← eq_of_beq e]
    exact hx
  · intro h
    exact ⟨s, h, beq_self_eq_true s⟩
/-- s in ss, s not in ss -/
theorem in_strs {K : PySem.W.Frag} {H : Hp} {p : Addr} {ss : List Str} {s : Str} {Q : VK} (hp : H p = some (.lst (ss.map V.str))) (k : Q (.bl (decide (s ∈ ss))) H) : rIn K false (.str s) (.ref p) H Q :=
  ⟨p, _, rfl, .inl (SqL.of hp), rfl, flat_strs ss, by rw [inV_strs]; exact k⟩
theorem notin_strs {K : PySem.W.Frag} {H : Hp} {p : Addr} {ss : List Str} {s : Str} {Q : VK} (hp : H p = some (.lst (ss.map V.str))) (k : Q (.bl (!decide (s ∈ ss))) H) : rIn K true (.str s) (.ref p) H Q :=
  ⟨p, _, rfl, .inl (SqL.of hp), rfl, flat_strs ss, by rw [inV_strs]; exact k⟩
theorem idx_ne {α : Type} [DecidableEq α] {x a : α} (l : List α) (h : x ≠ a) : (x :: l).idxOf a = l.idxOf a + 1 := by
  have h' : (x == a) = false := beq_eq_false_iff_ne.mpr h
  rw [List.idxOf_cons, h']
  rfl
theorem idx_first {α : Type} [DecidableEq α] : ∀ (ss : List α) (s : α), s ∈ ss → ss[ss.idxOf s]? = some s ∧ ∀ (m : Nat) z, m < ss.idxOf s → ss[m]? = some z → z ≠ s
  | x :: ss, s, h => by
    by_cases e : x = s
    · subst e
      rw [List.idxOf_cons_self]
      exact ⟨rfl, fun m z hm _ => absurd hm (by omega)⟩
    · have h' : s ∈ ss := (List.mem_cons.mp h).resolve_left fun q => e q.symm
      obtain ⟨h1, h2⟩ := idx_first ss s h'
      rw [idx_ne _ e]
      refine ⟨by rw [List.getElem?_cons_succ]; exact h1, fun m z hm hz => ?_⟩
      cases m with
      | zero => rw [List.getElem?_cons_zero] at hz; cases hz; exact e
      | succ m => rw [List.getElem?_cons_succ] at hz; exact h2 m z (by omega) hz
theorem index_strs {K : PySem.W.Frag} {H : Hp} {p : Addr} {ss : List Str} {s : Str} {Q : VK} (hp : H p = some (.lst (ss.map V.str))) (hs : s ∈ ss) (k : Q (.int (ss.idxOf s : Nat)) H) : rIndex K (.ref p) [.str s] H Q := by
  obtain ⟨h1, h2⟩ := idx_first ss s hs
  refine ⟨p, _, .str s, .str s, ss.idxOf s, rfl, rfl, SqL.of hp, rfl, flat_strs ss, by rw [List.getElem?_map, h1]; rfl, beq_self_eq_true s, fun m z hm hz => ?_, k⟩
  rw [List.getElem?_map] at hz
  obtain ⟨t, ht, rfl⟩ := Option.map_eq_some_iff.mp hz
  show (t == s) = false
  exact beq_eq_false_iff_ne.mpr (h2 m t hm ht)
theorem neD_strs {H : Hp} {p q : Addr} {ss : List Str} {Q : VK} (hp : H p = some (.lst (ss.map V.str))) (hq : H q = some (.lst (ss.map V.str))) (hg : ∀ s ∈ ss, goodNm s) (k : Q (.bl false) H) : rEqD true (.ref p) (.ref q) H Q :=
  neD_same (rep_strs hp) (rep_strs hq) (shp_strs hg) k
/-! ### names that break a row -/
def brcS (f : Str → Bool) : Option Str → List Str → Option (Str × Str)
  | _, [] => none
  | none, x :: r => if f x then brcS f none r else brcS f (some x) r
  | some a, x :: r => if f x then some (a, x) else brcS f (some a) r
def shwP (f : Str → Bool) (row : List Str) : Option (Str × Str) :=
  match row.filter (fun s => !f s) with
  | [] => none
  | a :: _ => match (row.drop (row.idxOf a)).filter f with
    | [] => none
    | b :: _ => some (a, b)
theorem brcS_some (f : Str → Bool) (a : Str) : ∀ row : List Str, brcS f (some a) row = (match row.filter f with | [] => none | b :: _ => some (a, b))
  | [] => rfl
  | x :: r => by
    unfold brcS
    by_cases h : f x = true
    · rw [if_pos h, List.filter_cons_of_pos h]
    · rw [if_neg h, List.filter_cons_of_neg h]
      exact brcS_some f a r
theorem shw_brc (f : Str → Bool) : ∀ row : List Str, shwP f row = brcS f none row
  | [] => rfl
  | x :: r => by
    have ih := shw_brc f r
    unfold brcS
    by_cases h : f x = true
    · rw [if_pos h, ← ih]
      unfold shwP
      rw [List.filter_cons_of_neg (by simp [h])]
      cases hc : r.filter (fun s => !f s) with
      | nil => rfl
      | cons a t =>
        have ha : a ∈ r.filter (fun s => !f s) := by rw [hc]; exact List.mem_cons_self
        have hne : x ≠ a := fun e => by
          have := (List.mem_filter.mp ha).2
          rw [← e, h] at this
          cases this
        simp only []
        rw [idx_ne _ hne, List.drop_succ_cons]
    · rw [if_neg h, brcS_some]
      unfold shwP
      rw [List.filter_cons_of_pos (by simp [h])]
      simp only []
      rw [List.idxOf_cons_self, List.drop_zero, List.filter_cons_of_neg h]
/-! ### the first shelf in the order of shelves -/
def cont (ps : List ((Str × Str) × List Str)) (k : Str × Str) : List Str := ((ps.find? fun p => decide (p.1 = k)).map (·.2)).getD []
def dueP (ps : List ((Str × Str) × List Str)) (f : Str → Bool) (ks : List (Str × Str)) : Option ((Str × Str) × Str × Str) := ks.findSome? fun k => (brcS f none (cont ps k)).map fun r => (k, r)
theorem cont_of {es : List Rw} : ∀ {e : Rw}, (es.map (·.1)).Nodup → e ∈ es → cont (stripR es) e.1 = e.2.2 := by
  induction es with
  | nil => intro e _ h; cases h
  | cons x es ih =>
    intro e nd he
    rw [List.map_cons, List.nodup_cons] at nd
    unfold cont stripR
    rw [List.map_cons, List.find?_cons]
    rcases List.mem_cons.mp he with rfl | h
    · simp
    · have hne : x.1 ≠ e.1 := fun q => nd.1 (List.mem_map.mpr ⟨e, h, q.symm⟩)
      rw [decide_eq_false hne]
      exact ih nd.2 h
theorem lt2_irr (x : Str × Str) : lt2 x x = false := by
  unfold lt2
  rw [if_pos rfl]
  unfold ltS
  simp
theorem sorted_uniq : ∀ {a b : List (Str × Str)}, a.Perm b → a.Pairwise (fun x y => lt2 x y = true) → b.Pairwise (fun x y => lt2 x y = true) → a = b
  | [], b, p, _, _ => by rw [List.nil_perm.mp p]
  | x :: a, b, p, h1, h2 => by
    cases b with
    | nil => exact absurd p.length_eq (by simp)
    | cons y b =>
      rw [List.pairwise_cons] at h1 h2
      have hxy : x = y := by
        by_cases e : x = y
        · exact e
        · have hx : x ∈ b := ((List.mem_cons.mp ((p.mem_iff).mp List.mem_cons_self)).resolve_left e)
          have hy : y ∈ a := ((List.mem_cons.mp ((p.mem_iff).mpr List.mem_cons_self)).resolve_left fun q => e q.symm)
          have := lt2_trans (h1.1 y hy) (h2.1 x hx)
          rw [lt2_irr] at this
          cases this
      subst hxy
      rw [sorted_uniq p.cons_inv h1.2 h2.2]
/-- what broken tells -/
def ResAt (H : Hp) (v : V) : Option ((Str × Str) × Str × Str) → Prop
  | none => v = .non
  | some (k, a, b) => ∃ t t2, v = .ref t ∧ H t = some (.tup [.ref t2, .str a, .str b]) ∧ H t2 = some (.tup [.str k.1, .str k.2])
theorem ResAt.same {H H' : Hp} {v : V} : ∀ {r : Option ((Str × Str) × Str × Str)}, ResAt H v r → Same H H' → ResAt H' v r
  | none, h, _ => h
  | some (k, a, b), ⟨t, t2, e, h1, h2⟩, s => ⟨t, t2, e, s _ _ h1, s _ _ h2⟩
def ResAt2 (H : Hp) (v : V) : Option (Str × Str) → Prop
  | none => v = .non
  | some (a, b) => ∃ t, v = .ref t ∧ H t = some (.tup [.str a, .str b])
/-! ### a dict of names -/
def mkd (ss : List Str) : List (KD × V) := ss.map fun s => (.inl (.inr s), .bl true)
theorem fill_isSome (k : KD) : ∀ (kvs a : List (KD × V)), (valV (kvs.foldl (fun a p => putK a p.1 p.2) a) k).isSome = ((valV a k).isSome || kvs.any fun p => decide (p.1 = k))
  | [], a => by simp
  | p :: kvs, a => by
    rw [List.foldl_cons, fill_isSome k kvs, valV_put, List.any_cons]
    by_cases h : k = p.1
    · rw [if_pos h, h]; simp
    · rw [if_neg h, decide_eq_false (fun e => h e.symm), Bool.false_or]
theorem mkd_isSome (ss : List Str) (s : Str) : (valV (fillK (mkd ss)) (.inl (.inr s))).isSome = decide (s ∈ ss) := by
  unfold fillK
  rw [fill_isSome]
  show (false || _) = _
  rw [Bool.false_or, Bool.eq_iff_iff, List.any_eq_true, decide_eq_true_eq]
  unfold mkd
  constructor
  · rintro ⟨x, hx, e⟩
    obtain ⟨t, ht, rfl⟩ := List.mem_map.mp hx
    have e := of_decide_eq_true e
    injection e with e
    injection e with e
    rw [← e]
    exact ht
  · intro h
    exact ⟨_, List.mem_map.mpr ⟨s, h, rfl⟩, decide_eq_true rfl⟩
theorem at_strs {ss : List Str} {j : Int} (j0 : 0 ≤ j) (j1 : j < ss.length) : atI (ss.map V.str) j = some (.str (ss.getD j.toNat "")) ∧ ss.getD j.toNat "" ∈ ss := by
  refine ⟨?_, ?_⟩
  · rw [atI_lt (.str "") j0 (by rw [List.length_map]; exact j1)]
    rw [List.getD_eq_getElem?_getD, List.getD_eq_getElem?_getD, List.getElem?_map]
    cases ss[j.toNat]? <;> rfl
  · rw [List.getD_eq_getElem?_getD, List.getElem?_eq_getElem (by omega)]
    exact List.getElem_mem _
theorem cutV_from (ss : List Str) (i : Nat) (h : i ≤ ss.length) : cutV (ss.map V.str) (some (i : Int)) none = (ss.drop i).map V.str := by
  rw [cutV_map]
  have h1 : HT.sIx ss.length 0 (some (i : Int)) = i := by simp [HT.sIx]; rw [if_neg (by omega)]; omega
  have h2 : HT.sIx ss.length ss.length none = ss.length := by simp [HT.sIx]
  rw [h1, h2, List.take_of_length_le (by rw [List.length_drop]; omega)]
def putR (es : List Rw) (k : Str × Str) (r : Addr) (zs : List Str) : List Rw := if k ∈ es.map (·.1) then es.map (fun e => if e.1 = k then (k, r, zs) else e) else es ++ [(k, r, zs)]
theorem shelfP_inj {a b : Str × Str} (h : shelfP a = shelfP b) : a = b := by
  obtain ⟨q1, q2⟩ := shelf_inj h
  exact Prod.ext q1 q2
theorem putK_rw (es : List Rw) (k : Str × Str) (r : Addr) (zs : List Str) : putK (rwV es) (shelfP k) (.ref r) = rwV (putR es k r zs) := by
  unfold putK putR
  by_cases h : k ∈ es.map (·.1)
  · have ha : ((rwV es).any fun kv => decide (kv.1 = shelfP k)) = true := by
      obtain ⟨e, he, rfl⟩ := List.mem_map.mp h
      exact List.any_eq_true.mpr ⟨_, List.mem_map.mpr ⟨e, he, rfl⟩, decide_eq_true rfl⟩
    rw [if_pos ha, if_pos h]
    unfold rwV
    rw [List.map_map, List.map_map]
    refine List.map_congr_left fun e _ => ?_
    simp only [Function.comp]
    by_cases he : e.1 = k
    · rw [if_pos (by rw [he]), if_pos he, he]
    · rw [if_neg (fun q => he (shelfP_inj q)), if_neg he]
  · have ha : ¬ ((rwV es).any fun kv => decide (kv.1 = shelfP k)) = true := fun q => by
      obtain ⟨kv, h1, h2⟩ := List.any_eq_true.mp q
      obtain ⟨e, he, rfl⟩ := List.mem_map.mp h1
      exact h (List.mem_map.mpr ⟨e, he, shelfP_inj (of_decide_eq_true h2)⟩)
    rw [if_neg ha, if_neg h]
    unfold rwV
    rw [List.map_append]
    rfl
theorem putR_mem {es : List Rw} {k : Str × Str} {r : Addr} {zs : List Str} {e : Rw} (h : e ∈ putR es k r zs) : e ∈ es ∨ e = (k, r, zs) := by
  unfold putR at h
  split at h
  · obtain ⟨x, hx, rfl⟩ := List.mem_map.mp h
    split
    · exact .inr rfl
    · exact .inl hx
  · rcases List.mem_append.mp h with h | h
    · exact .inl h
    · exact .inr (List.mem_singleton.mp h)
theorem putR_len (es : List Rw) (k : Str × Str) (r : Addr) (zs : List Str) : (putR es k r zs).length ≤ es.length + 1 := by
  unfold putR
  split
  · rw [List.length_map]; omega
  · rw [List.length_append]; simp
theorem putR_nd {es : List Rw} (nd : (es.map (·.1)).Nodup) (k : Str × Str) (r : Addr) (zs : List Str) : ((putR es k r zs).map (·.1)).Nodup := by
  unfold putR
  split
  · rw [List.map_map]
    have : es.map ((·.1) ∘ fun e => if e.1 = k then (k, r, zs) else e) = es.map (·.1) := List.map_congr_left fun e _ => by
      simp only [Function.comp]
      split
      · rename_i h; exact h.symm
      · rfl
    rw [this]
    exact nd
  · rename_i h
    rw [List.map_append, List.nodup_append]
    refine ⟨nd, by simp, fun a ha b hb e1 => ?_⟩
    rw [List.mem_singleton.mp hb] at e1
    have e2 : a = k := e1
    exact h (e2 ▸ ha)
theorem RowsAt.put {H : Hp} {d : Addr} {es : List Rw} (h : RowsAt H d es) {k : Str × Str} {r : Addr} {zs : List Str} (hr : H r = some (.lst (zs.map V.str))) (ep : Nat) : RowsAt (upd H d (.dX ep (putK (rwV es) (shelfP k) (.ref r)))) d (putR es k r zs) := by
  obtain ⟨ep0, hd⟩ := h.dct
  have hne : ∀ q ys, H q = some (.lst ys) → q ≠ d := fun q ys hq e1 => by
    rw [e1, hd] at hq
    cases hq
  refine ⟨⟨ep, by rw [upd_same, putK_rw es k r zs]⟩, fun e he => ?_, putR_nd h.nd k r zs⟩
  rcases putR_mem he with h1 | rfl
  · have := h.lst e h1
    rw [upd_ne (hne _ _ this)]
    exact this
  · show upd H d _ r = _
    rw [upd_ne (hne _ _ hr)]
    exact hr
theorem brc_mem (f : Str → Bool) : ∀ {row : List Str} {o : Option Str} {a b : Str}, brcS f o row = some (a, b) → (a ∈ row ∨ o = some a) ∧ b ∈ row
  | [], o, a, b, h => by cases o <;> cases h
  | x :: r, none, a, b, h => by
    unfold brcS at h
    split at h
    · obtain ⟨h1, h2⟩ := brc_mem f h
      exact ⟨.inl (List.mem_cons_of_mem _ (h1.resolve_right (by simp))), List.mem_cons_of_mem _ h2⟩
    · obtain ⟨h1, h2⟩ := brc_mem f h
      refine ⟨.inl ?_, List.mem_cons_of_mem _ h2⟩
      rcases h1 with h1 | h1
      · exact List.mem_cons_of_mem _ h1
      · cases h1; exact List.mem_cons_self
  | x :: r, some z, a, b, h => by
    unfold brcS at h
    split at h
    · cases h
      exact ⟨.inr rfl, List.mem_cons_self⟩
    · obtain ⟨h1, h2⟩ := brc_mem f h
      refine ⟨?_, List.mem_cons_of_mem _ h2⟩
      rcases h1 with h1 | h1
      · exact .inl (List.mem_cons_of_mem _ h1)
      · exact .inr h1
theorem due_mem {es : List Rw} (nd : (es.map (·.1)).Nodup) {f : Str → Bool} {ks : List (Str × Str)} (hk : ∀ k ∈ ks, k ∈ es.map (·.1)) {k : Str × Str} {a b : Str} (h : dueP (stripR es) f ks = some (k, a, b)) : ∃ e ∈ es, e.1 = k ∧ a ∈ e.2.2 ∧ b ∈ e.2.2 := by
  unfold dueP at h
  obtain ⟨k', hk', h'⟩ := List.exists_of_findSome?_eq_some h
  obtain ⟨r, hr, e⟩ := Option.map_eq_some_iff.mp h'
  cases e
  obtain ⟨e, he, rfl⟩ := List.mem_map.mp (hk _ hk')
  rw [cont_of nd he] at hr
  obtain ⟨h1, h2⟩ := brc_mem f hr
  exact ⟨e, he, rfl, h1.resolve_right (by simp), h2⟩
def resD (k : Str × Str) (a b : Str) : PyData := .tuple [.tuple [.str k.1, .str k.2], .str a, .str b]
theorem shp_res {k : Str × Str} {a b : Str} (h1 : goodNm k.1) (h2 : goodNm k.2) (h3 : goodNm a) (h4 : goodNm b) : Shp (resD k a b) := by
  show SeqAt.shaped _ = true
  simp [resD, SeqAt.shaped, PyData.canLay0, PyData.canLayAll0, PyData.depth, PyData.depthAll, h1.ok, h2.ok, h3.ok, h4.ok]
theorem rep_res {H : Hp} {t t2 : Addr} {k : Str × Str} {a b : Str} (h1 : H t = some (.tup [.ref t2, .str a, .str b])) (h2 : H t2 = some (.tup [.str k.1, .str k.2])) : Rep H (resD k a b) (.ref t) :=
  ⟨t, _, rfl, h1, _, _, rfl, ⟨t2, _, rfl, h2, _, _, rfl, rfl, _, _, rfl, rfl, rfl⟩, _, _, rfl, rfl, _, _, rfl, rfl, rfl⟩
/-- a cut between two statements: what is left to show of the first one hangs on no more than R -/
theorem seq_cut {t1 t2 : TS} {D : Ends} {σ : St} {H : Hp} (R : St → Hp → Prop) (g : ∀ N : St → Hp → Prop, (∀ σ' H', R σ' H' → N σ' H') → t1 { D with nx := N } σ H) (h : ∀ σ' H', R σ' H' → t2 D σ' H') : tSeq t1 t2 D σ H := g (fun σ' H' => t2 D σ' H') h
theorem while_w {c : TT} {tb : TS} {D : Ends} {σ : St} {H : Hp} (W : Nat → St → Hp → Prop) (m0 : Nat) (h0 : W m0 σ H)
    (hs : ∀ m σ H, W m σ H → c σ H fun b H1 => if b = true then ∃ N : St → Hp → Prop, (∀ σ' H', N σ' H' → ∃ m', m' < m ∧ W m' σ' H') ∧ tb { D with nx := N, ct := N, bk := D.nx } σ H1 else D.nx σ H1) : tWhile c tb D σ H := ⟨W, ⟨m0, h0⟩, hs⟩
end L2

namespace L2
open PySem PySem.Spec PyProof.Rows KS
open Sem (wp)

/-! ### rows with their lists' addresses: new ones, no two alike; what they hold as a function of the shelf -/
abbrev RFn := Str × Str → List Str
structure RF (H0 H : Hp) (d : Addr) (es : List Rw) (F : RFn) : Prop where
  at_ : RowsAt H d es
  fr : ∀ e ∈ es, H0 e.2.1 = none
  an : (es.map (·.2.1)).Nodup
  val : ∀ e ∈ es, e.2.2 = F e.1
  ne : ∀ e ∈ es, e.2.2 ≠ []
  all : ∀ k, F k ≠ [] → k ∈ es.map (·.1)
theorem RF.same {H0 H H' : Hp} {d : Addr} {es : List Rw} {F : RFn} (R : RF H0 H d es F) (s : Same H H') : RF H0 H' d es F := ⟨R.at_.same s, R.fr, R.an, R.val, R.ne, R.all⟩
theorem RF.low {H0 H00 H : Hp} {d : Addr} {es : List Rw} {F : RFn} (R : RF H0 H d es F) (s : Same H00 H0) : RF H00 H d es F := ⟨R.at_, fun e he => s.free (R.fr e he), R.an, R.val, R.ne, R.all⟩
theorem RF.congr {H0 H : Hp} {d : Addr} {es : List Rw} {F F' : RFn} (R : RF H0 H d es F) (h : ∀ k, F k = F' k) : RF H0 H d es F' := by
  have : F = F' := funext h
  exact this ▸ R
/-- a function of rows over few shelves -/
structure FOk (U : List (Str × Str)) (m : Nat) (F : RFn) : Prop where
  sub : ∀ k, F k ≠ [] → k ∈ U
  len : ∀ k, (F k).length ≤ m
  good : ∀ k, ∀ s ∈ F k, goodNm s
theorem FOk.mono {U : List (Str × Str)} {m m' : Nat} {F : RFn} (h : FOk U m F) (hm : m ≤ m') : FOk U m' F := ⟨h.sub, fun k => Nat.le_trans (h.len k) hm, h.good⟩
theorem RF.few {H0 H : Hp} {d : Addr} {es : List Rw} {F : RFn} (R : RF H0 H d es F) {U : List (Str × Str)} {m : Nat} (h : FOk U m F) : es.length ≤ U.length := by
  have := nodup_sub_len (a := es.map (·.1)) (b := U) R.at_.nd fun k hk => by
    obtain ⟨e, he, rfl⟩ := List.mem_map.mp hk
    exact h.sub _ (by rw [← R.val e he]; exact R.ne e he)
  rw [List.length_map] at this
  exact this
theorem RF.keys {H0 H H0' H' : Hp} {d d' : Addr} {es es' : List Rw} {F : RFn} (R : RF H0 H d es F) (R' : RF H0' H' d' es' F) {e : Rw} (he : e ∈ es) : ∃ e' ∈ es', e'.1 = e.1 ∧ e'.2.2 = e.2.2 := by
  obtain ⟨e', he', h⟩ := List.mem_map.mp (R'.all e.1 (by rw [← R.val e he]; exact R.ne e he))
  exact ⟨e', he', h, by rw [R'.val e' he', R.val e he, h]⟩
theorem RF.len_le {H0 H H0' H' : Hp} {d d' : Addr} {es es' : List Rw} {F : RFn} (R : RF H0 H d es F) (R' : RF H0' H' d' es' F) : es.length ≤ es'.length := by
  have := nodup_sub_len (a := es.map (·.1)) (b := es'.map (·.1)) R.at_.nd fun k hk => by
    obtain ⟨e, he, rfl⟩ := List.mem_map.mp hk
    obtain ⟨e', he', h, _⟩ := R.keys R' he
    exact List.mem_map.mpr ⟨e', he', h⟩
  rw [List.length_map, List.length_map] at this
  exact this
def setF (F : RFn) (k : Str × Str) (zs : List Str) : RFn := fun k' => if k' = k then zs else F k'
theorem putR_an : ∀ {es : List Rw} {k : Str × Str} {r : Addr} {zs : List Str}, (es.map (·.1)).Nodup → (es.map (·.2.1)).Nodup → (∀ e ∈ es, e.2.1 ≠ r) → ((putR es k r zs).map (·.2.1)).Nodup := by
  intro es k r zs nk na hr
  unfold putR
  split
  · rename_i hk0
    clear hk0
    induction es with
    | nil => simp
    | cons x es ih =>
      rw [List.map_cons, List.nodup_cons] at nk na
      rw [List.map_cons, List.map_cons, List.nodup_cons]
      refine ⟨fun hm => ?_, ih nk.2 na.2 fun e he => hr e (List.mem_cons_of_mem _ he)⟩
      obtain ⟨y, hy, e1⟩ := List.mem_map.mp hm
      obtain ⟨z, hz, rfl⟩ := List.mem_map.mp hy
      have hzr := hr z (List.mem_cons_of_mem _ hz)
      have hxr := hr x List.mem_cons_self
      by_cases h1 : x.1 = k
      · rw [if_pos h1] at e1
        by_cases h2 : z.1 = k
        · exact nk.1 (List.mem_map.mpr ⟨z, hz, by rw [h1, h2]⟩)
        · rw [if_neg h2] at e1
          exact hzr e1
      · rw [if_neg h1] at e1
        by_cases h2 : z.1 = k
        · rw [if_pos h2] at e1
          exact hxr e1.symm
        · rw [if_neg h2] at e1
          exact na.1 (List.mem_map.mpr ⟨z, hz, e1⟩)
  · rw [List.map_append, List.nodup_append]
    refine ⟨na, by simp, fun a ha b hb e1 => ?_⟩
    obtain ⟨e, he, rfl⟩ := List.mem_map.mp ha
    rw [List.mem_singleton.mp hb] at e1
    exact hr e he e1
theorem putR_val {es : List Rw} {F : RFn} (nk : (es.map (·.1)).Nodup) {k : Str × Str} {r : Addr} {zs : List Str} (h : ∀ e ∈ es, e.2.2 = F e.1) : ∀ e ∈ putR es k r zs, e.2.2 = setF F k zs e.1 := by
  intro e he
  unfold putR at he
  unfold setF
  split at he
  · obtain ⟨x, hx, rfl⟩ := List.mem_map.mp he
    by_cases h1 : x.1 = k
    · rw [if_pos h1, if_pos rfl]
    · rw [if_neg h1, if_neg h1]; exact h x hx
  · rename_i hk
    rcases List.mem_append.mp he with h1 | h1
    · have : e.1 ≠ k := fun q => hk (List.mem_map.mpr ⟨e, h1, q⟩)
      rw [if_neg this]; exact h e h1
    · rw [List.mem_singleton.mp h1, if_pos rfl]
theorem putR_keys {es : List Rw} {k k' : Str × Str} {r : Addr} {zs : List Str} (h : k' = k ∨ k' ∈ es.map (·.1)) : k' ∈ (putR es k r zs).map (·.1) := by
  unfold putR
  split
  · rename_i hk
    have hm : k' ∈ es.map (·.1) := by
      rcases h with rfl | h
      · exact hk
      · exact h
    obtain ⟨e, he, rfl⟩ := List.mem_map.mp hm
    refine List.mem_map.mpr ⟨_, List.mem_map.mpr ⟨e, he, rfl⟩, ?_⟩
    split
    · rename_i h1; exact h1.symm
    · rfl
  · rw [List.map_append]
    rcases h with rfl | h
    · exact List.mem_append_right _ (by simp)
    · exact List.mem_append_left _ h
theorem RF.put {H0 H : Hp} {d : Addr} {es : List Rw} {F : RFn} (R : RF H0 H d es F) {k : Str × Str} {r : Addr} {zs : List Str} (hr : H r = some (.lst (zs.map V.str))) (hz : zs ≠ []) (hr0 : H0 r = none) (hrn : ∀ e ∈ es, e.2.1 ≠ r) (ep : Nat) :
    RF H0 (upd H d (.dX ep (putK (rwV es) (shelfP k) (.ref r)))) d (putR es k r zs) (setF F k zs) := by
  refine ⟨R.at_.put hr ep, fun e he => ?_, putR_an R.at_.nd R.an hrn, putR_val R.at_.nd R.val, fun e he => ?_, fun k' hk' => ?_⟩
  · rcases putR_mem he with h | rfl
    · exact R.fr e h
    · exact hr0
  · rcases putR_mem he with h | rfl
    · exact R.ne e h
    · exact hz
  · unfold setF at hk'
    by_cases h : k' = k
    · exact putR_keys (.inl h)
    · rw [if_neg h] at hk'
      exact putR_keys (.inr (R.all k' hk'))
theorem RF.notfree {H0 H : Hp} {d : Addr} {es : List Rw} {F : RFn} (R : RF H0 H d es F) {r : Addr} (hr : H r = none) : ∀ e ∈ es, e.2.1 ≠ r := fun e he q => by
  have := R.at_.lst e he
  rw [q, hr] at this
  cases this
theorem RF.nil {H0 H : Hp} {d : Addr} {ep : Nat} (h : H d = some (.dX ep [])) : RF H0 H d [] (fun _ => []) := ⟨⟨⟨ep, h⟩, by simp, by simp⟩, by simp, by simp, by simp, by simp, fun k hk => absurd rfl hk⟩
/-- what stands under a shelf, or the empty list -/
theorem RF.get {H0 H : Hp} {d : Addr} {es : List Rw} {F : RFn} (R : RF H0 H d es F) (k : Str × Str) {pe : Addr} (hpe : H pe = some (.lst [])) : ∃ b, (valV (rwV es) (shelfP k)).getD (.ref pe) = .ref b ∧ H b = some (.lst ((F k).map V.str)) := by
  by_cases h : k ∈ es.map (·.1)
  · obtain ⟨e, he, rfl⟩ := List.mem_map.mp h
    refine ⟨e.2.1, by rw [valV_rw R.at_.nd he]; rfl, ?_⟩
    rw [← R.val e he]
    exact R.at_.lst e he
  · refine ⟨pe, by rw [valV_rw_none h]; rfl, ?_⟩
    have : F k = [] := by
      by_cases q : F k = []
      · exact q
      · exact absurd (R.all k q) h
    rw [this]
    exact hpe
/-- rows built one by one of others -/
def resF (es : List Rw) (i : Nat) (G : RFn) : RFn := fun k => if k ∈ (es.take i).map (·.1) then G k else []
theorem resF_succ {es : List Rw} {i : Nat} {G : RFn} {e : Rw} (he : es[i]? = some e) (k : Str × Str) : setF (resF es i G) e.1 (G e.1) k = resF es (i + 1) G k := by
  unfold setF resF
  rw [List.take_add_one, he, List.map_append]
  by_cases h : k = e.1
  · rw [if_pos h, if_pos (List.mem_append_right _ (by simp [h])), h]
  · rw [if_neg h]
    by_cases h2 : k ∈ (es.take i).map (·.1)
    · rw [if_pos h2, if_pos (List.mem_append_left _ h2)]
    · rw [if_neg h2, if_neg (fun q => ?_)]
      rcases List.mem_append.mp q with q | q
      · exact h2 q
      · simp at q; exact h q
theorem resF_skip {es : List Rw} {i : Nat} {G : RFn} {e : Rw} (he : es[i]? = some e) (hG : G e.1 = []) (k : Str × Str) : resF es i G k = resF es (i + 1) G k := by
  unfold resF
  rw [List.take_add_one, he, List.map_append]
  by_cases h2 : k ∈ (es.take i).map (·.1)
  · rw [if_pos h2, if_pos (List.mem_append_left _ h2)]
  · rw [if_neg h2]
    by_cases h : k = e.1
    · rw [if_pos (List.mem_append_right _ (by simp [h])), h, hG]
    · rw [if_neg (fun q => ?_)]
      rcases List.mem_append.mp q with q | q
      · exact h2 q
      · simp at q; exact h q
theorem resF_all {es : List Rw} {G : RFn} (h : ∀ k, G k ≠ [] → k ∈ es.map (·.1)) {n : Nat} (hn : es.length ≤ n) (k : Str × Str) : resF es n G k = G k := by
  unfold resF
  rw [List.take_of_length_le hn]
  by_cases q : k ∈ es.map (·.1)
  · rw [if_pos q]
  · rw [if_neg q]
    by_cases z : G k = []
    · exact z.symm
    · exact absurd (h k z) q
def addF (F : RFn) (nm : Str) (ks : List (Str × Str)) : RFn := fun k => if k ∈ ks then F k ++ [nm] else F k
theorem addF_succ {F : RFn} {nm : Str} {ks : List (Str × Str)} (nd : ks.Nodup) {i : Nat} {k : Str × Str} (hk : ks[i]? = some k) (k' : Str × Str) : setF (addF F nm (ks.take i)) k (addF F nm (ks.take i) k ++ [nm]) k' = addF F nm (ks.take (i + 1)) k' := by
  have hn : k ∉ ks.take i := fun q => by
    obtain ⟨j, hj⟩ := List.mem_iff_getElem?.mp q
    rw [List.getElem?_take] at hj
    split at hj
    · have := nodup_ix' nd hj hk
      omega
    · cases hj
  unfold setF addF
  rw [List.take_add_one, hk, if_neg hn]
  by_cases h : k' = k
  · rw [if_pos h, h, if_pos (List.mem_append_right _ (by simp))]
  · rw [if_neg h]
    by_cases h2 : k' ∈ ks.take i
    · rw [if_pos h2, if_pos (List.mem_append_left _ h2)]
    · rw [if_neg h2, if_neg (fun q => ?_)]
      rcases List.mem_append.mp q with q | q
      · exact h2 q
      · simp at q; exact h q
def lessF (F : RFn) (ss : List Str) : RFn := fun k => (F k).filter fun s => !decide (s ∈ ss)
theorem FOk.less {U : List (Str × Str)} {m : Nat} {F : RFn} (h : FOk U m F) (ss : List Str) : FOk U m (lessF F ss) :=
  ⟨fun k hk => h.sub k fun q => hk (by unfold lessF; rw [q]; rfl), fun k => Nat.le_trans (List.length_filter_le _ _) (h.len k), fun k s hs => h.good k s (List.mem_filter.mp hs).1⟩
theorem FOk.add {U : List (Str × Str)} {m : Nat} {F : RFn} (h : FOk U m F) {nm : Str} (hn : goodNm nm) {ks : List (Str × Str)} (hk : ∀ k ∈ ks, k ∈ U) : FOk U (m + 1) (addF F nm ks) := by
  refine ⟨fun k q => ?_, fun k => ?_, fun k s hs => ?_⟩
  · unfold addF at q
    by_cases z : k ∈ ks
    · exact hk k z
    · rw [if_neg z] at q; exact h.sub k q
  · unfold addF
    have := h.len k
    split
    · rw [List.length_append]; simp; omega
    · omega
  · unfold addF at hs
    split at hs
    · rcases List.mem_append.mp hs with q | q
      · exact h.good k s q
      · rw [List.mem_singleton.mp q]; exact hn
    · exact h.good k s hs
theorem addF_mem {F : RFn} {nm : Str} {ks ks' : List (Str × Str)} (h : ∀ k, k ∈ ks ↔ k ∈ ks') (k : Str × Str) : addF F nm ks k = addF F nm ks' k := by
  unfold addF
  by_cases q : k ∈ ks
  · rw [if_pos q, if_pos ((h k).mp q)]
  · rw [if_neg q, if_neg (fun z => q ((h k).mpr z))]
theorem RF.strip {H0 H : Hp} {d : Addr} {es es' : List Rw} {F : RFn} (R : RF H0 H d es F) (hs : stripR es' = stripR es) : (∀ e ∈ es', e.2.2 = F e.1) ∧ (∀ e ∈ es', e.2.2 ≠ []) ∧ (∀ k, F k ≠ [] → k ∈ es'.map (·.1)) ∧ (es'.map (·.1)).Nodup := by
  have hk : es'.map (·.1) = es.map (·.1) := by
    have := congrArg (List.map (·.1)) hs
    unfold stripR at this
    rw [List.map_map, List.map_map] at this
    exact this
  refine ⟨fun e he => ?_, fun e he => ?_, fun k q => by rw [hk]; exact R.all k q, by rw [hk]; exact R.at_.nd⟩
  · obtain ⟨e', h1, h2, h3⟩ := strip_get hs.symm he
    rw [← h3, R.val e' h1, h2]
  · obtain ⟨e', h1, h2, h3⟩ := strip_get hs.symm he
    rw [← h3]
    exact R.ne e' h1
theorem fill_rw : ∀ (es a : List Rw), ((a ++ es).map (·.1)).Nodup → (rwV es).foldl (fun a p => putK a p.1 p.2) (rwV a) = rwV (a ++ es)
  | [], a, _ => by rw [List.append_nil]; rfl
  | e :: es, a, nd => by
    have hn : e.1 ∉ a.map (·.1) := fun q => by
      rw [List.map_append, List.nodup_append] at nd
      exact nd.2.2 _ q _ (by simp) rfl
    show (rwV es).foldl (fun a p => putK a p.1 p.2) (putK (rwV a) (shelfP e.1) (.ref e.2.1)) = _
    rw [putK_new _ (valV_rw_none hn)]
    have h1 : rwV a ++ [(shelfP e.1, V.ref e.2.1)] = rwV (a ++ [e]) := by unfold rwV; rw [List.map_append]; rfl
    rw [h1, fill_rw es (a ++ [e]) (by rw [List.append_assoc]; exact nd), List.append_assoc]
    rfl
theorem fillK_rw {es : List Rw} (nd : (es.map (·.1)).Nodup) : fillK (rwV es) = rwV es := fill_rw es [] nd
/-! ### what changed: the lists at some addresses alone -/
def Mt (As : List Addr) (H H' : Hp) : Prop := ∀ b o, b ∉ As → H b = some o → H' b = some o
theorem Mt.refl (As : List Addr) (H : Hp) : Mt As H H := fun _ _ _ h => h
theorem Mt.trans {As : List Addr} {H H1 H2 : Hp} (a : Mt As H H1) (b : Mt As H1 H2) : Mt As H H2 := fun c o n h => b c o n (a c o n h)
theorem Mt.of {As : List Addr} {H H' : Hp} (s : Same H H') : Mt As H H' := fun c o _ h => s c o h
theorem Mt.upd {As : List Addr} {H : Hp} {p : Addr} {o : HO} (h : p ∈ As) : Mt As H (L2.upd H p o) := fun c u n e => by
  have hne : c ≠ p := fun q => n (by rw [q]; exact h)
  rw [upd_ne hne]
  exact e
theorem Mt.more {As Bs : List Addr} {H H' : Hp} (m : Mt As H H') (h : ∀ a ∈ As, a ∈ Bs) : Mt Bs H H' := fun c o n e => m c o (fun q => n (h c q)) e
def morE (w : Str) (e : Rw) : Rw := (e.1, e.2.1, e.2.2 ++ [w])
def partM (w : Str) (es : List Rw) (j : Nat) : List Rw := (es.take j).map (morE w) ++ es.drop j
theorem rwV_part (w : Str) (es : List Rw) (j : Nat) : rwV (partM w es j) = rwV es := by
  unfold partM rwV
  rw [List.map_append, List.map_map]
  have : (es.take j).map ((fun e : Rw => (shelfP e.1, V.ref e.2.1)) ∘ morE w) = (es.take j).map fun e : Rw => (shelfP e.1, V.ref e.2.1) := rfl
  rw [this, ← List.map_append, List.take_append_drop]
theorem part_get (w : Str) {es : List Rw} {j : Nat} {e : Rw} (he : es[j]? = some e) : partM w es j = (es.take j).map (morE w) ++ e :: es.drop (j + 1) ∧ partM w es (j + 1) = (es.take j).map (morE w) ++ morE w e :: es.drop (j + 1) := by
  obtain ⟨h1, h2⟩ := List.getElem?_eq_some_iff.mp he
  unfold partM
  refine ⟨by rw [List.drop_eq_getElem_cons h1, h2], ?_⟩
  rw [List.take_add_one, he, List.map_append, List.append_assoc]
  rfl
theorem RowsAt.mt {H H' : Hp} {d : Addr} {es : List Rw} {As : List Addr} (R : RowsAt H d es) (m : Mt As H H') (hd : d ∉ As) (he : ∀ e ∈ es, e.2.1 ∉ As) : RowsAt H' d es := ⟨let ⟨ep, e⟩ := R.dct; ⟨ep, m _ _ hd e⟩, fun e h => m _ _ (he e h) (R.lst e h), R.nd⟩
theorem RF.mt {H0 H H' : Hp} {d : Addr} {es : List Rw} {F : RFn} {As : List Addr} (R : RF H0 H d es F) (m : Mt As H H') (hd : d ∉ As) (he : ∀ e ∈ es, e.2.1 ∉ As) : RF H0 H' d es F := ⟨R.at_.mt m hd he, R.fr, R.an, R.val, R.ne, R.all⟩
theorem partM_zero (w : Str) (es : List Rw) : partM w es 0 = es := by
  unfold partM
  rw [List.take_zero, List.drop_zero]
  rfl
theorem partM_all (w : Str) (es : List Rw) {n : Nat} (h : es.length ≤ n) : partM w es n = es.map (morE w) := by
  unfold partM
  rw [List.take_of_length_le h, List.drop_eq_nil_of_le h, List.append_nil]
theorem KeysAt.lst {H : Hp} {kvs : List (KD × V)} {ys : List V} {p : Addr} {xs : List V} {o : HO} (h : KeysAt H kvs ys) (hp : H p = some (.lst xs)) : KeysAt (upd H p o) kvs ys :=
  Paired.mapP h fun kv y hy => hy.mono fun b zs hb => by
    have hne : b ≠ p := fun q => by rw [q, hp] at hb; cases hb
    rw [upd_ne hne]
    exact hb
theorem good_more : goodNm "more" := by
  refine ⟨by decide, by decide, fun c hc => ?_⟩
  revert c
  decide
/-- one more list of them has the word at its end -/
theorem RowsAt.step {H : Hp} {d : Addr} {es : List Rw} {w : Str} {j : Nat} {e : Rw} (R : RowsAt H d (partM w es j)) (an : (es.map (·.2.1)).Nodup) (he : es[j]? = some e) : H e.2.1 = some (.lst (e.2.2.map V.str)) ∧ RowsAt (upd H e.2.1 (.lst (e.2.2.map V.str ++ [.str w]))) d (partM w es (j + 1)) := by
  obtain ⟨p1, p2⟩ := part_get w he
  have hR := R.lst
  rw [p1] at hR
  have h1 : H e.2.1 = some (.lst (e.2.2.map V.str)) := hR e (List.mem_append_right _ List.mem_cons_self)
  refine ⟨h1, ?_⟩
  have key : (partM w es (j + 1)).map (·.1) = (partM w es j).map (·.1) := by
    have a := congrArg (List.map (·.1)) (rwV_part w es (j + 1))
    have b := congrArg (List.map (·.1)) (rwV_part w es j)
    unfold rwV at a b
    rw [List.map_map, List.map_map] at a b
    have c := a.trans b.symm
    have inj : ∀ {l l' : List Rw}, l.map ((fun x : KD × V => x.1) ∘ fun e => (shelfP e.1, V.ref e.2.1)) = l'.map ((fun x : KD × V => x.1) ∘ fun e => (shelfP e.1, V.ref e.2.1)) → l.map (·.1) = l'.map (·.1) := by
      intro l
      induction l with
      | nil => intro l' h; cases l' with | nil => rfl | cons y l' => cases h
      | cons x l ih =>
        intro l' h
        cases l' with
        | nil => cases h
        | cons y l' =>
          rw [List.map_cons, List.map_cons] at h
          injection h with h1 h2
          rw [List.map_cons, List.map_cons, ih h2, shelfP_inj h1]
    exact inj c
  obtain ⟨ep, hd⟩ := R.dct
  have hne : d ≠ e.2.1 := fun q => by rw [q, h1] at hd; cases hd
  refine ⟨⟨ep, ?_⟩, fun x hx => ?_, by rw [key]; exact R.nd⟩
  · rw [upd_ne hne, rwV_part, ← rwV_part w es j]; exact hd
  · rw [p2] at hx
    have an' : ((es.take j).map (·.2.1) ++ e.2.1 :: (es.drop (j + 1)).map (·.2.1)).Nodup := by
      have : es = es.take j ++ e :: es.drop (j + 1) := by
        obtain ⟨h1, h2⟩ := List.getElem?_eq_some_iff.mp he
        rw [← h2, ← List.drop_eq_getElem_cons h1, List.take_append_drop]
      rw [this, List.map_append, List.map_cons] at an
      exact an
    rw [List.nodup_append] at an'
    obtain ⟨a1, a2, a3⟩ := an'
    rw [List.nodup_cons] at a2
    rcases List.mem_append.mp hx with hx | hx
    · have hold := hR x (List.mem_append_left _ hx)
      obtain ⟨y, hy, rfl⟩ := List.mem_map.mp hx
      have : y.2.1 ≠ e.2.1 := a3 _ (List.mem_map.mpr ⟨y, hy, rfl⟩) _ List.mem_cons_self
      show upd H e.2.1 _ y.2.1 = _
      rw [upd_ne this]
      exact hold
    · rcases List.mem_cons.mp hx with rfl | hx
      · show upd H e.2.1 _ e.2.1 = some (.lst ((e.2.2 ++ [w]).map V.str))
        rw [upd_same, List.map_append]
        rfl
      · have hold := hR x (List.mem_append_right _ (List.mem_cons_of_mem _ hx))
        have : x.2.1 ≠ e.2.1 := fun q => a2.1 (by rw [← q]; exact List.mem_map.mpr ⟨x, hx, rfl⟩)
        rw [upd_ne this]
        exact hold
def TwosAt (H : Hp) : List (Str × Str) → List Addr → Prop := Paired fun (k : Str × Str) r => H r = some (.tup [.str k.1, .str k.2])
theorem TwosAt.same {H H' : Hp} {ks : List (Str × Str)} {rs : List Addr} (h : TwosAt H ks rs) (s : Same H H') : TwosAt H' ks rs := Paired.mapP h fun _ _ e => s _ _ e
def givers (ls : List Leg) : List (Str × Str) := ls.map fun l => (l.1, l.2.2.1)
def unsh : KD → Str × Str
  | .inr [.inr a, .inr b] => (a, b)
  | _ => ("", "")
theorem sumOf_nn : ∀ (ps : List (KD × Int)) (k : KD), (∀ p ∈ ps, 1 ≤ p.2) → 0 ≤ Sh.sumOf ps k
  | [], _, _ => Int.le_refl _
  | p :: r, k, h => by
    rw [show p :: r = [p] ++ r from rfl, sumOf_append]
    have h1 := sumOf_nn r k fun q hq => h q (List.mem_cons_of_mem _ hq)
    have h2 := h p List.mem_cons_self
    have h3 : 0 ≤ Sh.sumOf [p] k := by
      unfold Sh.sumOf
      by_cases e : p.1 = k
      · simp [e]; omega
      · simp [e]
    omega
theorem sumOf_pos : ∀ (ps : List (KD × Int)) (k : KD), (∀ p ∈ ps, 1 ≤ p.2) → k ∈ ps.map (·.1) → 1 ≤ Sh.sumOf ps k
  | [], _, _, hm => by simp at hm
  | p :: r, k, h, hm => by
    rw [show p :: r = [p] ++ r from rfl, sumOf_append]
    have h1 := sumOf_nn r k fun q hq => h q (List.mem_cons_of_mem _ hq)
    have h2 := h p List.mem_cons_self
    by_cases e : p.1 = k
    · have h3 : Sh.sumOf [p] k = p.2 := by simp [Sh.sumOf, e]
      omega
    · have h3 : Sh.sumOf [p] k = 0 := by simp [Sh.sumOf, e]
      rw [List.map_cons] at hm
      have h4 := sumOf_pos r k (fun q hq => h q (List.mem_cons_of_mem _ hq)) ((List.mem_cons.mp hm).resolve_left (fun x => e x.symm))
      omega
theorem RF.nelist {H0 H : Hp} {d : Addr} {es : List Rw} {F : RFn} (R : RF H0 H d es F) {p : Addr} {ts : List Addr} (hp : H p = some (.lst (ts.map V.ref))) : d ∉ [p] ∧ ∀ e ∈ es, e.2.1 ∉ [p] := by
  refine ⟨fun q => ?_, fun e he q => ?_⟩
  · obtain ⟨ep, hd⟩ := R.at_.dct
    rw [List.mem_singleton.mp q, hp] at hd
    cases hd
  · have h1 := R.at_.lst e he
    have hne := R.ne e he
    rw [List.mem_singleton.mp q, hp] at h1
    have h2 : ts.map V.ref = e.2.2.map V.str := by injection h1 with h1; injection h1
    cases hc : e.2.2 with
    | nil => exact hne hc
    | cons x xs =>
      rw [hc] at h2
      cases ts with
      | nil => cases h2
      | cons t ts => injection h2 with h2 _; cases h2
theorem sum_const {α : Type} (c : Nat) : ∀ l : List α, (l.map fun _ => c).sum = c * l.length
  | [] => rfl
  | x :: l => by rw [List.map_cons, List.sum_cons, sum_const c l, List.length_cons, Nat.mul_succ]; omega
theorem while_cut {c : TT} {tb : TS} {D : Ends} {σ : St} {H : Hp} (W : Nat → St → Hp → Prop) (m0 : Nat) (h0 : W m0 σ H)
    (hs : ∀ m σ H, W m σ H → ∀ A B : Hp → Prop, (∀ H1, tb { D with nx := fun σ' H' => ∃ m', m' < m ∧ W m' σ' H', ct := fun σ' H' => ∃ m', m' < m ∧ W m' σ' H', bk := D.nx } σ H1 → A H1) → (∀ H1, D.nx σ H1 → B H1) → c σ H fun b H1 => if b = true then A H1 else B H1) : tWhile c tb D σ H :=
  while_w W m0 h0 fun m σ H w => hs m σ H w _ _ (fun _ h => ⟨_, fun _ _ z => z, h⟩) (fun _ h => h)
end L2

set_option maxHeartbeats 4000000
local macro_rules | `(tactic| walk_at "rd") => `(tactic| simp only [L2.tSeq, L2.tIfS, L2.tIf, L2.tTest, L2.tOp, L2.tUn, L2.tVar, L2.tC, L2.tRet, L2.tRetN, L2.tAsg, L2.tDrop, L2.tNext, L2.tBreak, L2.tCont, L2.gName, L2.gTup, L2.gCons_cons, L2.gNil_nil, L2.gSub, L2.tNot, L2.tAnd, L2.tOr, L2.tAndV, L2.tOrV, L2.tNotV, L2.tB, L2.tCall, L2.tCons, L2.tNil, L2.tCB, L2.tBM, L2.tBM0, L2.tTup, L2.tLst, L2.tSl, L2.tNoPart, L2.tPart, L2.tChain, L2.tAll, L2.tFld, L2.tXNew, L2.tRev, L2.tX1,
  L2.rI, L2.rI0, L2.rU, L2.rEq, L2.rNe, L2.scal, L2.CDiv, L2.CMul, L2.CPow, L2.start, L2.cxOf, L2.Cx.wish, L2.dec_int, L2.V.int.injEq, L2.V.str.injEq, L2.V.bl.injEq, L2.V.ref.injEq, L2.V.ty.injEq, reduceCtorEq,
  List.map_cons, List.map_nil, List.length_cons, List.length_nil, List.replicate_succ, List.replicate_zero, List.replicate, List.cons_append, List.nil_append, List.append_nil, List.getElem?_cons_zero, List.getElem?_cons_succ, List.set_cons_zero, List.set_cons_succ,
  Option.some.injEq, exists_eq_left', exists_eq_left, exists_eq_right, exists_eq, exists_and_left, exists_and_right, List.cons.injEq, and_true, true_and, and_self, Bool.not_true, Bool.not_false, decide_eq_true_eq, Bool.not_eq_true', decide_eq_false_iff_not, if_true, if_false, Bool.false_eq_true, eq_self_iff_true,
  Nat.zero_add, Nat.reduceAdd, Nat.reduceSub, Int.reduceLT, Int.reduceLE, Int.reduceNeg, Int.reducePow, Nat.reduceLT, Nat.reducePow, Int.reduceToNat, or_true, true_or, L2.na_10, L2.sz_0, L2.sz_1, L2.sz_2, L2.sz_3, L2.sz_4, L2.sz_5, L2.sz_6, L2.sz_7, L2.sz_8, L2.sz_9, L2.sz_10, L2.sz_11, L2.sz_12, L2.sz_13, L2.sz_14])
local macro_rules | `(tactic| walk_at "rx") => `(tactic| simp only [L2.tSeq, L2.tIfS, L2.tIf, L2.tTest, L2.tOp, L2.tUn, L2.tVar, L2.tC, L2.tRet, L2.tRetN, L2.tAsg, L2.tDrop, L2.tNext, L2.tBreak, L2.tCont, L2.gName, L2.gTup, L2.gCons_cons, L2.gNil_nil, L2.gSub, L2.tNot, L2.tAnd, L2.tOr, L2.tAndV, L2.tOrV, L2.tNotV, L2.tB, L2.tCall, L2.tCons, L2.tNil, L2.tCB, L2.tBM, L2.tBM0, L2.tTup, L2.tLst, L2.tSl, L2.tNoPart, L2.tPart, L2.tChain, L2.tAll, L2.tFld, L2.tXNew, L2.tRev, L2.tX1, L2.tFor_w, L2.tComp_w, L2.pull, L2.iKeys, L2.iList, L2.iTup, L2.iStr, L2.iRng1, L2.iRng2, L2.iRng3, L2.iView, Option.getD_some, Option.getD_none,
  L2.rI, L2.rI0, L2.rU, L2.rEq, L2.rNe, L2.scal, L2.CDiv, L2.CMul, L2.CPow, L2.start, L2.cxOf, L2.Cx.wish, L2.dec_int, L2.V.int.injEq, L2.V.str.injEq, L2.V.bl.injEq, L2.V.ref.injEq, L2.V.ty.injEq, reduceCtorEq,
  List.map_cons, List.map_nil, List.length_cons, List.length_nil, List.replicate_succ, List.replicate_zero, List.replicate, List.cons_append, List.nil_append, List.append_nil, List.getElem?_cons_zero, List.getElem?_cons_succ, List.set_cons_zero, List.set_cons_succ,
  Option.some.injEq, exists_eq_left', exists_eq_left, exists_eq', exists_eq_right, exists_eq, exists_and_left, exists_and_right, List.cons.injEq, and_true, true_and, and_self, Bool.not_true, Bool.not_false, decide_eq_true_eq, Bool.not_eq_true', decide_eq_false_iff_not, if_true, if_false, Bool.false_eq_true, eq_self_iff_true,
  Nat.zero_add, Nat.reduceAdd, Nat.reduceSub, Int.reduceLT, Int.reduceLE, Int.reduceNeg, Int.reducePow, Nat.reduceLT, Nat.reducePow, Int.reduceToNat, or_true, true_or, L2.na_10, L2.sz_0, L2.sz_1, L2.sz_2, L2.sz_3, L2.sz_4, L2.sz_5, L2.sz_6, L2.sz_7, L2.sz_8, L2.sz_9, L2.sz_10, L2.sz_11, L2.sz_12, L2.sz_13, L2.sz_14])
seal L2.PE L2.PT L2.PW L2.PA L2.PS L2.PSs L2.PG L2.PGs L2.PI L2.PC L2.PFs L2.PO L2.OpR L2.UnR L2.CallR L2.MtR L2.MtM L2.IxR L2.PSet L2.SlR L2.TruR L2.PGet L2.PIp L2.InOp
namespace K11
open PySem PySem.Spec PyProof.Rows L2
open Sem (wp)
def top (i : Nat) : Stmt := PySem.Challenge.pw_dealknot_k11_entered_and_left.main.body.getD i (.Pass ⟨0, 0, 0, 0⟩)
abbrev s__law_names : Stmt := top 12
theorem sc__law_names : FnScope ["cell", "many", "letters", "mixed", "size", "spot", "filler", "begin", "steps", "step", "names", "k", "sign", "more"] ["cell", "many"] (defScope s__law_names) := ⟨rfl, rfl, rfl, by decide +kernel, rfl, by decide +kernel, by decide +kernel⟩
abbrev s__law_rows_same : Stmt := top 17
theorem sc__law_rows_same : FnScope ["found", "due", "shelf"] ["found", "due"] (defScope s__law_rows_same) := ⟨rfl, rfl, rfl, by decide +kernel, rfl, by decide +kernel, by decide +kernel⟩
abbrev s__law_all_stay : Stmt := top 22
theorem sc__law_all_stay : FnScope ["held", "found", "due", "shelf"] ["held"] (defScope s__law_all_stay) := ⟨rfl, rfl, rfl, by decide +kernel, rfl, by decide +kernel, by decide +kernel⟩
abbrev s__law_cell_at : Stmt := top 11
theorem sc__law_cell_at : FnScope ["script", "k"] ["script", "k"] (defScope s__law_cell_at) := ⟨rfl, rfl, rfl, by decide +kernel, rfl, by decide +kernel, by decide +kernel⟩
abbrev s__law_copy : Stmt := top 16
theorem sc__law_copy : FnScope ["rows", "out", "shelf"] ["rows"] (defScope s__law_copy) := ⟨rfl, rfl, rfl, by decide +kernel, rfl, by decide +kernel, by decide +kernel⟩
abbrev s__law_spoilt : Stmt := top 21
theorem sc__law_spoilt : FnScope ["rows", "shelf"] ["rows"] (defScope s__law_spoilt) := ⟨rfl, rfl, rfl, by decide +kernel, rfl, by decide +kernel, by decide +kernel⟩
abbrev s__law_stands : Stmt := top 19
theorem sc__law_stands : FnScope ["rows", "name", "shelf"] ["rows", "name"] (defScope s__law_stands) := ⟨rfl, rfl, rfl, by decide +kernel, rfl, by decide +kernel, by decide +kernel⟩
abbrev s__law_some : Stmt := top 20
theorem sc__law_some : FnScope ["names", "cell", "some", "bits", "turned", "name"] ["names", "cell"] (defScope s__law_some) := ⟨rfl, rfl, rfl, by decide +kernel, rfl, by decide +kernel, by decide +kernel⟩
abbrev s__law_without : Stmt := top 18
theorem sc__law_without : FnScope ["rows", "some", "out", "shelf", "row"] ["rows", "some"] (defScope s__law_without) := ⟨rfl, rfl, rfl, by decide +kernel, rfl, by decide +kernel, by decide +kernel⟩
abbrev s_marked : Stmt := top 7
theorem sc_marked : FnScope ["names"] ["names"] (defScope s_marked) := ⟨rfl, rfl, rfl, by decide +kernel, rfl, by decide +kernel, by decide +kernel⟩
abbrev s_left : Stmt := top 9
theorem sc_left : FnScope ["rows", "names", "gone", "told", "shelf", "row", "staying"] ["rows", "names"] (defScope s_left) := ⟨rfl, rfl, rfl, by decide +kernel, rfl, by decide +kernel, by decide +kernel⟩
abbrev s__law_gives : Stmt := top 15
theorem sc__law_gives : FnScope ["deal", "shelves", "leg"] ["deal"] (defScope s__law_gives) := ⟨rfl, rfl, rfl, by decide +kernel, rfl, by decide +kernel, by decide +kernel⟩
abbrev s_copied : Stmt := top 6
theorem sc_copied : FnScope ["rows"] ["rows"] (defScope s_copied) := ⟨rfl, rfl, rfl, by decide +kernel, rfl, by decide +kernel, by decide +kernel⟩
abbrev s_sheet_of : Stmt := top 1
theorem sc_sheet_of : FnScope ["pairs", "sums", "key", "number", "sheet"] ["pairs"] (defScope s_sheet_of) := ⟨rfl, rfl, rfl, by decide +kernel, rfl, by decide +kernel, by decide +kernel⟩
abbrev s_gives : Stmt := top 3
theorem sc_gives : FnScope ["deal"] ["deal"] (defScope s_gives) := ⟨rfl, rfl, rfl, by decide +kernel, rfl, by decide +kernel, by decide +kernel⟩
abbrev s_rows_of : Stmt := top 4
theorem sc_rows_of : FnScope ["deal"] ["deal"] (defScope s_rows_of) := ⟨rfl, rfl, rfl, by decide +kernel, rfl, by decide +kernel, by decide +kernel⟩
abbrev s_entered : Stmt := top 8
theorem sc_entered : FnScope ["rows", "deal", "told", "shelf"] ["rows", "deal"] (defScope s_entered) := ⟨rfl, rfl, rfl, by decide +kernel, rfl, by decide +kernel, by decide +kernel⟩
abbrev s__law_amount : Stmt := top 13
theorem sc__law_amount : FnScope ["cell"] ["cell"] (defScope s__law_amount) := ⟨rfl, rfl, rfl, by decide +kernel, rfl, by decide +kernel, by decide +kernel⟩
abbrev s__law_legs : Stmt := top 14
theorem sc__law_legs : FnScope ["cells", "spot", "many", "houses", "wares", "legs", "k", "one", "giver", "taker", "amount"] ["cells", "spot", "many", "houses", "wares"] (defScope s__law_legs) := ⟨rfl, rfl, rfl, by decide +kernel, rfl, by decide +kernel, by decide +kernel⟩
abbrev s_law : Stmt := top 23
theorem sc_law : FnScope ["script", "houses", "wares", "names", "cells", "mine", "held", "spot", "cell", "name", "handed", "some", "due", "given", "found", "deal", "shelf"] ["script"] (defScope s_law) := ⟨rfl, rfl, rfl, by decide +kernel, rfl, by decide +kernel, by decide +kernel⟩
structure Txt (K : PySem.W.Frag) (mg : Str → Option Value) : Prop where
  b_dict : mg "dict" = none
  b_int : mg "int" = none
  b_isinstance : mg "isinstance" = none
  b_len : mg "len" = none
  b_list : mg "list" = none
  b_range : mg "range" = none
  b_sorted : mg "sorted" = none
  b_tuple : mg "tuple" = none
section
variable {P : Program} {w : World} {K : PySem.W.Frag} {mg : Str → Option Value} {base : Heap}
def sp__law_names : Sp := fun vs H Q _ => ∃ c m : Int, vs = [.int c, .int m] ∧ 0 ≤ m ∧ m ≤ 26 ∧ ∀ p ss H', Same H H' → H p = none → H' p = some (.lst (List.map V.str ss)) → ss.length = m.toNat → (∀ s ∈ ss, goodNm s) → Q (.ref p) H'
theorem ok__law_names (T : Txt K mg) (D : Dfn K mg "_law_names" s__law_names ["cell", "many"])  : Has P w K mg base 1 "_law_names" ["cell", "many"] sp__law_names := by
  refine D.has sc__law_names (fun vs H Q E h => ?_) (fun f cdv A outer s H vs Q E hr h => ?_)
  · obtain ⟨c, m, rfl, _⟩ := h
    rfl
  · obtain ⟨c, m, rfl, h0, h26, k⟩ := h
    have hu := hu_of hr
    have hu64 := hr.units
    refine ⟨_, (pss_l12 (ps_set (i := 2) sc__law_names.nd rfl (Or.inl rfl) pe_str)
      (ps_set (i := 3) sc__law_names.nd rfl (Or.inl rfl) (pe_op op_mod (pe_op op_mul (pv 0) pe_int) pe_int))
      (ps_set (i := 4) sc__law_names.nd rfl (Or.inl rfl) (pe_op op_add pe_int (pe_op op_mod (pv 3) pe_int)))
      (ps_set (i := 5) sc__law_names.nd rfl (Or.inl rfl) (pe_op op_mod (pe_op op_fdiv (pv 3) pe_int) (pv 4)))
      (ps_set (i := 6) sc__law_names.nd rfl (Or.inr rfl) (pe_ix ix_str (pv 2) (pe_op op_mod (pe_op op_fdiv (pv 3) pe_int) pe_int) (fun _ _ => rfl)))
      (ps_set (i := 7) sc__law_names.nd rfl (Or.inl rfl) (pe_op op_mod (pe_op op_fdiv (pv 3) pe_int) pe_int))
      (ps_set (i := 8) sc__law_names.nd rfl (Or.inl rfl) (pe_lst (pa_l12 pe_int pe_int pe_int pe_int pe_int pe_int pe_int pe_int pe_int pe_int pe_int pe_int)))
      (ps_set (i := 9) sc__law_names.nd rfl (Or.inl rfl) (pe_ix (ix_listk (K := K) rfl) (pv 8) (pe_op op_mod (pe_op op_fdiv (pv 3) pe_int) pe_int) (fun _ _ => rfl)))
      (ps_set (i := 10) sc__law_names.nd rfl (Or.inl rfl) (pe_lst pa_nil))
      (ps_for PassesOwn.never rfl (pi_range1 rfl T.b_range (pa_l1 (pv 1))) (pg_name (i := 11) sc__law_names.nd rfl (Or.inl rfl))
      (pss_l3 (ps_set (i := 12) sc__law_names.nd rfl (Or.inl rfl) (pe_ix ix_str (pv 2) (pe_op op_mod (pe_op op_add (pv 7) (pe_op op_mul (pv 9) (pv 11))) pe_int) (fun _ _ => rfl)))
      (ps_set (i := 13) sc__law_names.nd rfl (Or.inl rfl) (pe_op op_add (pe_op op_sub (pe_op op_sub (pv 4) pe_int) (pv 5)) (pe_op op_mul (pe_op op_mod (pv 11) pe_int) (pe_cT call_int1 (by rfl) T.b_int (by rfl) (pa_l1 (pe_cmpR op_lt (pv 4) pe_int (nomark _)))))))
      (ps_expr (pe_mk (K := K) rfl PySem.F.plainAttrs_list PySem.F.slot_list_append PySem.F.type_list_append mr_append (pv 10) (pa_l1 (pe_op op_add_str (pe_op op_add_str (pe_op op_mul_str (pv 6) (pv 5)) (pv 12)) (pe_op op_mul_str (pv 6) (pv 13))))))))
      (ps_if (PW.pt (pw_and (pt_cmpR op_eq (pe_op op_mod (pe_op op_fdiv (pv 3) pe_int) pe_int) pe_int (nomark _)) (pw_and1 (pt_cmpR op_le (pv 1) pe_int (nomark _)))))
      (pss_l1 (ps_setcomp (i := 10) sc__law_names.nd rfl rfl (show CompSc ["cell", "many", "letters", "mixed", "size", "spot", "filler", "begin", "steps", "step", "names", "k", "sign", "more"] ["k", "filler"] (defScope s__law_names) _ [none, some 6] from by exact ⟨rfl, by decide +kernel, by decide +kernel, by decide +kernel, by decide +kernel⟩) (pi_range1 rfl T.b_range (pa_l1 (pv 1))) (fun _ _ _ => (pg_name (i := 0) (show List.Nodup [("k" : Str), ("filler" : Str)] from by decide +kernel) rfl (Or.inl rfl))) (fun _ _ _ => pf_nil) (fun _ _ _ => (pe_op op_mul_str (pv 1) (pe_op op_add (pv 0) pe_int)))))
      pss_nil)
      (ps_ret (pv 10))), ?_⟩
    walk_at "rx"
    generalize hN : c * 48271 % 2147483647 = N
    have hN0 : 0 ≤ N := by omega
    have ha26 : (abc.length : Int) = 26 := by decide +kernel
    generalize hsz : 1 + N % 8 = sz
    have hsz1 : 1 ≤ sz ∧ sz ≤ 8 := by omega
    have hpl0 : 0 ≤ N / 8 % sz := Int.emod_nonneg _ (by omega)
    have hpl1 : N / 8 % sz < sz := Int.emod_lt_of_pos _ (by omega)
    generalize N / 8 % sz = pl at hpl0 hpl1
    refine ⟨by omega, ixS_of (z := abc) (by decide +kernel) (by omega) (by rw [ha26]; omega) ?_⟩
    have hfm : abc.cps.toList.getD (N / 64 % 26).toNat 0 ∈ abc.cps.toList := abc_at (by omega)
    generalize abc.cps.toList.getD (N / 64 % 26).toNat 0 = f at hfm
    intro p1 n1
    have hst : ∃ st : Int, atI [V.int 1, V.int 3, V.int 5, V.int 7, V.int 9, V.int 11, V.int 15, V.int 17, V.int 19, V.int 21, V.int 23, V.int 25] (N / 43264 % 12) = some (V.int st) ∧ 1 ≤ st ∧ st ≤ 25 := by
      have h12 : N / 43264 % 12 = 0 ∨ N / 43264 % 12 = 1 ∨ N / 43264 % 12 = 2 ∨ N / 43264 % 12 = 3 ∨ N / 43264 % 12 = 4 ∨ N / 43264 % 12 = 5 ∨ N / 43264 % 12 = 6 ∨ N / 43264 % 12 = 7 ∨ N / 43264 % 12 = 8 ∨ N / 43264 % 12 = 9 ∨ N / 43264 % 12 = 10 ∨ N / 43264 % 12 = 11 := by omega
      rcases h12 with h | h | h | h | h | h | h | h | h | h | h | h <;> rw [h] <;> exact ⟨_, rfl, by decide⟩
    obtain ⟨st, hst, hsts⟩ := hst
    refine ixL_of upd_same hst ?_
    intro p2 n2
    have t1 := Same.upd (o := .lst [V.int 1, V.int 3, V.int 5, V.int 7, V.int 9, V.int 11, V.int 15, V.int 17, V.int 19, V.int 21, V.int 23, V.int 25]) n1
    have hp20 : H p2 = none := t1.free n2
    have t2 := t1.updT (o := .lst []) n2
    generalize hbg : N / 1664 % 26 = bg
    obtain ⟨m1, m2⟩ := rep_ok f (n := pl) hpl0 (by omega)
    have cl : ∀ (n : Int), 0 ≤ n → (rep f n).length = n.toNat := fun n _ => by rw [str_len, rep_chars, List.length_replicate]
    have hnm : ∀ i : Nat, ((bg + st * (0 + (i : Int))) % 26).toNat < 26 := fun i => by
      have := Int.emod_lt_of_pos (bg + st * (0 + (i : Int))) (show (0 : Int) < 26 by decide)
      omega
    generalize hmo : (fun k : Nat => sz - 1 - pl + (0 + (k : Int)) % 2 * (if sz < 8 then (1 : Int) else 0)) = moF
    have hmo1 : ∀ k : Nat, 0 ≤ moF k ∧ moF k + pl + 1 ≤ 8 := fun k => by
      rw [← hmo]
      simp only []
      have : (0 + (k : Int)) % 2 = 0 ∨ (0 + (k : Int)) % 2 = 1 := by omega
      by_cases h8 : sz < 8
      · rw [if_pos h8]
        rcases this with h | h <;> rw [h] <;> omega
      · rw [if_neg h8]
        rcases this with h | h <;> rw [h] <;> omega
    generalize hnmF : (fun k : Nat => rep f pl ++ (⟨#[abc.cps.toList.getD ((bg + st * (0 + (k : Int))) % 26).toNat 0]⟩ : Str) ++ rep f (moF k)) = nmF
    have hgood : ∀ j : Nat, goodNm (nmF j) := fun j => by
      have chars : (nmF j).cps.toList = List.replicate pl.toNat f ++ [abc.cps.toList.getD ((bg + st * (0 + (j : Int))) % 26).toNat 0] ++ List.replicate (moF j).toNat f := by
        rw [← hnmF]
        simp only []
        rw [app_chars, app_chars, rep_chars, rep_chars]
      obtain ⟨q1, q2⟩ := hmo1 j
      have hlen : (nmF j).length = pl.toNat + 1 + (moF j).toNat := by
        rw [str_len, chars]
        simp only [List.length_append, List.length_replicate, List.length_cons, List.length_nil]
      refine ⟨by rw [hlen]; omega, by rw [hlen]; omega, fun c hc => ?_⟩
      rw [chars] at hc
      rcases List.mem_append.mp hc with hc | hc
      · rcases List.mem_append.mp hc with hc | hc
        · rw [(List.mem_replicate.mp hc).2]; exact hfm
        · rw [List.mem_singleton.mp hc]; exact abc_at (hnm j)
      · rw [(List.mem_replicate.mp hc).2]; exact hfm
    refine ⟨by omega, by omega, for_w (y_range 0 _) (fun i σ H2 => ∃ o1 o2 o3, σ = [some (.int c), some (.int m), some (.str abc), some (.int N), some (.int sz), some (.int pl), some (.str ⟨#[f]⟩), some (.int bg), some (.ref p1), some (.int st), some (.ref p2), o1, o2, o3] ∧ Same H H2 ∧ H2 p2 = some (.lst (((List.range i).map nmF).map V.str))) ?_ ?_ ?_ ?_⟩
    · exact ⟨none, none, none, rfl, t2, upd_same⟩
    · intros; trivial
    · rintro i σ H2 x H' hi ⟨o1, o2, o3, rfl, s2, h2⟩ ⟨rfl, rfl⟩
      walk_at "rx"
      have e1 : sz - 1 - pl + (0 + (i : Int)) % 2 * (if sz < 8 then (1 : Int) else 0) = moF i := by rw [← hmo]
      rw [e1]
      obtain ⟨q1, q2⟩ := hmo1 i
      obtain ⟨m3, m4⟩ := rep_ok f (n := moF i) q1 (by omega)
      have hsb := sizeLine_big
      refine ⟨.inl (by omega), ixS_of (z := abc) (by decide +kernel) (Int.emod_nonneg _ (by decide)) (by rw [ha26]; exact Int.emod_lt_of_pos _ (by decide)) (.inr ⟨.inl (by omega), ty_lst h2, m1, m2, _, rfl, ?_, m3, m4, ?_, append_of h2 ?_ ⟨s2.updN hp20, ?_⟩⟩)⟩
      · rw [cl pl hpl0]
        show pl.toNat + 1 ≤ sizeLine
        omega
      · rw [str_len, app_chars, rep_chars, List.length_append, List.length_replicate, cl _ q1]
        show pl.toNat + 1 + _ ≤ sizeLine
        omega
      · rw [List.length_map, List.length_map, List.length_range]
        omega
      · rw [upd_same, List.range_succ, List.map_append, List.map_append, ← hnmF]
        rfl
    · rintro σ H2 ⟨o1, o2, o3, rfl, s2, h2⟩
      walk_at "rx"
      refine ite2 (fun h1 => ?_) (fun h1 => ?_)
      · refine ite2 (fun hm8 => ⟨by omega, by omega, comp_w (y_range 0 _) (fun i σ acc H3 => (∃ o, σ = [o, some (.str ⟨#[f]⟩)]) ∧ H3 = H2 ∧ acc = (List.range i).map fun (k : Nat) => V.str (rep f ((k : Int) + 1))) ?_ ?_ ?_ ?_⟩) (fun _ => k p2 _ H2 s2 hp20 h2 (by simp) (fun s hs => by obtain ⟨j, _, rfl⟩ := List.mem_map.mp hs; exact hgood j))
        · exact ⟨⟨none, rfl⟩, rfl, rfl⟩
        · rintro i σ acc H3 hi ⟨_, rfl, rfl⟩
          refine ⟨trivial, fun _ => ?_⟩
          rw [List.length_map, List.length_range]
          have := sizeLine_big
          omega
        · rintro i σ acc H3 x H' hi ⟨⟨o, rfl⟩, rfl, rfl⟩ ⟨rfl, rfl⟩
          obtain ⟨m1, m2⟩ := rep_ok f (n := 0 + (i : Int) + 1) (by omega) (by omega)
          walk_at "rx"
          refine ⟨m1, m2, ?_⟩
          rw [List.range_succ, List.map_append, show (0 + (i : Int) + 1) = (i : Int) + 1 by omega]
          rfl
        · rintro σ acc H3 ⟨_, rfl, rfl⟩ p hp
          refine k p ((List.range m.toNat).map fun (k : Nat) => rep f ((k : Int) + 1)) _ (s2.updT hp) (s2.free hp) ?_ (by simp) ?_
          · rw [upd_same, List.map_map]; rfl
          · intro s hs
            obtain ⟨j, hj, rfl⟩ := List.mem_map.mp hs
            have hj' := List.mem_range.mp hj
            refine ⟨?_, ?_, fun c hc => ?_⟩
            · rw [str_len, rep_chars, List.length_replicate]; omega
            · rw [str_len, rep_chars, List.length_replicate]; omega
            · rw [rep_chars] at hc; rw [(List.mem_replicate.mp hc).2]; exact hfm
      · exact k p2 _ H2 s2 hp20 h2 (by simp) (fun s hs => by obtain ⟨j, _, rfl⟩ := List.mem_map.mp hs; exact hgood j)
def sp__law_rows_same (K : PySem.W.Frag) : Sp := fun vs H Q _ => ∃ f d es es' F H0 H0' U m, vs = [.ref f, .ref d] ∧ RF H0' H f es' F ∧ RF H0 H d es F ∧ FOk U m F ∧ Q (.bl true) H
theorem ok__law_rows_same (T : Txt K mg) (D : Dfn K mg "_law_rows_same" s__law_rows_same ["found", "due"])  : Has P w K mg base 1 "_law_rows_same" ["found", "due"] (sp__law_rows_same K) := by
  refine D.has sc__law_rows_same (fun vs H Q E h => ?_) (fun f cdv A outer s H vs Q E hr h => ?_)
  · obtain ⟨f, d, es, es', F, H0, H0', U, m, rfl, _⟩ := h
    rfl
  · obtain ⟨f, d, es, es', F, H0, H0', U, m, rfl, hF, hD, hO, k⟩ := h
    have hu := hu_of hr
    have hu64 := hr.units
    refine ⟨_, (pss_l3 (ps_if (PW.pt (pw_or (pt_not (pt_val (pe_cB (call_isik (K := K) rfl) (by rfl) T.b_isinstance (by rfl) (pa_l2 (pv 0) (pe_ty (by rfl) T.b_dict (by rfl)))))) (pw_or1 (pt_cmpR op_ne (pe_cB call_xlen (by rfl) T.b_len (by rfl) (pa_l1 (pv 0))) (pe_cB call_xlen (by rfl) T.b_len (by rfl) (pa_l1 (pv 1))) (nomark _)))))
      (pss_l1 (ps_ret pe_bl))
      pss_nil)
      (ps_for PassesOwn.never rfl (pi_keys (pv 1)) (pg_name (i := 2) sc__law_rows_same.nd rfl (Or.inl rfl))
      (pss_l1 (ps_if (PW.pt (pw_or (pt_cmpR (op_xnotin hu) (pv 2) (pv 0) (by with_unfolding_all rfl)) (pw_or (pt_not (pt_val (pe_cB (call_isik (K := K) rfl) (by rfl) T.b_isinstance (by rfl) (pa_l2 (pe_ix (ix_dict hu) (pv 0) (pv 2) (fun _ _ => rfl)) (pe_ty (by rfl) T.b_list (by rfl)))))) (pw_or1 (pt_cmpR (op_neD hu64) (pe_ix (ix_dict hu) (pv 0) (pv 2) (fun _ _ => rfl)) (pe_ix (ix_dict hu) (pv 1) (pv 2) (fun _ _ => rfl)) (nomark _))))))
      (pss_l1 (ps_ret pe_bl))
      pss_nil)))
      (ps_ret pe_bl)), ?_⟩
    walk_at "rx"
    obtain ⟨ep, hd⟩ := hD.at_.dct
    obtain ⟨ep', hf⟩ := hF.at_.dct
    have hlen : es'.length = es.length := Nat.le_antisymm (hF.len_le hD) (hD.len_le hF)
    refine isi_dX hf ⟨_, rfl, ite2 (fun h => absurd h (by decide)) (fun _ => ?_)⟩
    refine ⟨ep', _, hf, ep, _, hd, ite2 (fun h => ?_) (fun _ => ?_)⟩
    · rw [rwV_len, rwV_len, hlen] at h
      exact absurd rfl h
    refine ⟨ep, _, hd, for_w (y_keys d ep (rwV es)) (fun i σ H2 => ∃ o, σ = [some (.ref f), some (.ref d), o] ∧ H2 = H) ?_ ?_ ?_ ?_⟩
    · exact ⟨none, rfl, rfl⟩
    · rintro i σ H2 _ ⟨_, _, rfl⟩
      exact hd
    · rintro i σ H2 x H' hi ⟨o, rfl, rfl⟩ ⟨rfl, kv, hkv, hK⟩
      obtain ⟨e, he, hm, rfl⟩ := rwV_get hkv
      obtain ⟨e', hm', e1, e2⟩ := hD.keys hF hm
      have hv' : valV (rwV es') (shelfP e.1) = some (.ref e'.2.1) := by rw [← e1]; exact valV_rw hF.at_.nd hm'
      walk_at "rx"
      refine xnotin_of hf hK ⟨_, rfl, ite2 (fun h => ?_) (fun _ => ?_)⟩
      · rw [hv'] at h
        cases h
      · refine xget_of hf hK hv' (isi_lst (hF.at_.lst e' hm') ⟨_, rfl, ite2 (fun h => absurd h (by decide)) (fun _ => ?_)⟩)
        refine xget_of hf hK hv' (xget_of hd hK (valV_rw hD.at_.nd hm) (neD_strs (ss := e.2.2) (by rw [← e2]; exact hF.at_.lst e' hm') (hD.at_.lst e hm) (by rw [hD.val e hm]; exact hO.good e.1) ⟨_, rfl, ite2 (fun h => absurd h (by decide)) (fun _ => ?_)⟩))
        walk_at "rx"
    · rintro σ H2 ⟨o, rfl, rfl⟩
      walk_at "rx"
      exact k
structure Hl where
  f : Addr
  d : Addr
  ef : List Rw
  ed : List Rw
  F : RFn
def HlAt (H : Hp) (h : Hl) (t : Addr) : Prop := H t = some (.tup [.ref h.f, .ref h.d])
structure HeldOk (U : List (Str × Str)) (H : Hp) (hs : List Hl) : Prop where
  f : ∀ h ∈ hs, ∃ H0, RF H0 H h.f h.ef h.F
  d : ∀ h ∈ hs, ∃ H0, RF H0 H h.d h.ed h.F
  ok : ∀ h ∈ hs, FOk U 1000 h.F
  nd : (hs.flatMap fun h => h.ef.map (·.2.1)).Nodup
  dj : ∀ h ∈ hs, ∀ e ∈ h.ed, e.2.1 ∉ hs.flatMap fun h => h.ef.map (·.2.1)
theorem HeldOk.add {U : List (Str × Str)} {H2 H7 : Hp} {hs : List Hl} (O : HeldOk U H2 hs) (s : Same H2 H7) {x : Hl} (hf : ∃ H0, RF H0 H7 x.f x.ef x.F) (hd : ∃ H0, RF H0 H7 x.d x.ed x.F) (ok : FOk U 1000 x.F)
    (frf : ∀ e ∈ x.ef, H2 e.2.1 = none) (frd : ∀ e ∈ x.ed, H2 e.2.1 = none) (dis : ∀ e ∈ x.ef, ∀ e' ∈ x.ed, e'.2.1 ≠ e.2.1) : HeldOk U H7 (hs ++ [x]) := by
  have old : ∀ a ∈ hs.flatMap (fun h => h.ef.map (·.2.1)), H2 a ≠ none := fun a ha q => by
    obtain ⟨h, hh, hm⟩ := List.mem_flatMap.mp ha
    obtain ⟨e, he, rfl⟩ := List.mem_map.mp hm
    obtain ⟨H0, R⟩ := O.f h hh
    rw [R.at_.lst e he] at q
    cases q
  have app : (hs ++ [x]).flatMap (fun h => h.ef.map (·.2.1)) = hs.flatMap (fun h => h.ef.map (·.2.1)) ++ x.ef.map (·.2.1) := by
    rw [List.flatMap_append]
    simp
  refine ⟨fun h hh => ?_, fun h hh => ?_, fun h hh => ?_, ?_, fun h hh e he => ?_⟩
  · rcases List.mem_append.mp hh with q | q
    · obtain ⟨H0, R⟩ := O.f h q
      exact ⟨H0, R.same s⟩
    · rw [List.mem_singleton.mp q]; exact hf
  · rcases List.mem_append.mp hh with q | q
    · obtain ⟨H0, R⟩ := O.d h q
      exact ⟨H0, R.same s⟩
    · rw [List.mem_singleton.mp q]; exact hd
  · rcases List.mem_append.mp hh with q | q
    · exact O.ok h q
    · rw [List.mem_singleton.mp q]; exact ok
  · rw [app, List.nodup_append]
    refine ⟨O.nd, ?_, fun a ha b hb e => ?_⟩
    · obtain ⟨_, R⟩ := hf
      exact R.an
    · obtain ⟨y, hy, rfl⟩ := List.mem_map.mp hb
      exact old a ha (by rw [e]; exact frf y hy)
  · rw [app]
    intro hin
    rcases List.mem_append.mp hh with q | q
    · rcases List.mem_append.mp hin with z | z
      · exact O.dj h q e he z
      · obtain ⟨y, hy, e1⟩ := List.mem_map.mp z
        obtain ⟨H0, R⟩ := O.d h q
        have := R.at_.lst e he
        rw [← e1, frf y hy] at this
        cases this
    · rw [List.mem_singleton.mp q] at he
      rcases List.mem_append.mp hin with z | z
      · exact old _ z (frd e he)
      · obtain ⟨y, hy, e1⟩ := List.mem_map.mp z
        exact dis y hy e he e1.symm
theorem HeldOk.upd {U : List (Str × Str)} {H : Hp} {hs : List Hl} {p : Addr} {ts : List Addr} {o : HO} (O : HeldOk U H hs) (hp : H p = some (.lst (ts.map V.ref))) : HeldOk U (L2.upd H p o) hs := by
  have m : Mt [p] H (L2.upd H p o) := Mt.upd (by simp)
  refine ⟨fun h hh => ?_, fun h hh => ?_, O.ok, O.nd, O.dj⟩
  · obtain ⟨H0, R⟩ := O.f h hh
    exact ⟨H0, R.mt m (R.nelist hp).1 (R.nelist hp).2⟩
  · obtain ⟨H0, R⟩ := O.d h hh
    exact ⟨H0, R.mt m (R.nelist hp).1 (R.nelist hp).2⟩
def sp__law_all_stay (K : PySem.W.Frag) : Sp := fun vs H Q _ => ∃ p hs ts U, vs = [.ref p] ∧ H p = some (.lst (ts.map V.ref)) ∧ Paired (HlAt H) hs ts ∧ HeldOk U H hs ∧ U.length ≤ 100 ∧ ∀ H', Q (.bl true) H'
theorem ok__law_all_stay (T : Txt K mg) (D : Dfn K mg "_law_all_stay" s__law_all_stay ["held"]) (H__law_rows_same : Has P w K mg base 1 "_law_rows_same" ["found", "due"] (sp__law_rows_same K)) : Has P w K mg base 2 "_law_all_stay" ["held"] (sp__law_all_stay K) := by
  refine D.has sc__law_all_stay (fun vs H Q E h => ?_) (fun f cdv A outer s H vs Q E hr h => ?_)
  · obtain ⟨p, hs, ts, U, rfl, _⟩ := h
    rfl
  · obtain ⟨p, hs, ts, U, rfl, hp, hT, hO, hU, k⟩ := h
    have hu := hu_of hr
    have hu64 := hr.units
    refine ⟨_, (pss_l3 (ps_for PassesOwn.never rfl (pi_listk (K := K) rfl (pv 0)) (pg_tupk (K := K) (n := 2) rfl rfl (pgs_cons (pg_name (i := 1) sc__law_all_stay.nd rfl (Or.inl rfl)) (pgs_cons (pg_name (i := 2) sc__law_all_stay.nd rfl (Or.inl rfl)) pgs_nil)))
      (pss_l2 (ps_if (pt_not (pt_val (pe_callH H__law_rows_same (hr.mono (by decide)) rfl (pa_l2 (pv 1) (pv 2)))))
      (pss_l1 (ps_ret pe_bl))
      pss_nil)
      (ps_for PassesOwn.never rfl (pi_listk (K := K) rfl (pe_cT (call_list_dX rfl) (by rfl) T.b_list (by rfl) (pa_l1 (pv 1)))) (pg_name (i := 3) sc__law_all_stay.nd rfl (Or.inl rfl))
      (pss_l1 (ps_expr (pe_mk (K := K) rfl PySem.F.plainAttrs_list PySem.F.slot_list_append PySem.F.type_list_append mr_append (pe_ix (ix_dict hu) (pv 1) (pv 3) (fun _ _ => rfl)) (pa_l1 pe_str)))))))
      (ps_for PassesOwn.never rfl (pi_listk (K := K) rfl (pv 0)) (pg_tupk (K := K) (n := 2) rfl rfl (pgs_cons (pg_name (i := 1) sc__law_all_stay.nd rfl (Or.inl rfl)) (pgs_cons (pg_name (i := 2) sc__law_all_stay.nd rfl (Or.inl rfl)) pgs_nil)))
      (pss_l1 (ps_for PassesOwn.never rfl (pi_keys (pv 2)) (pg_name (i := 3) sc__law_all_stay.nd rfl (Or.inl rfl))
      (pss_l1 (ps_if (pt_cmpR (op_neD hu64) (pe_ix (ix_dict hu) (pv 1) (pv 3) (fun _ _ => rfl)) (pe_op op_cat (pe_ix (ix_dict hu) (pv 2) (pv 3) (fun _ _ => rfl)) (pe_lst (pa_l1 pe_str))) (nomark _))
      (pss_l1 (ps_ret pe_bl))
      pss_nil)))))
      (ps_ret pe_bl)), ?_⟩
    have addr : ∀ {b : Addr} {o : HO}, H b = some o → (∀ ss : List Str, ss ≠ [] → o ≠ .lst (ss.map V.str)) → b ∉ hs.flatMap fun h => h.ef.map (·.2.1) := fun {b o} hb hno hm => by
      obtain ⟨h, hh, hm2⟩ := List.mem_flatMap.mp hm
      obtain ⟨e, he, rfl⟩ := List.mem_map.mp hm2
      obtain ⟨H0, R⟩ := hO.f h hh
      have := R.at_.lst e he
      rw [hb] at this
      exact hno _ (R.ne e he) (Option.some.inj this)
    have sub : ∀ (i : Nat) (b : Addr), (b ∉ hs.flatMap fun h => h.ef.map (·.2.1)) → b ∉ (hs.take i).flatMap fun h => h.ef.map (·.2.1) := fun i b hn hm => hn (by
      obtain ⟨h, hh, hm2⟩ := List.mem_flatMap.mp hm
      exact List.mem_flatMap.mpr ⟨h, List.mem_of_mem_take hh, hm2⟩)
    have hpA : p ∉ hs.flatMap fun h => h.ef.map (·.2.1) := addr hp fun ss hne e => by
      cases ss with
      | nil => exact hne rfl
      | cons x xs =>
        injection e with e
        cases ts with
        | nil => cases e
        | cons t ts => injection e with e _; cases e
    have htl := Paired.length hT
    have hsb := sizeLine_big
    walk_at "rx"
    refine ⟨⟨_, SqL.of hp⟩, for_w (y_list K p (ts.map V.ref)) (fun i σ H2 => ∃ o1 o2 o3, σ = [some (.ref p), o1, o2, o3] ∧ Mt ((hs.take i).flatMap fun h => h.ef.map (·.2.1)) H H2 ∧ ∀ h ∈ hs.take i, RowsAt H2 h.f (h.ef.map (morE "more"))) ?_ ?_ ?_ ?_⟩
    · exact ⟨none, none, none, rfl, Mt.refl _ _, by simp⟩
    · rintro i σ H2 _ ⟨_, _, _, _, m2, _⟩
      exact SqL.of (m2 _ _ (sub i _ hpA) hp)
    · rintro i σ H2 x H' hi ⟨o1, o2, o3, rfl, m2, hd2⟩ ⟨rfl, hx⟩
      rw [List.getElem?_map] at hx
      obtain ⟨t, ht, rfl⟩ := Option.map_eq_some_iff.mp hx
      obtain ⟨h, hh⟩ : ∃ h, hs[i]? = some h := ⟨_, List.getElem?_eq_getElem (by rw [htl]; exact (List.getElem?_eq_some_iff.mp ht).1)⟩
      obtain ⟨t', ht', hat⟩ := Paired.get hT hh
      rw [ht] at ht'
      cases ht'
      have hm := List.mem_of_getElem? hh
      obtain ⟨Hf, Rf⟩ := hO.f h hm
      obtain ⟨Hd, Rd⟩ := hO.d h hm
      have hok := hO.ok h hm
      have hfew := Rf.few hok
      have hsplit : hs = hs.take i ++ h :: hs.drop (i + 1) := by
        obtain ⟨h1, h2⟩ := List.getElem?_eq_some_iff.mp hh
        rw [← h2, ← List.drop_eq_getElem_cons h1, List.take_append_drop]
      have hnd := hO.nd
      rw [hsplit, List.flatMap_append, List.flatMap_cons, List.nodup_append] at hnd
      obtain ⟨_, _, hdis⟩ := hnd
      have dis : ∀ e ∈ h.ef, e.2.1 ∉ (hs.take i).flatMap fun h => h.ef.map (·.2.1) := fun e he hin => hdis _ hin _ (List.mem_append_left _ (List.mem_map.mpr ⟨e, he, rfl⟩)) rfl
      have kd : ∀ {b : Addr} {ep : Nat} {kvs : List (KD × V)}, H b = some (.dX ep kvs) → b ∉ hs.flatMap fun h => h.ef.map (·.2.1) := fun hb => addr hb fun ss _ e => by cases e
      have Rf2 := Rf.mt m2 (sub i _ (let ⟨_, q⟩ := Rf.at_.dct; kd q)) dis
      have Rd2 := Rd.mt m2 (sub i _ (let ⟨_, q⟩ := Rd.at_.dct; kd q)) (fun e he => sub i _ (hO.dj h hm e he))
      have hat2 : H' t = some (.tup [.ref h.f, .ref h.d]) := m2 _ _ (sub i _ (addr hat fun ss _ e => by cases e)) hat
      refine ⟨t, _, rfl, SqT.of hat2, rfl, ?_⟩
      walk_at "rx"
      refine ⟨h.f, h.d, h.ed, h.ef, h.F, _, _, U, 1000, rfl, Rf2, Rd2, hok, ⟨true, rfl, ite2 (fun h => absurd h (by decide)) (fun _ => ?_)⟩⟩
      obtain ⟨epf, hdf⟩ := Rf2.at_.dct
      refine ⟨h.f, epf, rwV h.ef, rfl, hdf, fun l ys nl hys => ?_⟩
      have s3 := Same.upd (o := .lst ys) nl
      have hylen := Paired.length hys
      rw [rwV_len] at hylen
      have hA := Rf2.notfree nl
      refine ⟨l, rfl, ⟨_, SqL.of upd_same⟩, for_w (y_list K l ys) (fun j σ H3 => ∃ o, σ = [some (.ref p), some (.ref h.f), some (.ref h.d), o] ∧ RowsAt H3 h.f (partM "more" h.ef j) ∧ H3 l = some (.lst ys) ∧ KeysAt H3 (rwV h.ef) ys ∧ Mt (h.ef.map (·.2.1)) H' H3) ?_ ?_ ?_ ?_⟩
      · exact ⟨_, rfl, by rw [partM_zero]; exact Rf2.at_.same s3, upd_same, hys.same s3, Mt.of s3⟩
      · rintro j σ H3 _ ⟨_, _, _, h2, _⟩
        exact SqL.of h2
      · rintro j σ H3 x H4 hj ⟨o, rfl, hR3, hl3, hK3, m3⟩ ⟨rfl, hx⟩
        obtain ⟨e, he⟩ : ∃ e, h.ef[j]? = some e := ⟨_, List.getElem?_eq_getElem (by omega)⟩
        have hm' := List.mem_of_getElem? he
        obtain ⟨x', hx', hkx⟩ := Paired.get hK3 (i := j) (a := (shelfP e.1, V.ref e.2.1)) (by unfold rwV; rw [List.getElem?_map, he]; rfl)
        rw [hx] at hx'
        cases hx'
        obtain ⟨h1, hstep⟩ := hR3.step Rf.an he
        obtain ⟨ep3, hd3⟩ := hR3.dct
        rw [rwV_part] at hd3
        have hle := hok.len e.1
        rw [← Rf.val e hm'] at hle
        walk_at "rx"
        refine xget_of hd3 hkx (valV_rw Rf.at_.nd hm') ⟨ty_lst h1, append_of h1 (by rw [List.length_map]; omega) ?_⟩
        exact ⟨hstep, by rw [upd_ne (Ne.symm (hA e hm'))]; exact hl3, hK3.lst h1, m3.trans (Mt.upd (List.mem_map.mpr ⟨e, hm', rfl⟩))⟩
      · rintro σ H3 ⟨o, rfl, hR3, hl3, hK3, m3⟩
        rw [partM_all _ _ (by omega)] at hR3
        have htk : (hs.take (i + 1)) = hs.take i ++ [h] := by rw [List.take_add_one, hh]; rfl
        refine ⟨⟨_, _, _, rfl⟩, ?_, fun h' hh' => ?_⟩
        · rw [htk, List.flatMap_append]
          exact (m2.more fun a ha => List.mem_append_left _ ha).trans (m3.more fun a ha => List.mem_append_right _ (by simpa using ha))
        · rw [htk] at hh'
          rcases List.mem_append.mp hh' with q | q
          · have hold := hd2 h' q
            obtain ⟨epo, hdo⟩ := hold.dct
            refine hold.mt m3 (fun hin => ?_) (fun e he hin => ?_)
            · obtain ⟨e, he, e1⟩ := List.mem_map.mp hin
              have := Rf2.at_.lst e he
              rw [e1, hdo] at this
              cases this
            · obtain ⟨e0, he0, rfl⟩ := List.mem_map.mp he
              exact hdis _ (List.mem_flatMap.mpr ⟨h', q, List.mem_map.mpr ⟨e0, he0, rfl⟩⟩) _ (List.mem_append_left _ hin) rfl
          · rw [List.mem_singleton.mp q]; exact hR3
    · rintro σ HF ⟨o1, o2, o3, rfl, mF, hdF⟩
      rw [List.length_map, ← htl, List.take_length] at mF hdF
      have hpF := mF _ _ hpA hp
      walk_at "rx"
      refine ⟨⟨_, SqL.of hpF⟩, for_w (y_list K p (ts.map V.ref)) (fun i σ H2 => ∃ o1 o2 o3, σ = [some (.ref p), o1, o2, o3] ∧ Same HF H2) ?_ ?_ ?_ ?_⟩
      · exact ⟨_, _, _, rfl, Same.refl _⟩
      · rintro i σ H2 _ ⟨_, _, _, _, s2⟩
        exact SqL.of (s2 _ _ hpF)
      · rintro i σ H2 x H' hi ⟨o1, o2, o3, rfl, s2⟩ ⟨rfl, hx⟩
        rw [List.getElem?_map] at hx
        obtain ⟨t, ht, rfl⟩ := Option.map_eq_some_iff.mp hx
        obtain ⟨h, hh⟩ : ∃ h, hs[i]? = some h := ⟨_, List.getElem?_eq_getElem (by rw [htl]; exact (List.getElem?_eq_some_iff.mp ht).1)⟩
        obtain ⟨t', ht', hat⟩ := Paired.get hT hh
        rw [ht] at ht'
        cases ht'
        have hm := List.mem_of_getElem? hh
        obtain ⟨Hf, Rf⟩ := hO.f h hm
        obtain ⟨Hd, Rd⟩ := hO.d h hm
        have hok := hO.ok h hm
        have hatF : H' t = some (.tup [.ref h.f, .ref h.d]) := s2 _ _ (mF _ _ (addr hat fun ss _ e => by cases e) hat)
        have RdF := Rd.mt mF (let ⟨_, q⟩ := Rd.at_.dct; addr q fun ss _ e => by cases e) (fun e he => hO.dj h hm e he)
        have hRF := hdF h hm
        obtain ⟨epd, hdd⟩ := RdF.at_.dct
        obtain ⟨epf, hff⟩ := hRF.dct
        have hrw : rwV (h.ef.map (morE "more")) = rwV h.ef := by
          have := rwV_part "more" h.ef h.ef.length
          rw [partM_all _ _ (Nat.le_refl _)] at this
          exact this
        rw [hrw] at hff
        refine ⟨t, _, rfl, SqT.of hatF, rfl, ?_⟩
        walk_at "rx"
        refine ⟨epd, _, s2 _ _ hdd, for_w (y_keys h.d epd (rwV h.ed)) (fun j σ H3 => ∃ o, σ = [some (.ref p), some (.ref h.f), some (.ref h.d), o] ∧ Same HF H3) ?_ ?_ ?_ ?_⟩
        · exact ⟨_, rfl, s2⟩
        · rintro j σ H3 _ ⟨_, _, s3⟩
          exact s3 _ _ hdd
        · rintro j σ H3 x H4 hj ⟨o, rfl, s3⟩ ⟨rfl, kv, hkv, hK⟩
          obtain ⟨e, he, hme, rfl⟩ := rwV_get hkv
          obtain ⟨e', hme', e1, e2⟩ := Rd.keys Rf hme
          have hv' : valV (rwV h.ef) (shelfP e.1) = some (.ref e'.2.1) := by rw [← e1]; exact valV_rw Rf.at_.nd hme'
          have hle := hok.len e.1
          rw [← Rd.val e hme] at hle
          have hfl : H4 e'.2.1 = some (.lst ((e.2.2 ++ [("more" : Str)]).map V.str)) := by
            have := s3 _ _ (hRF.lst (morE "more" e') (List.mem_map.mpr ⟨e', hme', rfl⟩))
            rw [← e2]
            exact this
          walk_at "rx"
          refine xget_of (s3 _ _ hff) hK hv' (xget_of (s3 _ _ hdd) hK (valV_rw RdF.at_.nd hme) fun pm hpm => ?_)
          have s4 := Same.upd (o := .lst [V.str "more"]) hpm
          refine cat_of (s4 _ _ (s3 _ _ (RdF.at_.lst e hme))) upd_same (by rw [List.length_map]; simp; omega) fun pc hpc => ?_
          have s5 := s4.updT (o := .lst (e.2.2.map V.str ++ [V.str "more"])) hpc
          refine neD_strs (ss := e.2.2 ++ [("more" : Str)]) (s5 _ _ hfl) (by rw [upd_same, List.map_append]; rfl) (fun s hs => ?_) ⟨_, rfl, ite2 (fun h => absurd h (by decide)) (fun _ => ?_)⟩
          · rcases List.mem_append.mp hs with q | q
            · rw [Rd.val e hme] at q; exact hok.good e.1 s q
            · rw [List.mem_singleton.mp q]; exact good_more
          · exact s3.trans s5
        · rintro σ H3 ⟨o, rfl, s3⟩
          exact ⟨⟨_, _, _, rfl⟩, s3⟩
      · rintro σ H2 ⟨o1, o2, o3, rfl, s2⟩
        walk_at "rx"
        exact k _
def sp__law_cell_at (K : PySem.W.Frag) : Sp := fun vs H Q _ => ∃ a ns, ∃ n : Int, vs = [.ref a, .int n] ∧ SqL K H a (List.map V.int ns) ∧ 0 ≤ n ∧ ∀ m, Q (.int m) H
theorem ok__law_cell_at (T : Txt K mg) (D : Dfn K mg "_law_cell_at" s__law_cell_at ["script", "k"])  : Has P w K mg base 1 "_law_cell_at" ["script", "k"] (sp__law_cell_at K) := by
  refine D.has sc__law_cell_at (fun vs H Q E h => ?_) (fun f cdv A outer s H vs Q E hr h => ?_)
  · obtain ⟨a, ns, n, rfl, _⟩ := h
    rfl
  · obtain ⟨a, ns, n, rfl, hS, hn, k⟩ := h
    have hu := hu_of hr
    have hu64 := hr.units
    refine ⟨_, (pss_l2 (ps_if (pt_cmpR op_lt (pv 1) (pe_cB (call_len_seqk (K := K) rfl) (by rfl) T.b_len (by rfl) (pa_l1 (pv 0))) (nomark _))
      (pss_l1 (ps_ret (pe_ix (ix_listk (K := K) rfl) (pv 0) (pv 1) (fun _ _ => rfl))))
      pss_nil)
      (ps_ret pe_int)), ?_⟩
    walk_at "rx"
    refine ⟨a, _, rfl, .inl hS, ?_⟩
    walk_at "rx"
    refine ite2 (fun h => ?_) (fun h => ?_)
    · rw [List.length_map] at h
      refine ixLs_of hS (v := .int (ns.getD n.toNat 0)) ?_ (k _)
      rw [atI_lt (.int 0) hn (by rw [List.length_map]; exact h)]
      rw [List.getD_eq_getElem?_getD, List.getD_eq_getElem?_getD, List.getElem?_map]
      cases ns[n.toNat]? <;> rfl
    · exact k _
def sp__law_copy : Sp := fun vs H Q _ => ∃ d es F H0, vs = [.ref d] ∧ RF H0 H d es F ∧ es.length ≤ 1000 ∧ ∀ p es' H', Same H H' → H p = none → RF H H' p es' F → Q (.ref p) H'
theorem ok__law_copy (T : Txt K mg) (D : Dfn K mg "_law_copy" s__law_copy ["rows"])  : Has P w K mg base 1 "_law_copy" ["rows"] sp__law_copy := by
  refine D.has sc__law_copy (fun vs H Q E h => ?_) (fun f cdv A outer s H vs Q E hr h => ?_)
  · obtain ⟨d, es, F, H0, rfl, _⟩ := h
    rfl
  · obtain ⟨d, es, F, H0, rfl, hR, hl, k⟩ := h
    have hu := hu_of hr
    have hu64 := hr.units
    refine ⟨_, (pss_l3 (ps_set (i := 1) sc__law_copy.nd rfl (Or.inl rfl) pe_xnew)
      (ps_for PassesOwn.never rfl (pi_keys (pv 0)) (pg_name (i := 2) sc__law_copy.nd rfl (Or.inl rfl))
      (pss_l1 (ps_asg (pe_cT (call_list_ofk (K := K) rfl) (by rfl) T.b_list (by rfl) (pa_l1 (pe_ix (ix_dict hu) (pv 0) (pv 2) (fun _ _ => rfl)))) (pg_sub (pv 1) (pv 2) (set_dict hu)))))
      (ps_ret (pv 1))), ?_⟩
    walk_at "rx"
    intro p hp
    obtain ⟨ep, hd⟩ := hR.at_.dct
    have s1 := Same.upd (o := .dX 0 []) hp
    refine ⟨ep, rwV es, s1 _ _ hd, for_w (y_keys d ep (rwV es)) (fun i σ H2 => ∃ o es', σ = [some (.ref d), some (.ref p), o] ∧ Same H H2 ∧ RF H H2 p es' (resF es i F) ∧ es'.length ≤ i) ?_ ?_ ?_ ?_⟩
    · exact ⟨none, [], rfl, s1, RF.nil upd_same, Nat.le_refl _⟩
    · rintro i σ H2 _ ⟨_, _, _, s2, _⟩
      exact s2 _ _ hd
    · rintro i σ H2 x H' hi ⟨o, es', rfl, s2, hR2, hl2⟩ ⟨rfl, kv, hkv, hK⟩
      obtain ⟨e, he, hm, rfl⟩ := rwV_get hkv
      walk_at "rx"
      refine xget_of (s2 _ _ hd) hK (valV_rw hR.at_.nd hm) ⟨_, _, rfl, .inl (SqL.of (s2 _ _ (hR.at_.lst e hm))), fun r hr => ?_⟩
      have s3 := Same.upd (o := .lst (e.2.2.map V.str)) hr
      have hR3 := hR2.same s3
      obtain ⟨ep2, hd2⟩ := hR3.at_.dct
      rw [rwV_len] at hi
      refine put_of hd2 (hK.same s3) (by rw [rwV_len]; have := sizeLine_big; omega) fun ep' => ?_
      refine ⟨(s2.trans s3).updN hp, putR es' e.1 r e.2.2, RF.congr (hR3.put (k := e.1) upd_same (hR.ne e hm) (s2.free hr) (hR2.notfree hr) ep') (fun k' => ?_), Nat.le_trans (putR_len ..) (by omega)⟩
      rw [hR.val e hm]
      exact resF_succ he k'
    · rintro σ H2 ⟨o, es', rfl, s2, hR2, hl2⟩
      walk_at "rx"
      refine k p es' H2 s2 hp (hR2.congr fun k' => resF_all hR.all ?_ k')
      rw [rwV_len]
      exact Nat.le_refl _
def sp__law_spoilt (K : PySem.W.Frag) : Sp := fun vs H Q _ => ∃ d es F H0, vs = [.ref d] ∧ RF H0 H d es F ∧ es.length ≤ 1000 ∧ (∀ e ∈ es, e.2.2.length ≤ 1000) ∧ ∀ H', Mt (d :: es.map (·.2.1)) H H' → Q .non H'
theorem ok__law_spoilt (T : Txt K mg) (D : Dfn K mg "_law_spoilt" s__law_spoilt ["rows"])  : Has P w K mg base 1 "_law_spoilt" ["rows"] (sp__law_spoilt K) := by
  refine D.has sc__law_spoilt (fun vs H Q E h => ?_) (fun f cdv A outer s H vs Q E hr h => ?_)
  · obtain ⟨d, es, F, H0, rfl, _⟩ := h
    rfl
  · obtain ⟨d, es, F, H0, rfl, hR, hl, hl2, k⟩ := h
    have hu := hu_of hr
    have hu64 := hr.units
    refine ⟨_, (pss_l2 (ps_for PassesOwn.never rfl (pi_listk (K := K) rfl (pe_cT (call_list_dX rfl) (by rfl) T.b_list (by rfl) (pa_l1 (pv 0)))) (pg_name (i := 1) sc__law_spoilt.nd rfl (Or.inl rfl))
      (pss_l1 (ps_expr (pe_mk (K := K) rfl PySem.F.plainAttrs_list PySem.F.slot_list_append PySem.F.type_list_append mr_append (pe_ix (ix_dict hu) (pv 0) (pv 1) (fun _ _ => rfl)) (pa_l1 pe_str)))))
      (ps_asg (pe_lst (pa_l1 pe_str)) (pg_sub (pv 0) (pe_tup (pa_l2 pe_str pe_str)) (set_dict hu)))), ?_⟩
    walk_at "rx"
    obtain ⟨ep, hd⟩ := hR.at_.dct
    refine ⟨d, ep, rwV es, rfl, hd, fun l ys nl hys => ?_⟩
    have s1 := Same.upd (o := .lst ys) nl
    have hylen := Paired.length hys
    rw [rwV_len] at hylen
    have hA := hR.notfree nl
    have hsb := sizeLine_big
    refine ⟨l, rfl, ⟨_, SqL.of upd_same⟩, for_w (y_list K l ys) (fun j σ H2 => ∃ o, σ = [some (.ref d), o] ∧ RowsAt H2 d (partM "spoilt" es j) ∧ H2 l = some (.lst ys) ∧ KeysAt H2 (rwV es) ys ∧ Mt (d :: es.map (·.2.1)) H H2) ?_ ?_ ?_ ?_⟩
    · exact ⟨none, rfl, by rw [partM_zero]; exact hR.at_.same s1, upd_same, hys.same s1, Mt.of s1⟩
    · rintro j σ H2 _ ⟨_, _, _, h2, _⟩
      exact SqL.of h2
    · rintro j σ H2 x H' hj ⟨o, rfl, hR2, hl2', hK2, m2⟩ ⟨rfl, hx⟩
      obtain ⟨e, he⟩ : ∃ e, es[j]? = some e := ⟨_, List.getElem?_eq_getElem (by omega)⟩
      have hm := List.mem_of_getElem? he
      obtain ⟨x', hx', hkx⟩ := Paired.get hK2 (i := j) (a := (shelfP e.1, V.ref e.2.1)) (by unfold rwV; rw [List.getElem?_map, he]; rfl)
      rw [hx] at hx'
      cases hx'
      obtain ⟨h1, hstep⟩ := hR2.step hR.an he
      obtain ⟨ep2, hd2⟩ := hR2.dct
      rw [rwV_part] at hd2
      have hle := hl2 e hm
      walk_at "rx"
      refine xget_of hd2 hkx (valV_rw hR.at_.nd hm) ⟨ty_lst h1, append_of h1 (by rw [List.length_map]; omega) ?_⟩
      exact ⟨hstep, by rw [upd_ne (Ne.symm (hA e hm))]; exact hl2', hK2.lst h1, m2.trans (Mt.upd (List.mem_cons_of_mem _ (List.mem_map.mpr ⟨e, hm, rfl⟩)))⟩
    · rintro σ H2 ⟨o, rfl, hR2, hl2', hK2, m2⟩
      obtain ⟨ep2, hd2⟩ := hR2.dct
      rw [rwV_part] at hd2
      walk_at "rx"
      intro p1 hp1
      have s3 := Same.upd (o := .lst [V.str "none"]) hp1
      intro p2 hp2
      have s4 := s3.updT (o := .tup [V.str "no", V.str "shelf"]) hp2
      refine put_of (s4 _ _ hd2) (keyV_two upd_same) (by rw [rwV_len]; omega) fun ep' => ?_
      exact k _ ((m2.trans (Mt.of s4)).trans (Mt.upd List.mem_cons_self))
def sp__law_stands (K : PySem.W.Frag) : Sp := fun vs H Q _ => ∃ d es F H0 s, vs = [.ref d, .str s] ∧ RF H0 H d es F ∧ ∀ b, Q (.bl b) H
theorem ok__law_stands (T : Txt K mg) (D : Dfn K mg "_law_stands" s__law_stands ["rows", "name"])  : Has P w K mg base 1 "_law_stands" ["rows", "name"] (sp__law_stands K) := by
  refine D.has sc__law_stands (fun vs H Q E h => ?_) (fun f cdv A outer s H vs Q E hr h => ?_)
  · obtain ⟨d, es, F, H0, s, rfl, _⟩ := h
    rfl
  · obtain ⟨d, es, F, H0, s, rfl, hR, k⟩ := h
    have hu := hu_of hr
    have hu64 := hr.units
    refine ⟨_, (pss_l2 (ps_for PassesOwn.never rfl (pi_keys (pv 0)) (pg_name (i := 2) sc__law_stands.nd rfl (Or.inl rfl))
      (pss_l1 (ps_if (pt_cmpR (op_ink (K := K) rfl) (pv 1) (pe_ix (ix_dict hu) (pv 0) (pv 2) (fun _ _ => rfl)) (by with_unfolding_all rfl))
      (pss_l1 (ps_ret pe_bl))
      pss_nil)))
      (ps_ret pe_bl)), ?_⟩
    walk_at "rx"
    obtain ⟨ep, hd⟩ := hR.at_.dct
    refine ⟨ep, _, hd, for_w (y_keys d ep (rwV es)) (fun i σ H2 => ∃ o, σ = [some (.ref d), some (.str s), o] ∧ H2 = H) ?_ ?_ ?_ ?_⟩
    · exact ⟨none, rfl, rfl⟩
    · rintro i σ H2 _ ⟨_, _, rfl⟩
      exact hd
    · rintro i σ H2 x H' hi ⟨o, rfl, rfl⟩ ⟨rfl, kv, hkv, hK⟩
      obtain ⟨e, he, hm, rfl⟩ := rwV_get hkv
      walk_at "rx"
      refine xget_of hd hK (valV_rw hR.at_.nd hm) (in_strs (hR.at_.lst e hm) ⟨_, rfl, ite2 (fun _ => k _) (fun _ => ?_)⟩)
      try walk_at "rx"
    · rintro σ H2 ⟨o, rfl, rfl⟩
      walk_at "rx"
      exact k _
def sp__law_some (K : PySem.W.Frag) : Sp := fun vs H Q _ => ∃ p ss, ∃ c : Int, vs = [.ref p, .int c] ∧ H p = some (.lst (List.map V.str ss)) ∧ ss.length ≤ 100 ∧ (∀ s ∈ ss, goodNm s) ∧ ∀ q zs H', Same H H' → H q = none → H' q = some (.lst (List.map V.str zs)) → zs.length ≤ 100 → (∀ s ∈ zs, goodNm s) → Q (.ref q) H'
theorem ok__law_some (T : Txt K mg) (D : Dfn K mg "_law_some" s__law_some ["names", "cell"])  : Has P w K mg base 1 "_law_some" ["names", "cell"] (sp__law_some K) := by
  refine D.has sc__law_some (fun vs H Q E h => ?_) (fun f cdv A outer s H vs Q E hr h => ?_)
  · obtain ⟨p, ss, c, rfl, _⟩ := h
    rfl
  · obtain ⟨p, ss, c, rfl, hp, hl, hg, k⟩ := h
    have hu := hu_of hr
    have hu64 := hr.units
    refine ⟨_, (pss_l6 (ps_set (i := 2) sc__law_some.nd rfl (Or.inl rfl) (pe_lst pa_nil))
      (ps_set (i := 3) sc__law_some.nd rfl (Or.inl rfl) (pe_op op_mod (pe_op op_mul (pv 1) pe_int) pe_int))
      (ps_set (i := 4) sc__law_some.nd rfl (Or.inl rfl) (pe_cmpR op_eq (pe_op op_mod (pe_op op_fdiv (pv 3) pe_int) pe_int) pe_int (nomark _)))
      (ps_for PassesOwn.never rfl (pi_listk (K := K) rfl (pv 0)) (pg_name (i := 5) sc__law_some.nd rfl (Or.inl rfl))
      (pss_l2 (ps_if (pt_cmpR op_eq (pe_op op_mod (pv 3) pe_int) pe_int (nomark _))
      (pss_l1 (ps_expr (pe_mk (K := K) rfl PySem.F.plainAttrs_list PySem.F.slot_list_append PySem.F.type_list_append mr_append (pv 2) (pa_l1 (pv 5)))))
      pss_nil)
      (ps_set (i := 3) sc__law_some.nd rfl (Or.inl rfl) (pe_op op_fdiv (pv 3) pe_int))))
      (ps_if (pt_val (pv 4))
      (pss_l1 (ps_ret (pe_revk (K := K) rfl (pv 2) (po_some (pe_un un_neg pe_int)))))
      pss_nil)
      (ps_ret (pv 2))), ?_⟩
    walk_at "rx"
    intro q hq
    have s1 := Same.upd (o := .lst []) hq
    refine ⟨⟨_, SqL.of (s1 _ _ hp)⟩, for_w (y_list K p (ss.map V.str)) (fun i σ H2 => ∃ o bits tb zs, σ = [some (.ref p), some (.int c), some (.ref q), some (.int bits), some (.bl tb), o] ∧ Same H H2 ∧ H2 q = some (.lst (List.map V.str zs)) ∧ zs.length ≤ i ∧ ∀ s ∈ zs, goodNm s) ?_ ?_ ?_ ?_⟩
    · exact ⟨none, _, _, [], rfl, s1, upd_same, by simp, by simp⟩
    · rintro i σ H2 _ ⟨_, _, _, _, _, s2, _⟩
      exact SqL.of (s2 _ _ hp)
    · rintro i σ H2 x H' hi ⟨o, bits, tb, zs, rfl, s2, h2, hzl, hzg⟩ ⟨rfl, hx⟩
      rw [List.getElem?_map] at hx
      obtain ⟨s, hs, rfl⟩ := Option.map_eq_some_iff.mp hx
      rw [List.length_map] at hi
      walk_at "rx"
      refine ite2 (fun _ => ⟨ty_lst h2, append_of h2 (by rw [List.length_map]; have := sizeLine_big; omega) ⟨s2.updN hq, zs ++ [s], by rw [upd_same, List.map_append]; rfl, by rw [List.length_append]; simp; omega, fun t ht => ?_⟩⟩) (fun _ => ⟨s2, zs, h2, by omega, hzg⟩)
      rcases List.mem_append.mp ht with h | h
      · exact hzg t h
      · rw [List.mem_singleton.mp h]; exact hg s (List.mem_of_getElem? hs)
    · rintro σ H2 ⟨o, bits, tb, zs, rfl, s2, h2, hzl, hzg⟩
      rw [List.length_map] at hzl
      walk_at "rx"
      refine ite2 (fun _ => ⟨_, SqL.of h2, fun r hr => k r zs.reverse _ (s2.updT hr) (s2.free hr) (by rw [upd_same, List.map_reverse]) (by rw [List.length_reverse]; omega) (fun s hs => hzg s (List.mem_reverse.mp hs))⟩) (fun _ => k q zs H2 s2 hq h2 (by omega) hzg)
def sp__law_without (K : PySem.W.Frag) : Sp := fun vs H Q _ => ∃ d es F H0 l ss U m, vs = [.ref d, .ref l] ∧ RF H0 H d es F ∧ FOk U m F ∧ U.length ≤ 100 ∧ m ≤ 1000 ∧ H l = some (.lst (List.map V.str ss)) ∧ ∀ p es' H', Same H H' → H p = none → RF H H' p es' (lessF F ss) → Q (.ref p) H'
theorem ok__law_without (T : Txt K mg) (D : Dfn K mg "_law_without" s__law_without ["rows", "some"])  : Has P w K mg base 1 "_law_without" ["rows", "some"] (sp__law_without K) := by
  refine D.has sc__law_without (fun vs H Q E h => ?_) (fun f cdv A outer s H vs Q E hr h => ?_)
  · obtain ⟨d, es, F, H0, l, ss, U, m, rfl, _⟩ := h
    rfl
  · obtain ⟨d, es, F, H0, l, ss, U, m, rfl, hR, hF, hU, hm, hs, k⟩ := h
    have hu := hu_of hr
    have hu64 := hr.units
    refine ⟨_, (pss_l3 (ps_set (i := 2) sc__law_without.nd rfl (Or.inl rfl) pe_xnew)
      (ps_for PassesOwn.never rfl (pi_keys (pv 0)) (pg_name (i := 3) sc__law_without.nd rfl (Or.inl rfl))
      (pss_l2 (ps_setcomp (i := 4) sc__law_without.nd rfl rfl (show CompSc ["rows", "some", "out", "shelf", "row"] ["name", "some"] (defScope s__law_without) _ [none, some 1] from by exact ⟨rfl, by decide +kernel, by decide +kernel, by decide +kernel, by decide +kernel⟩) (pi_listk (K := K) rfl (pe_ix (ix_dict hu) (pv 0) (pv 3) (fun _ _ => rfl))) (fun _ _ _ => (pg_name (i := 0) (show List.Nodup [("name" : Str), ("some" : Str)] from by decide +kernel) rfl (Or.inl rfl))) (fun _ _ _ => (pf_one (pt_cmpR (op_notink (K := K) rfl) (pv 0) (pv 1) (by with_unfolding_all rfl)))) (fun _ _ _ => (pv 0)))
      (ps_if (pt_cmpR (op_neD hu64) (pv 4) (pe_lst pa_nil) (nomark _))
      (pss_l1 (ps_asg (pv 4) (pg_sub (pv 2) (pv 3) (set_dict hu))))
      pss_nil)))
      (ps_ret (pv 2))), ?_⟩
    walk_at "rx"
    intro p hp
    obtain ⟨ep, hd⟩ := hR.at_.dct
    have sp := Same.upd (o := .dX 0 []) hp
    have hfew := hR.few hF
    refine ⟨ep, rwV es, sp _ _ hd, for_w (y_keys d ep (rwV es)) (fun i σ H3 => ∃ o1 o2 es', σ = [some (.ref d), some (.ref l), some (.ref p), o1, o2] ∧ Same H H3 ∧ RF H H3 p es' (resF es i (lessF F ss)) ∧ es'.length ≤ i) ?_ ?_ ?_ ?_⟩
    · exact ⟨none, none, [], rfl, sp, RF.nil upd_same, Nat.le_refl _⟩
    · rintro i σ H3 _ ⟨_, _, _, _, s3, _⟩
      exact s3 _ _ hd
    · rintro i σ H3 x H' hi ⟨o1, o2, es', rfl, s3, hR3, hl3⟩ ⟨rfl, kv, hkv, hk⟩
      obtain ⟨e, he, hm', rfl⟩ := rwV_get hkv
      rw [rwV_len] at hi
      have hrow := s3 _ _ (hR.at_.lst e hm')
      walk_at "rx"
      refine xget_of (s3 _ _ hd) hk (valV_rw hR.at_.nd hm') ?_
      refine ⟨_, rfl, ⟨_, SqL.of hrow⟩, comp_w (y_list K e.2.1 (e.2.2.map V.str)) (fun j σ acc H5 => (∃ x, σ = [x, some (.ref l)]) ∧ H5 = H' ∧ acc = ((e.2.2.take j).filter fun s => !decide (s ∈ ss)).map V.str) ?_ ?_ ?_ ?_⟩
      · exact ⟨⟨none, rfl⟩, rfl, rfl⟩
      · rintro j σ acc H5 hj ⟨_, rfl, rfl⟩
        refine ⟨SqL.of hrow, fun _ => ?_⟩
        have h1 := List.length_filter_le (fun s => !decide (s ∈ ss)) (e.2.2.take j)
        rw [List.length_take, hR.val e hm'] at h1
        have h2 := hF.len e.1
        rw [List.length_map, hR.val e hm']
        have := sizeLine_big
        omega
      · rintro j σ acc H5 y H6 hj ⟨⟨x, rfl⟩, rfl, rfl⟩ ⟨rfl, hy⟩
        rw [List.getElem?_map] at hy
        obtain ⟨s, hs', rfl⟩ := Option.map_eq_some_iff.mp hy
        walk_at "rx"
        refine notin_strs (s3 _ _ hs) ⟨_, rfl, ite2 (fun h => ?_) (fun h => ?_)⟩
        · try walk_at "rx"
          rw [List.take_add_one, hs', List.filter_append, List.map_append, Option.toList_some]
          rw [show List.filter (fun s => !decide (s ∈ ss)) [s] = [s] from by rw [List.filter_cons, if_pos h]; rfl]
          rfl
        · try walk_at "rx"
          rw [List.take_add_one, hs', List.filter_append, List.map_append, Option.toList_some]
          rw [show List.filter (fun s => !decide (s ∈ ss)) [s] = [] from by rw [List.filter_cons, if_neg h]; rfl]
          rw [List.map_nil, List.append_nil]
      · rintro σ acc H5 ⟨_, rfl, rfl⟩ r hr
        rw [List.length_map, List.take_length]
        have hG : (e.2.2.filter fun s => !decide (s ∈ ss)) = lessF F ss e.1 := by unfold lessF; rw [hR.val e hm']
        rw [hG]
        have s6 := Same.upd (o := .lst ((lessF F ss e.1).map V.str)) hr
        have hr6 : (upd H5 r (.lst ((lessF F ss e.1).map V.str))) r = some (.lst ((lessF F ss e.1).map V.str)) := upd_same
        have hR6 := hR3.same s6
        have hnf := hR3.notfree hr
        have hr0 : H r = none := s3.free hr
        have hk6 := hk.same s6
        generalize upd H5 r (.lst ((lessF F ss e.1).map V.str)) = H6 at s6 hr6 hR6 hk6
        try walk_at "rx"
        intro pe hpe
        have s7 := Same.upd (o := .lst []) hpe
        have hR7 := hR6.same s7
        obtain ⟨ep7, hd7⟩ := hR7.at_.dct
        refine eqNil_of (s7 _ _ hr6) upd_same (hF.less ss |>.good e.1) ⟨_, rfl, ite2 (fun h => ?_) (fun h => ?_)⟩
        · have hne : lessF F ss e.1 ≠ [] := by simpa using h
          try walk_at "rx"
          refine put_of hd7 (hk6.same s7) (by rw [rwV_len]; have := sizeLine_big; omega) fun ep' => ?_
          exact ⟨((s3.trans s6).trans s7).updN hp, putR es' e.1 r (lessF F ss e.1), RF.congr (hR7.put (k := e.1) (s7 _ _ hr6) hne hr0 hnf ep') (fun k' => resF_succ he k'), Nat.le_trans (putR_len ..) (by omega)⟩
        · have hz : lessF F ss e.1 = [] := by simpa using h
          exact ⟨(s3.trans s6).trans s7, es', hR7.congr (fun k' => resF_skip he hz k'), by omega⟩
    · rintro σ H3 ⟨o1, o2, es', rfl, s3, hR3, hl3⟩
      walk_at "rx"
      refine k p es' H3 s3 hp (hR3.congr fun k' => resF_all (fun k' hk' => hR.all k' fun q => hk' (by unfold lessF; rw [q]; rfl)) ?_ k')
      rw [rwV_len]
      exact Nat.le_refl _
def sp_marked (K : PySem.W.Frag) : Sp := fun vs H Q _ => ∃ p ss, vs = [.ref p] ∧ H p = some (.lst (List.map V.str ss)) ∧ ss.length ≤ 1000 ∧ ∀ d ep H', Same H H' → H' d = some (.dX ep (fillK (mkd ss))) → Q (.ref d) H'
theorem ok_marked (T : Txt K mg) (D : Dfn K mg "marked" s_marked ["names"])  : Has P w K mg base 1 "marked" ["names"] (sp_marked K) := by
  refine D.has sc_marked (fun vs H Q E h => ?_) (fun f cdv A outer s H vs Q E hr h => ?_)
  · obtain ⟨p, ss, rfl, _⟩ := h
    rfl
  · obtain ⟨p, ss, rfl, hp, hl, k⟩ := h
    have hu := hu_of hr
    have hu64 := hr.units
    refine ⟨_, (pss_l1 (ps_ret (pe_cT (call_dict_prs rfl hu64) (by rfl) T.b_dict (by rfl) (pa_l1 (pe_comp (show CompSc ["names"] ["name"] (defScope s_marked) _ [none] from by exact ⟨rfl, by decide +kernel, by decide +kernel, by decide +kernel, by decide +kernel⟩) (pi_listk (K := K) rfl (pv 0)) (fun _ _ _ => (pg_name (i := 0) (show List.Nodup [("name" : Str)] from by decide +kernel) rfl (Or.inl rfl))) (fun _ _ _ => pf_nil) (fun _ _ _ => (pe_tup (pa_l2 (pv 0) pe_bl)))))))), ?_⟩
    walk_at "rx"
    refine ⟨⟨_, SqL.of hp⟩, comp_w (y_list K p (ss.map V.str)) (fun i σ acc H3 => (∃ x, σ = [x]) ∧ Same H H3 ∧ PairsAt H3 (mkd (ss.take i)) acc) ?_ ?_ ?_ ?_⟩
    · exact ⟨⟨none, rfl⟩, Same.refl _, .nil⟩
    · rintro i σ acc H3 hi ⟨_, s3, hP⟩
      refine ⟨SqL.of (s3 _ _ hp), fun _ => ?_⟩
      have := hP.len
      unfold mkd at this
      rw [List.length_map, List.length_take] at this
      have := sizeLine_big
      omega
    · rintro i σ acc H3 v H' hi ⟨⟨x, rfl⟩, s3, hP⟩ ⟨rfl, hv⟩
      rw [List.getElem?_map] at hv
      obtain ⟨s, hs, rfl⟩ := Option.map_eq_some_iff.mp hv
      walk_at "rx"
      intro t ht
      have s4 := Same.upd (o := .tup [.str s, .bl true]) ht
      refine ⟨s3.trans s4, ?_⟩
      rw [List.take_add_one, hs]
      unfold mkd
      rw [List.map_append]
      exact PairsAt.append (hP.same s4) (.cons ⟨t, .str s, rfl, upd_same, rfl⟩ .nil)
    · rintro σ acc H3 ⟨_, s3, hP⟩ l hl'
      rw [List.length_map, List.take_length] at hP
      have s4 := Same.upd (o := .lst acc) hl'
      refine ⟨l, acc, _, rfl, upd_same, hP.same s4, fun d ep hd => ?_⟩
      exact k d ep _ ((s3.trans s4).updT hd) upd_same
def sp_left (K : PySem.W.Frag) : Sp := fun vs H Q _ => ∃ d es F H0 l ss U m, vs = [.ref d, .ref l] ∧ RF H0 H d es F ∧ FOk U m F ∧ U.length ≤ 100 ∧ m ≤ 1000 ∧ H l = some (.lst (List.map V.str ss)) ∧ ss.length ≤ 1000 ∧ ∀ p es' H', Same H H' → H p = none → RF H H' p es' (lessF F ss) → Q (.ref p) H'
theorem ok_left (T : Txt K mg) (D : Dfn K mg "left" s_left ["rows", "names"]) (H_marked : Has P w K mg base 1 "marked" ["names"] (sp_marked K)) : Has P w K mg base 2 "left" ["rows", "names"] (sp_left K) := by
  refine D.has sc_left (fun vs H Q E h => ?_) (fun f cdv A outer s H vs Q E hr h => ?_)
  · obtain ⟨d, es, F, H0, l, ss, U, m, rfl, _⟩ := h
    rfl
  · obtain ⟨d, es, F, H0, l, ss, U, m, rfl, hR, hF, hU, hm, hs, hsl, k⟩ := h
    have hu := hu_of hr
    have hu64 := hr.units
    refine ⟨_, (pss_l4 (ps_set (i := 2) sc_left.nd rfl (Or.inr rfl) (pe_callH H_marked (hr.mono (by decide)) rfl (pa_l1 (pv 1))))
      (ps_set (i := 3) sc_left.nd rfl (Or.inl rfl) pe_xnew)
      (ps_for PassesOwn.never rfl (pi_view (pe_m0k (K := K) rfl PySem.F.plainAttrs_dict PySem.F.slot_dict_items PySem.F.type_dict_items mt_items (pv 0))) (pg_tupk (K := K) (n := 2) rfl rfl (pgs_cons (pg_name (i := 4) sc_left.nd rfl (Or.inl rfl)) (pgs_cons (pg_name (i := 5) sc_left.nd rfl (Or.inl rfl)) pgs_nil)))
      (pss_l2 (ps_setcomp (i := 6) sc_left.nd rfl rfl (show CompSc ["rows", "names", "gone", "told", "shelf", "row", "staying"] ["name", "gone"] (defScope s_left) _ [none, some 2] from by exact ⟨rfl, by decide +kernel, by decide +kernel, by decide +kernel, by decide +kernel⟩) (pi_listk (K := K) rfl (pv 5)) (fun _ _ _ => (pg_name (i := 0) (show List.Nodup [("name" : Str), ("gone" : Str)] from by decide +kernel) rfl (Or.inl rfl))) (fun _ _ _ => (pf_one (pt_cmpR (op_xnotin hu) (pv 0) (pv 1) (by with_unfolding_all rfl)))) (fun _ _ _ => (pv 0)))
      (ps_if (pt_truthk (K := K) rfl (pv 6) (fun _ => rfl))
      (pss_l1 (ps_asg (pv 6) (pg_sub (pv 3) (pv 4) (set_dict hu))))
      pss_nil)))
      (ps_ret (pv 3))), ?_⟩
    walk_at "rx"
    refine ⟨l, ss, rfl, hs, hsl, fun dc epc H1 s1 hdc => ?_⟩
    intro p hp
    obtain ⟨ep, hd⟩ := hR.at_.dct
    have sp := s1.updT (o := .dX 0 []) hp
    have hfew := hR.few hF
    refine ⟨ty_dct (sp _ _ hd), items_of (sp _ _ hd) fun v hv => ?_⟩
    have sv := sp.updT (o := viewO v d) hv
    have hp0 : H p = none := s1.free hp
    have hdcp : dc ≠ p := fun e => by rw [e, hp] at hdc; cases hdc
    have hdv : (upd (upd H1 p (.dX 0 [])) v (viewO v d)) dc = some (.dX epc (fillK (mkd ss))) := Same.upd hv _ _ (Same.upd hp _ _ hdc)
    refine ⟨v, rfl, d, upd_same, ep, _, sv _ _ hd, for_w (y_items d ep (rwV es)) (fun i σ H3 => ∃ o1 o2 o3 es', σ = [some (.ref d), some (.ref l), some (.ref dc), some (.ref p), o1, o2, o3] ∧ Same H H3 ∧ H3 dc = some (.dX epc (fillK (mkd ss))) ∧ RF H H3 p es' (resF es i (lessF F ss)) ∧ es'.length ≤ i) ?_ ?_ ?_ ?_⟩
    · exact ⟨none, none, none, [], rfl, sv, hdv, RF.nil (Same.upd hv _ _ upd_same), Nat.le_refl _⟩
    · rintro i σ H3 _ ⟨_, _, _, _, _, s3, _⟩
      exact s3 _ _ hd
    · rintro i σ H3 x H' hi ⟨o1, o2, o3, es', rfl, s3, hdc3, hR3, hl3⟩ ⟨t, kk, vv, yy, rfl, ht, hi2, hk, rfl⟩
      obtain ⟨e, he, hm, e1⟩ := rwV_get hi2
      cases e1
      rw [rwV_len] at hi
      have s4 := Same.upd (o := .tup [yy, .ref e.2.1]) ht
      have s34 := s3.trans s4
      have hR4 := hR3.same s4
      have hdc4 := s4 _ _ hdc3
      have hk4 := hk.same s4
      refine ⟨t, _, rfl, SqT.of upd_same, rfl, ?_⟩
      generalize upd H3 t (.tup [yy, .ref e.2.1]) = H4 at s4 s34 hR4 hdc4 hk4
      walk_at "rx"
      have hrow := s34 _ _ (hR.at_.lst e hm)
      refine ⟨⟨_, SqL.of hrow⟩, comp_w (y_list K e.2.1 (e.2.2.map V.str)) (fun j σ acc H5 => (∃ x, σ = [x, some (.ref dc)]) ∧ H5 = H4 ∧ acc = ((e.2.2.take j).filter fun s => !decide (s ∈ ss)).map V.str) ?_ ?_ ?_ ?_⟩
      · exact ⟨⟨none, rfl⟩, rfl, rfl⟩
      · rintro j σ acc H5 hj ⟨_, rfl, rfl⟩
        refine ⟨SqL.of hrow, fun _ => ?_⟩
        have h1 := List.length_filter_le (fun s => !decide (s ∈ ss)) (e.2.2.take j)
        rw [List.length_take, hR.val e hm] at h1
        have h2 := hF.len e.1
        rw [List.length_map, hR.val e hm]
        have := sizeLine_big
        omega
      · rintro j σ acc H5 y H' hj ⟨⟨x, rfl⟩, rfl, rfl⟩ ⟨rfl, hy⟩
        rw [List.getElem?_map] at hy
        obtain ⟨s, hs', rfl⟩ := Option.map_eq_some_iff.mp hy
        walk_at "rx"
        refine xnotin_of hdc4 (k := .inl (.inr s)) rfl ⟨_, rfl, ite2 (fun h => ?_) (fun h => ?_)⟩
        · rw [mkd_isSome] at h
          try walk_at "rx"
          rw [List.take_add_one, hs', List.filter_append, List.map_append, Option.toList_some]
          rw [show List.filter (fun s => !decide (s ∈ ss)) [s] = [s] from by rw [List.filter_cons, if_pos h]; rfl]
          rfl
        · rw [mkd_isSome] at h
          try walk_at "rx"
          rw [List.take_add_one, hs', List.filter_append, List.map_append, Option.toList_some]
          rw [show List.filter (fun s => !decide (s ∈ ss)) [s] = [] from by rw [List.filter_cons, if_neg h]; rfl]
          rw [List.map_nil, List.append_nil]
      · rintro σ acc H5 ⟨_, rfl, rfl⟩ r hr
        rw [List.length_map, List.take_length]
        have hG : (e.2.2.filter fun s => !decide (s ∈ ss)) = lessF F ss e.1 := by unfold lessF; rw [hR.val e hm]
        rw [hG]
        have s6 := Same.upd (o := .lst ((lessF F ss e.1).map V.str)) hr
        have hr6 : (upd H5 r (.lst ((lessF F ss e.1).map V.str))) r = some (.lst ((lessF F ss e.1).map V.str)) := upd_same
        have hR6 := hR4.same s6
        have hnf := hR4.notfree hr
        have hr0 : H r = none := s34.free hr
        have hdc6 := s6 _ _ hdc4
        have hk6 := hk4.same s6
        generalize upd H5 r (.lst ((lessF F ss e.1).map V.str)) = H6 at s6 hr6 hR6 hdc6 hk6
        obtain ⟨ep6, hd6⟩ := hR6.at_.dct
        try walk_at "rx"
        refine ⟨!((lessF F ss e.1).map V.str).isEmpty, .inl ⟨_, SqL.of hr6, rfl⟩, ite2 (fun h => ?_) (fun h => ?_)⟩
        · have hne : lessF F ss e.1 ≠ [] := fun q => by rw [q] at h; simp at h
          refine put_of hd6 hk6 (by rw [rwV_len]; have := sizeLine_big; omega) fun ep' => ?_
          exact ⟨(s34.trans s6).updN hp0, by rw [upd_ne hdcp]; exact hdc6, putR es' e.1 r (lessF F ss e.1), RF.congr (hR6.put (k := e.1) hr6 hne hr0 hnf ep') (fun k' => resF_succ he k'), Nat.le_trans (putR_len ..) (by omega)⟩
        · have hz : lessF F ss e.1 = [] := by
            cases hq : lessF F ss e.1 with
            | nil => rfl
            | cons y ys => rw [hq] at h; simp at h
          exact ⟨s34.trans s6, hdc6, es', hR6.congr (fun k' => resF_skip he hz k'), by omega⟩
    · rintro σ H3 ⟨o1, o2, o3, es', rfl, s3, hdc3, hR3, hl3⟩
      walk_at "rx"
      refine k p es' H3 s3 hp0 (hR3.congr fun k' => resF_all (fun k' hk' => hR.all k' fun q => hk' (by unfold lessF; rw [q]; rfl)) ?_ k')
      rw [rwV_len]
      exact Nat.le_refl _
def sp__law_gives (K : PySem.W.Frag) : Sp := fun vs H Q _ => ∃ v nm ls, vs = [v] ∧ DealAt H v nm ls ∧ ls.length ≤ 8 ∧ (∀ l ∈ ls, goodNm l.1 ∧ goodNm l.2.2.1) ∧ ∀ p rs ks H', Same H H' → H p = none → H' p = some (.lst (rs.map V.ref)) → TwosAt H' ks rs → ks.Nodup → ks.length ≤ 8 → (∀ k, k ∈ ks ↔ k ∈ givers ls) → Q (.ref p) H'
theorem ok__law_gives (T : Txt K mg) (D : Dfn K mg "_law_gives" s__law_gives ["deal"])  : Has P w K mg base 1 "_law_gives" ["deal"] (sp__law_gives K) := by
  refine D.has sc__law_gives (fun vs H Q E h => ?_) (fun f cdv A outer s H vs Q E hr h => ?_)
  · obtain ⟨v, nm, ls, rfl, _⟩ := h
    rfl
  · obtain ⟨v, nm, ls, rfl, hD, hl8, hg, k⟩ := h
    have hu := hu_of hr
    have hu64 := hr.units
    refine ⟨_, (pss_l3 (ps_set (i := 1) sc__law_gives.nd rfl (Or.inl rfl) (pe_lst pa_nil))
      (ps_for PassesOwn.never rfl (pi_tupk (K := K) rfl (pe_ix (ix_tupk (K := K) rfl) (pv 0) pe_int (fun _ _ => rfl))) (pg_name (i := 2) sc__law_gives.nd rfl (Or.inl rfl))
      (pss_l1 (ps_if (pt_cmpR (op_notinD hu64) (pe_tup (pa_l2 (pe_ix (ix_tupk (K := K) rfl) (pv 2) pe_int (fun _ _ => rfl)) (pe_ix (ix_tupk (K := K) rfl) (pv 2) pe_int (fun _ _ => rfl)))) (pv 1) (by with_unfolding_all rfl))
      (pss_l1 (ps_expr (pe_mk (K := K) rfl PySem.F.plainAttrs_list PySem.F.slot_list_append PySem.F.type_list_append mr_append (pv 1) (pa_l1 (pe_tup (pa_l2 (pe_ix (ix_tupk (K := K) rfl) (pv 2) pe_int (fun _ _ => rfl)) (pe_ix (ix_tupk (K := K) rfl) (pv 2) pe_int (fun _ _ => rfl))))))))
      pss_nil)))
      (ps_ret (pv 1))), ?_⟩
    walk_at "rx"
    intro p hp
    obtain ⟨dt, lt, us, rfl, hdt, hlt, hL⟩ := hD
    have s1 := Same.upd (o := .lst []) hp
    have hgk : ∀ kk ∈ givers ls, goodNm kk.1 ∧ goodNm kk.2 := fun kk hk => by
      obtain ⟨l, hl, rfl⟩ := List.mem_map.mp hk
      exact hg l hl
    refine ixT_of (s1 _ _ hdt) (v := .ref lt) (atI_nat (j := 1) rfl) ?_
    refine ⟨lt, rfl, ⟨_, SqT.of (s1 _ _ hlt)⟩, for_w (y_tup K lt us) (fun i σ H2 => ∃ o rs ks, σ = [some (.ref dt), some (.ref p), o] ∧ Same H H2 ∧ H2 p = some (.lst (rs.map V.ref)) ∧ TwosAt H2 ks rs ∧ ks.Nodup ∧ ks.length ≤ i ∧ ∀ k, k ∈ ks ↔ k ∈ givers (ls.take i)) ?_ ?_ ?_ ?_⟩
    · exact ⟨none, [], [], rfl, s1, upd_same, .nil, by simp, by simp, by simp [givers]⟩
    · rintro i σ H2 _ ⟨_, _, _, _, s2, _⟩
      exact SqT.of (s2 _ _ hlt)
    · rintro i σ H2 x H' hi ⟨o, rs, ks, rfl, s2, h2, hT, hnd, hkl, hmem⟩ ⟨rfl, hx⟩
      obtain ⟨l, hl⟩ : ∃ l, ls[i]? = some l := ⟨_, List.getElem?_eq_getElem (by rw [hL.len]; exact hi)⟩
      obtain ⟨x', hx', t, e1, ht⟩ := Paired.get hL hl
      rw [hx] at hx'
      cases hx'
      subst e1
      have hlm := List.mem_of_getElem? hl
      have hi8 : i < 8 := by
        have := (List.getElem?_eq_some_iff.mp hl).1
        omega
      have ht2 := s2 _ _ ht
      have hks : ∀ kk ∈ ks, goodNm kk.1 ∧ goodNm kk.2 := fun kk hk => hgk kk (by
        have := (hmem kk).mp hk
        unfold givers at this ⊢
        obtain ⟨l', h1, h2⟩ := List.mem_map.mp this
        exact List.mem_map.mpr ⟨l', List.mem_of_mem_take h1, h2⟩)
      have htake : ∀ kk, kk ∈ givers (ls.take (i + 1)) ↔ kk ∈ givers (ls.take i) ∨ kk = (l.1, l.2.2.1) := fun kk => by
        unfold givers
        rw [List.take_add_one, hl, List.map_append, List.mem_append]
        simp
      walk_at "rx"
      refine ixT_of ht2 (v := .str l.1) (atI_nat (j := 0) rfl) ?_
      refine ixT_of ht2 (v := .str l.2.2.1) (atI_nat (j := 2) rfl) fun q hq => ?_
      have s3 := Same.upd (o := .tup [.str l.1, .str l.2.2.1]) hq
      refine inD_two (k := (l.1, l.2.2.1)) upd_same (s3 _ _ h2) (TwosAt.same hT s3) (hg l hlm) hks ⟨_, rfl, ite2 (fun h => ?_) (fun h => ?_)⟩
      · have hn : (l.1, l.2.2.1) ∉ ks := by simpa using h
        try walk_at "rx"
        refine ⟨ty_lst (s3 _ _ h2), ixT_of (s3 _ _ ht2) (v := .str l.1) (atI_nat (j := 0) rfl) ?_⟩
        refine ixT_of (s3 _ _ ht2) (v := .str l.2.2.1) (atI_nat (j := 2) rfl) fun q2 hq2 => ?_
        have s4 := s3.updT (o := .tup [.str l.1, .str l.2.2.1]) hq2
        have hrl := Paired.length hT
        refine append_of (s4 _ _ h2) (by rw [List.length_map]; have := sizeLine_big; omega) ?_
        have hpq : p ≠ q2 := fun e => by rw [← e, s3 _ _ h2] at hq2; cases hq2
        refine ⟨(s2.trans s4).updN hp, rs ++ [q2], by rw [upd_same, List.map_append]; rfl, ks ++ [(l.1, l.2.2.1)], ?_, ?_, by rw [List.length_append]; simp; omega, fun kk => ?_⟩
        · refine Paired.append (Paired.mapP (TwosAt.same hT s4) fun kk r e => ?_) (.cons (by rw [upd_ne (Ne.symm hpq), upd_same]) .nil)
          rw [upd_ne (fun e2 => by rw [e2, s4 _ _ h2] at e; cases e)]
          exact e
        · rw [List.nodup_append]
          refine ⟨hnd, by simp, fun a ha b hb e1 => ?_⟩
          rw [List.mem_singleton.mp hb] at e1
          exact hn (e1 ▸ ha)
        · rw [htake, ← hmem, List.mem_append]
          simp
      · have hn : (l.1, l.2.2.1) ∈ ks := by simpa using h
        refine ⟨s2.trans s3, rs, s3 _ _ h2, ks, TwosAt.same hT s3, hnd, by omega, fun kk => ?_⟩
        rw [htake, ← hmem]
        constructor
        · exact .inl
        · rintro (h | rfl)
          · exact h
          · exact hn
    · rintro σ H2 ⟨o, rs, ks, rfl, s2, h2, hT, hnd, hkl, hmem⟩
      walk_at "rx"
      rw [← hL.len, List.take_length] at hmem
      rw [← hL.len] at hkl
      exact k p rs ks H2 s2 hp h2 hT hnd (by omega) hmem
def sp_copied (K : PySem.W.Frag) : Sp := fun vs H Q _ => ∃ d es F H0, vs = [.ref d] ∧ RF H0 H d es F ∧ es.length ≤ 1000 ∧ ∀ p es' H', Same H H' → H p = none → RF H H' p es' F → Q (.ref p) H'
theorem ok_copied (T : Txt K mg) (D : Dfn K mg "copied" s_copied ["rows"])  : Has P w K mg base 1 "copied" ["rows"] (sp_copied K) := by
  refine D.has sc_copied (fun vs H Q E h => ?_) (fun f cdv A outer s H vs Q E hr h => ?_)
  · obtain ⟨d, es, F, H0, rfl, _⟩ := h
    rfl
  · obtain ⟨d, es, F, H0, rfl, hR, hl, k⟩ := h
    have hu := hu_of hr
    have hu64 := hr.units
    refine ⟨_, (pss_l1 (ps_ret (pe_cT (call_dict_prs rfl hu64) (by rfl) T.b_dict (by rfl) (pa_l1 (pe_comp (show CompSc ["rows"] ["shelf", "row"] (defScope s_copied) _ [none, none] from by exact ⟨rfl, by decide +kernel, by decide +kernel, by decide +kernel, by decide +kernel⟩) (pi_view (pe_m0k (K := K) rfl PySem.F.plainAttrs_dict PySem.F.slot_dict_items PySem.F.type_dict_items mt_items (pv 0))) (fun _ _ _ => (pg_tupk (K := K) (n := 2) rfl rfl (pgs_cons (pg_name (i := 0) (show List.Nodup [("shelf" : Str), ("row" : Str)] from by decide +kernel) rfl (Or.inl rfl)) (pgs_cons (pg_name (i := 1) (show List.Nodup [("shelf" : Str), ("row" : Str)] from by decide +kernel) rfl (Or.inl rfl)) pgs_nil)))) (fun _ _ _ => pf_nil) (fun _ _ _ => (pe_tup (pa_l2 (pv 0) (pe_cT (call_list_ofk (K := K) rfl) (by rfl) T.b_list (by rfl) (pa_l1 (pv 1))))))))))), ?_⟩
    walk_at "rx"
    obtain ⟨ep, hd⟩ := hR.at_.dct
    refine ⟨ty_dct hd, items_of hd fun v hv => ?_⟩
    have sv := Same.upd (o := viewO v d) hv
    refine ⟨v, rfl, d, upd_same, ep, _, sv _ _ hd, comp_w (y_items d ep (rwV es)) (fun i σ acc H3 => (∃ x y, σ = [x, y]) ∧ Same H H3 ∧ ∃ es', PairsAt H3 (rwV es') acc ∧ (∀ e ∈ es', H3 e.2.1 = some (.lst (e.2.2.map V.str))) ∧ (∀ e ∈ es', H e.2.1 = none) ∧ (es'.map (·.2.1)).Nodup ∧ stripR es' = (stripR es).take i) ?_ ?_ ?_ ?_⟩
    · exact ⟨⟨none, none, rfl⟩, sv, [], .nil, by simp, by simp, by simp, rfl⟩
    · rintro i σ acc H3 hi ⟨_, s3, es', hP, _, _, _, hst⟩
      refine ⟨s3 _ _ hd, fun _ => ?_⟩
      have h1 := hP.len
      have h2 := congrArg List.length hst
      unfold stripR at h2
      rw [rwV_len] at h1
      rw [List.length_map, List.length_take, List.length_map] at h2
      have := sizeLine_big
      omega
    · rintro i σ acc H3 x H' hi ⟨⟨x1, x2, rfl⟩, s3, es', hP, hL, hf, han, hst⟩ ⟨t, kk, vv, yy, rfl, ht, hi2, hk, rfl⟩
      obtain ⟨e, he, hm, e1⟩ := rwV_get hi2
      cases e1
      have s4 := Same.upd (o := .tup [yy, .ref e.2.1]) ht
      refine ⟨t, _, rfl, SqT.of upd_same, rfl, ?_⟩
      walk_at "rx"
      refine ⟨_, _, rfl, .inl (SqL.of (s4 _ _ (s3 _ _ (hR.at_.lst e hm)))), fun r hr => ?_⟩
      intro t2 ht2
      have s5 := s4.updT (o := .lst (e.2.2.map V.str)) hr
      have s6 := s5.updT (o := .tup [yy, .ref r]) ht2
      have hr0 : H r = none := (s3.trans s4).free hr
      have hrl : (upd (upd (upd H3 t (.tup [yy, .ref e.2.1])) r (.lst (e.2.2.map V.str))) t2 (.tup [yy, .ref r])) r = some (.lst (e.2.2.map V.str)) := Same.upd ht2 _ _ upd_same
      refine ⟨s3.trans s6, es' ++ [(e.1, r, e.2.2)], ?_, fun x hx => ?_, fun x hx => ?_, ?_, ?_⟩
      · unfold rwV
        rw [List.map_append]
        exact PairsAt.append (hP.same s6) (.cons ⟨t2, yy, rfl, upd_same, hk.same s6⟩ .nil)
      · rcases List.mem_append.mp hx with h | h
        · exact s6 _ _ (hL x h)
        · rw [List.mem_singleton.mp h]; exact hrl
      · rcases List.mem_append.mp hx with h | h
        · exact hf x h
        · rw [List.mem_singleton.mp h]; exact hr0
      · rw [List.map_append, List.nodup_append]
        refine ⟨han, by simp, fun a ha b hb e1 => ?_⟩
        obtain ⟨x, hx, rfl⟩ := List.mem_map.mp ha
        rw [List.mem_singleton.mp hb] at e1
        have e2 : x.2.1 = r := e1
        have := s4 _ _ (hL x hx)
        rw [e2, hr] at this
        cases this
      · have he' : (stripR es)[i]? = some (e.1, e.2.2) := by unfold stripR; rw [List.getElem?_map, he]; rfl
        rw [List.take_add_one, he', ← hst]
        unfold stripR
        rw [List.map_append]
        rfl
    · rintro σ acc H3 ⟨_, s3, es', hP, hL, hf, han, hst⟩ l hl'
      have s4 := Same.upd (o := .lst acc) hl'
      rw [List.take_of_length_le (by unfold stripR; rw [List.length_map, rwV_len]; exact Nat.le_refl _)] at hst
      obtain ⟨q1, q2, q3, q4⟩ := hR.strip hst
      refine ⟨l, acc, rwV es', rfl, upd_same, hP.same s4, fun p epp hp => ?_⟩
      have s5 := s4.updT (o := .dX epp (fillK (rwV es'))) hp
      refine k p es' _ (s3.trans s5) ((s3.trans s4).free hp) ⟨⟨⟨epp, by rw [upd_same, fillK_rw q4]⟩, fun e he => s5 _ _ (hL e he), q4⟩, hf, han, q1, q2, q3⟩
def sp_sheet_of : Sp := fun vs H Q _ => ∃ a us ps, vs = [.ref a] ∧ H a = some (.lst us) ∧ PairsAt H (iv ps) us ∧ ps.length ≤ 100000 ∧ ∀ p ep H', Same H H' → H p = none → H' p = some (.dX ep (iv (Sh.sheet ps))) → Q (.ref p) H'
theorem ok_sheet_of (T : Txt K mg) (D : Dfn K mg "sheet_of" s_sheet_of ["pairs"])  : Has P w K mg base 1 "sheet_of" ["pairs"] sp_sheet_of := by
  refine D.has sc_sheet_of (fun vs H Q E h => ?_) (fun f cdv A outer s H vs Q E hr h => ?_)
  · obtain ⟨a, us, ps, rfl, _⟩ := h
    rfl
  · obtain ⟨a, us, ps, rfl, ha, hp, hz, k⟩ := h
    have hu := hu_of hr
    have hu64 := hr.units
    refine ⟨_, (pss_l5 (ps_set (i := 1) sc_sheet_of.nd rfl (Or.inl rfl) pe_xnew)
      (ps_for PassesOwn.never rfl (pi_listk (K := K) rfl (pv 0)) (pg_tupk (K := K) (n := 2) rfl rfl (pgs_cons (pg_name (i := 2) sc_sheet_of.nd rfl (Or.inl rfl)) (pgs_cons (pg_name (i := 3) sc_sheet_of.nd rfl (Or.inl rfl)) pgs_nil)))
      (pss_l1 (ps_asg (pe_op op_add (pe_mk (K := K) rfl PySem.F.plainAttrs_dict PySem.F.slot_dict_get PySem.F.type_dict_get (mt_get2 hu) (pv 1) (pa_l2 (pv 2) pe_int)) (pv 3)) (pg_sub (pv 1) (pv 2) (set_dict hu)))))
      (ps_set (i := 4) sc_sheet_of.nd rfl (Or.inl rfl) pe_xnew)
      (ps_for PassesOwn.never rfl (pi_view (pe_m0k (K := K) rfl PySem.F.plainAttrs_dict PySem.F.slot_dict_items PySem.F.type_dict_items mt_items (pv 1))) (pg_tupk (K := K) (n := 2) rfl rfl (pgs_cons (pg_name (i := 2) sc_sheet_of.nd rfl (Or.inl rfl)) (pgs_cons (pg_name (i := 3) sc_sheet_of.nd rfl (Or.inl rfl)) pgs_nil)))
      (pss_l1 (ps_if (pt_cmpR op_ne (pv 3) pe_int (nomark _))
      (pss_l1 (ps_asg (pv 3) (pg_sub (pv 4) (pv 2) (set_dict hu))))
      pss_nil)))
      (ps_ret (pv 4))), ?_⟩
    walk_at "rx"
    intro p hp0
    have hl : us.length = ps.length := by
      have := hp.length
      rw [List.length_map] at this
      omega
    refine ⟨⟨_, SqL.of ((Same.upd hp0) _ _ ha)⟩, for_w (y_list K a us) (fun i σ H2 => ∃ x y ep, σ = [some (.ref a), some (.ref p), x, y, none] ∧ Same H H2 ∧ H2 p = some (.dX ep (iv (Sh.acc (ps.take i))))) ⟨none, none, 0, rfl, Same.upd hp0, upd_same⟩ ?_ ?_ ?_⟩
    · rintro i σ H2 _ ⟨x, y, ep, rfl, s2, e2⟩
      exact SqL.of (s2 _ _ ha)
    · rintro i σ H2 v H' hi ⟨x, y, ep, rfl, s2, e2⟩ ⟨rfl, hv⟩
      obtain ⟨kn, hkn⟩ : ∃ kn, ps[i]? = some kn := ⟨_, List.getElem?_eq_getElem (by omega)⟩
      obtain ⟨v', hv', t, key, rfl, ht, hk⟩ := Paired.get hp (i := i) (a := (kn.1, V.int kn.2)) (by rw [List.getElem?_map, hkn]; rfl)
      rw [hv] at hv'
      cases hv'
      have hk2 := hk.mono (fun b xs e => s2 b _ e)
      have hz2 : (Sh.acc (ps.take i)).length < sizeLine := by
        have h1 := Sh.length_acc (ps.take i)
        rw [List.length_take] at h1
        have := sizeLine_big
        omega
      refine ⟨t, _, rfl, SqT.of (s2 _ _ ht), rfl, ?_⟩
      walk_at "rx"
      refine ⟨ty_dct e2, get2I_of e2 hk2 ⟨_, rfl, putI_of e2 hk2 hz2 fun ep' => ?_⟩⟩
      refine ⟨s2.updN hp0, ep', ?_⟩
      rw [upd_same, Sh.acc_take_succ hkn]
      rfl
    · rintro σ H2 ⟨x, y, ep, rfl, s2, e2⟩
      rw [hl, List.take_length] at e2
      walk_at "rx"
      intro q hq
      have hpq : p ≠ q := ne_of_none e2 hq
      have hq0 : H q = none := s2.free hq
      have nd := Sh.nodup_acc ps
      have hzA := Sh.length_acc ps
      generalize hA : Sh.acc ps = A at *
      refine ⟨ty_dct (by rw [upd_ne hpq]; exact e2), items_of (by rw [upd_ne hpq]; exact e2) fun r hr => ⟨r, rfl, p, upd_same, ep, _, ?_, for_w (y_items p ep (iv A)) (fun i σ H3 => ∃ x y ep', σ = [some (.ref a), some (.ref p), x, y, some (.ref q)] ∧ Same H H3 ∧ H3 p = some (.dX ep (iv A)) ∧ H3 q = some (.dX ep' (iv ((A.take i).filter fun z => decide (z.2 ≠ 0))))) ?_ ?_ ?_ ?_⟩⟩
      · obtain ⟨h1, h2⟩ := upd_none hr
        rw [upd_ne (ne_of_none e2 h2), upd_ne hpq]; exact e2
      · obtain ⟨h1, h2⟩ := upd_none hr
        refine ⟨x, y, 0, rfl, ((s2.updT hq).updT hr), ?_, ?_⟩
        · rw [upd_ne (ne_of_none e2 h2), upd_ne hpq]; exact e2
        · rw [upd_ne (Ne.symm h1), upd_same]; rfl
      · rintro i σ H3 _ ⟨x, y, ep', rfl, s3, e3, e4⟩
        exact e3
      · rintro i σ H3 v H' hi ⟨x, y, ep', rfl, s3, e3, e4⟩ ⟨t, kk, vv, yy, rfl, ht, hi2, hk, rfl⟩
        rw [List.length_map] at hi
        rw [List.getElem?_map] at hi2
        obtain ⟨kn, hkn, hkv⟩ := Option.map_eq_some_iff.mp hi2
        cases hkv
        have s4 := Same.upd (o := .tup [yy, .int kn.2]) ht
        have hk2 : KeyV (upd H3 t (.tup [yy, .int kn.2])) kn.1 yy := hk.mono (fun b xs e => s4 b _ e)
        have hz2 : ((A.take i).filter fun z => decide (z.2 ≠ 0)).length < sizeLine := by
          have h1 := List.length_filter_le (fun z : KD × Int => decide (z.2 ≠ 0)) (A.take i)
          rw [List.length_take] at h1
          have := sizeLine_big
          omega
        refine ⟨t, _, rfl, SqT.of upd_same, rfl, ?_⟩
        walk_at "rx"
        refine ite2 (fun h => ?_) (fun h => ?_)
        · refine putI_of (s4 _ _ e4) hk2 hz2 fun ep2 => ?_
          refine ⟨(s3.trans s4).updN hq0, ?_, ep2, ?_⟩
          · rw [upd_ne hpq]; exact s4 _ _ e3
          · rw [upd_same, List.take_add_one, hkn, List.filter_append]
            have hnot : kn.1 ∉ (((A.take i).filter fun z => decide (z.2 ≠ 0))).map (·.1) := fun hm => by
              obtain ⟨z, hz, hz1⟩ := List.mem_map.mp hm
              have hzt := (List.mem_filter.mp hz).1
              obtain ⟨j, hj⟩ := List.mem_iff_getElem?.mp hzt
              have hj' : j < i := by
                have := (List.getElem?_eq_some_iff.mp hj).1
                rw [List.length_take] at this
                omega
              rw [List.getElem?_take_of_lt hj'] at hj
              have h1 : (A.map (·.1))[j]? = some kn.1 := by rw [List.getElem?_map, hj]; simp [hz1]
              have h2 : (A.map (·.1))[i]? = some kn.1 := by rw [List.getElem?_map, hkn]; rfl
              exact absurd (nodup_ix' nd h1 h2) (by omega)
            rw [show Sh.put ((A.take i).filter fun z => decide (z.2 ≠ 0)) kn.1 kn.2 = ((A.take i).filter fun z => decide (z.2 ≠ 0)) ++ [(kn.1, kn.2)] from by
              unfold Sh.put; rw [if_neg (fun z => hnot ((Sh.any_iff _ _).mp z))]]
            have : (decide (kn.2 ≠ 0)) = true := by simpa using h
            rw [show (some kn).toList = [kn] from rfl, List.filter_cons, if_pos this]
            rfl
        · refine ⟨s3.trans s4, s4 _ _ e3, ep', ?_⟩
          rw [s4 _ _ e4, List.take_add_one, hkn, List.filter_append]
          have : (decide (kn.2 ≠ 0)) = false := by simpa using h
          rw [show (some kn).toList = [kn] from rfl, List.filter_cons, if_neg (by rw [this]; decide), List.filter_nil, List.append_nil]
      · rintro σ H3 ⟨x, y, ep', rfl, s3, e3, e4⟩
        walk_at "rx"
        refine k q ep' H3 s3 hq0 ?_
        rw [e4, show (iv A).length = A.length from List.length_map _, List.take_length, ← hA]
        rfl
def sp_gives : Sp := fun vs H Q _ => ∃ v nm ls, vs = [v] ∧ DealAt H v nm ls ∧ ls.length ≤ 1000 ∧ ∀ p ep H', Same H H' → H p = none → H' p = some (.dX ep (iv (Sh.sheet (ls.map gP)))) → Q (.ref p) H'
theorem ok_gives (T : Txt K mg) (D : Dfn K mg "gives" s_gives ["deal"]) (H_sheet_of : Has P w K mg base 1 "sheet_of" ["pairs"] sp_sheet_of) : Has P w K mg base 2 "gives" ["deal"] sp_gives := by
  refine D.has sc_gives (fun vs H Q E h => ?_) (fun f cdv A outer s H vs Q E hr h => ?_)
  · obtain ⟨v, nm, ls, rfl, _⟩ := h
    rfl
  · obtain ⟨v, nm, ls, rfl, hD, hz, k⟩ := h
    have hu := hu_of hr
    have hu64 := hr.units
    refine ⟨_, (pss_l1 (ps_ret (pe_callH H_sheet_of (hr.mono (by decide)) rfl (pa_l1 (pe_comp (show CompSc ["deal"] ["giver", "taker", "ware", "amount"] (defScope s_gives) _ [none, none, none, none] from by exact ⟨rfl, by decide +kernel, by decide +kernel, by decide +kernel, by decide +kernel⟩) (pi_tupk (K := K) rfl (pe_ix (ix_tupk (K := K) rfl) (pv 0) pe_int (fun _ _ => rfl))) (fun _ _ _ => (pg_tupk (K := K) (n := 4) rfl rfl (pgs_cons (pg_name (i := 0) (show List.Nodup [("giver" : Str), ("taker" : Str), ("ware" : Str), ("amount" : Str)] from by decide +kernel) rfl (Or.inl rfl)) (pgs_cons (pg_name (i := 1) (show List.Nodup [("giver" : Str), ("taker" : Str), ("ware" : Str), ("amount" : Str)] from by decide +kernel) rfl (Or.inl rfl)) (pgs_cons (pg_name (i := 2) (show List.Nodup [("giver" : Str), ("taker" : Str), ("ware" : Str), ("amount" : Str)] from by decide +kernel) rfl (Or.inl rfl)) (pgs_cons (pg_name (i := 3) (show List.Nodup [("giver" : Str), ("taker" : Str), ("ware" : Str), ("amount" : Str)] from by decide +kernel) rfl (Or.inl rfl)) pgs_nil)))))) (fun _ _ _ => pf_nil) (fun _ _ _ => (pe_tup (pa_l2 (pe_tup (pa_l2 (pv 0) (pv 2))) (pv 3))))))))), ?_⟩
    obtain ⟨t, lt, vs, rfl, ht, hlt, hL⟩ := hD
    walk_at "rx"
    refine ixT_of ht (by rfl) ⟨lt, rfl, ⟨_, SqT.of hlt⟩, comp_w (y_tup K lt vs) (fun i σ acc H3 => (∃ x y z u, σ = [x, y, z, u]) ∧ Same H H3 ∧ PairsAt H3 (iv ((ls.take i).map gP)) acc) ?_ ?_ ?_ ?_⟩
    · exact ⟨⟨none, none, none, none, rfl⟩, Same.refl _, .nil⟩
    · rintro i σ acc H3 hi ⟨_, s3, h3⟩
      refine ⟨SqT.of (s3 _ _ hlt), fun hlt => ?_⟩
      have := h3.len
      rw [List.length_map, List.length_map, List.length_take] at this
      have := sizeLine_big
      omega
    · rintro i σ acc H3 v H' hi ⟨⟨x, y, z, u, rfl⟩, s3, h3⟩ ⟨rfl, hv⟩
      obtain ⟨l, hl⟩ : ∃ l, ls[i]? = some l := ⟨_, List.getElem?_eq_getElem (by rw [hL.len]; exact hi)⟩
      obtain ⟨v', hv', t', e', ht'⟩ := Paired.get hL hl
      rw [hv] at hv'
      cases hv'
      subst e'
      refine ⟨t', _, rfl, SqT.of (s3 _ _ ht'), rfl, ?_⟩
      walk_at "rx"
      intro q hq q2 hq2
      have s4 := Same.upd (o := .tup [.str l.1, .str l.2.2.1]) hq
      have s5 := Same.upd (o := .tup [.ref q, .int l.2.2.2]) hq2
      refine ⟨(s3.trans s4).trans s5, ?_⟩
      rw [List.take_add_one, hl, List.map_append, iv_append]
      exact (h3.same (s4.trans s5)).append (.cons ⟨q2, .ref q, rfl, upd_same, q, rfl, s5 _ _ upd_same⟩ .nil)
    · rintro σ acc H3 ⟨_, s3, h3⟩ p hp
      rw [← hL.len, List.take_length] at h3
      have s4 := Same.upd (o := .lst acc) hp
      refine ⟨p, acc, ls.map gP, rfl, upd_same, h3.same s4, by rw [List.length_map]; omega, fun p' ep' H' s6 n6 e6 => k p' ep' H' ((s3.trans s4).trans s6) ((s3.trans s4).free n6) e6⟩
def sp_rows_of : Sp := fun vs H Q _ => ∃ v nm ls, vs = [v] ∧ DealAt H v nm ls ∧ ls.length ≤ 8 ∧ (∀ l ∈ ls, 1 ≤ l.2.2.2) ∧ ∀ p rs ks H', Same H H' → H p = none → H' p = some (.lst (rs.map V.ref)) → TwosAt H' ks rs → ks.length ≤ 8 → ks.Pairwise (fun x y => KS.lt2 x y = true) → (∀ k, k ∈ ks ↔ k ∈ givers ls) → Q (.ref p) H'
theorem ok_rows_of (T : Txt K mg) (D : Dfn K mg "rows_of" s_rows_of ["deal"]) (H_gives : Has P w K mg base 2 "gives" ["deal"] sp_gives) : Has P w K mg base 3 "rows_of" ["deal"] sp_rows_of := by
  refine D.has sc_rows_of (fun vs H Q E h => ?_) (fun f cdv A outer s H vs Q E hr h => ?_)
  · obtain ⟨v, nm, ls, rfl, _⟩ := h
    rfl
  · obtain ⟨v, nm, ls, rfl, hD, hz, hp1, k⟩ := h
    have hu := hu_of hr
    have hu64 := hr.units
    refine ⟨_, (pss_l1 (ps_ret (pe_cB (call_sorted_d rfl) (by rfl) T.b_sorted (by rfl) (pa_l1 (pe_callH H_gives (hr.mono (by decide)) rfl (pa_l1 (pv 0))))))), ?_⟩
    walk_at "rx"
    refine ⟨v, nm, ls, rfl, hD, by omega, fun p ep H1 s1 n1 h1 => ?_⟩
    have hsl := Sh.length_sheet (ls.map gP)
    rw [List.length_map] at hsl
    have hin : ∀ kn ∈ Sh.sheet (ls.map gP), ∃ l ∈ ls, kn.1 = shelf l.1 l.2.2.1 := fun kn hkn => by
      obtain ⟨h1, _⟩ := Sh.mem_sheet hkn
      obtain ⟨q, hq, e⟩ := List.mem_map.mp h1
      obtain ⟨l, hl, rfl⟩ := List.mem_map.mp hq
      exact ⟨l, hl, e.symm⟩
    have hkeys : (iv (Sh.sheet (ls.map gP))).map (·.1) = ((Sh.sheet (ls.map gP)).map fun kn => unsh kn.1).map shelfP := by
      unfold iv
      rw [List.map_map, List.map_map]
      refine List.map_congr_left fun kn hkn => ?_
      obtain ⟨l, _, e⟩ := hin kn hkn
      show kn.1 = shelfP (unsh kn.1)
      rw [e]
      rfl
    have hlen : (iv (Sh.sheet (ls.map gP))).length ≤ 8 := by unfold iv; rw [List.length_map]; omega
    refine ⟨p, ep, _, _, rfl, h1, hkeys, by omega, fun l rs ks' n2 hperm hpw hP => ?_⟩
    have s2 := Same.upd (o := .lst (rs.map V.ref)) n2
    refine k l rs ks' _ (s1.trans s2) (s1.free n2) upd_same (TwosAt.same hP s2) ?_ hpw (fun k => ?_)
    · rw [hperm.length_eq, List.length_map]; omega
    · rw [hperm.mem_iff]
      constructor
      · intro hk
        obtain ⟨kn, hkn, rfl⟩ := List.mem_map.mp hk
        obtain ⟨l, hl, e⟩ := hin kn hkn
        rw [e]
        exact List.mem_map.mpr ⟨l, hl, rfl⟩
      · intro hk
        obtain ⟨l, hl, rfl⟩ := List.mem_map.mp hk
        have hpos : 1 ≤ Sh.sumOf (ls.map gP) (shelf l.1 l.2.2.1) := by
          refine sumOf_pos _ _ (fun q hq => ?_) (List.mem_map.mpr ⟨gP l, List.mem_map.mpr ⟨l, hl, rfl⟩, rfl⟩)
          obtain ⟨m, hm, rfl⟩ := List.mem_map.mp hq
          exact hp1 m hm
        rw [← Sh.get_sheet] at hpos
        have hm := Sh.mem_look (look_of_get (s := Sh.sheet (ls.map gP)) (k := shelf l.1 l.2.2.1) (by omega))
        exact List.mem_map.mpr ⟨_, hm, rfl⟩

def sp_entered (K : PySem.W.Frag) : Sp := fun vs H Q _ => ∃ d es F H0 v nm ls U m, vs = [.ref d, v] ∧ RF H0 H d es F ∧ FOk U m F ∧ U.length ≤ 100 ∧ m ≤ 1000 ∧ DealAt H v nm ls ∧ ls.length ≤ 8 ∧ (∀ l ∈ ls, 1 ≤ l.2.2.2) ∧ ∀ p es' H', Same H H' → H p = none → RF H H' p es' (addF F nm (givers ls)) → Q (.ref p) H'
theorem ok_entered (T : Txt K mg) (D : Dfn K mg "entered" s_entered ["rows", "deal"]) (H_copied : Has P w K mg base 1 "copied" ["rows"] (sp_copied K)) (H_rows_of : Has P w K mg base 3 "rows_of" ["deal"] sp_rows_of) : Has P w K mg base 4 "entered" ["rows", "deal"] (sp_entered K) := by
  refine D.has sc_entered (fun vs H Q E h => ?_) (fun f cdv A outer s H vs Q E hr h => ?_)
  · obtain ⟨d, es, F, H0, v, nm, ls, U, m, rfl, _⟩ := h
    rfl
  · obtain ⟨d, es, F, H0, v, nm, ls, U, m, rfl, hR, hF, hU, hm, hD, hl8, hp1, k⟩ := h
    have hu := hu_of hr
    have hu64 := hr.units
    refine ⟨_, (pss_l3 (ps_set (i := 2) sc_entered.nd rfl (Or.inl rfl) (pe_callH H_copied (hr.mono (by decide)) rfl (pa_l1 (pv 0))))
      (ps_for PassesOwn.never rfl (pi_listk (K := K) rfl (pe_callH H_rows_of (hr.mono (by decide)) rfl (pa_l1 (pv 1)))) (pg_name (i := 3) sc_entered.nd rfl (Or.inl rfl))
      (pss_l1 (ps_asg (pe_op op_cat (pe_mk (K := K) rfl PySem.F.plainAttrs_dict PySem.F.slot_dict_get PySem.F.type_dict_get (mt_get2 hu) (pv 2) (pa_l2 (pv 3) (pe_lst pa_nil))) (pe_lst (pa_l1 (pe_ix (ix_tupk (K := K) rfl) (pv 1) pe_int (fun _ _ => rfl))))) (pg_sub (pv 2) (pv 3) (set_dict hu)))))
      (ps_ret (pv 2))), ?_⟩
    walk_at "rx"
    have hfew := hR.few hF
    refine ⟨d, es, F, H0, rfl, hR, by omega, fun p es1 H1 s1 np hR1 => ?_⟩
    refine ⟨v, nm, ls, rfl, hD.same s1, hl8, hp1, fun q rs ks H2 s2 nq hq hT hkl hpw hmem => ?_⟩
    have hks : ks.Nodup := hpw.imp fun {a b} h e => by rw [e, lt2_irr] at h; cases h
    have hR2 := hR1.same s2
    obtain ⟨ep2, hd2⟩ := hR2.at_.dct
    have hD2 := (hD.same s1).same s2
    have hfew1 := hR1.few hF
    refine ⟨q, rfl, ⟨_, SqL.of hq⟩, for_w (y_list K q (rs.map V.ref)) (fun i σ H3 => ∃ o es3, σ = [some (.ref d), some v, some (.ref p), o] ∧ Same H H3 ∧ Mt [p] H2 H3 ∧ RF H H3 p es3 (addF F nm (ks.take i)) ∧ es3.length ≤ 100 + i) ?_ ?_ ?_ ?_⟩
    · exact ⟨none, es1, rfl, s1.trans s2, Mt.refl _ _, hR2.congr (fun k' => by unfold addF; rw [List.take_zero, if_neg (by simp)]), by omega⟩
    · rintro i σ H3 _ ⟨_, _, _, _, m3, _⟩
      exact SqL.of (m3 _ _ (by simp; intro e; rw [e, hd2] at hq; cases hq) hq)
    · rintro i σ H3 x H' hi ⟨o, es3, rfl, s3, m3, hR3, hl3⟩ ⟨rfl, hx⟩
      rw [List.getElem?_map] at hx
      obtain ⟨r, hr, rfl⟩ := Option.map_eq_some_iff.mp hx
      obtain ⟨kk, hk⟩ : ∃ kk, ks[i]? = some kk := ⟨_, List.getElem?_eq_getElem (by rw [Paired.length hT]; exact (List.getElem?_eq_some_iff.mp hr).1)⟩
      obtain ⟨r', hr', hkr⟩ := Paired.get hT hk
      rw [hr] at hr'
      cases hr'
      have keep : ∀ {b : Addr} {xs : List V}, H2 b = some (.tup xs) → H' b = some (.tup xs) := fun {b xs} hb => m3 b _ (by simp; intro e; rw [e, hd2] at hb; cases hb) hb
      have hi8 : i < 8 := by
        have := (List.getElem?_eq_some_iff.mp hk).1
        omega
      obtain ⟨dt, lt, us, rfl, hdt, _, _⟩ := hD2
      obtain ⟨ep3, hd3⟩ := hR3.at_.dct
      have hsb := sizeLine_big
      have hFl : (addF F nm (ks.take i) kk).length ≤ 1001 := by
        have := hF.len kk
        unfold addF
        split
        · rw [List.length_append]; simp; omega
        · omega
      walk_at "rx"
      refine ⟨ty_dct hd3, fun pe hpe => ?_⟩
      have s4 := Same.upd (o := .lst []) hpe
      have hR4 := hR3.same s4
      obtain ⟨ep4, hd4⟩ := hR4.at_.dct
      obtain ⟨b, hb1, hb2⟩ := hR4.get kk (pe := pe) upd_same
      refine get2_of hd4 (keyV_two (s4 _ _ (keep hkr))) ?_
      rw [hb1]
      refine ixT_of (s4 _ _ (keep hdt)) (v := .str nm) (atI_nat (j := 0) rfl) fun pn hpn => ?_
      have s5 := s4.updT (o := .lst [.str nm]) hpn
      refine cat_of (Same.upd hpn _ _ hb2) upd_same (by rw [List.length_map]; simp; omega) fun r' hr' => ?_
      have s6 := s5.updT (o := .lst ((addF F nm (ks.take i) kk).map V.str ++ [.str nm])) hr'
      have hR6 := hR3.same s6
      obtain ⟨ep6, hd6⟩ := hR6.at_.dct
      refine put_of hd6 (keyV_two (s6 _ _ (keep hkr))) (by rw [rwV_len]; omega) fun ep' => ?_
      refine ⟨(s3.trans s6).updN np, (m3.trans (Mt.of s6)).trans (Mt.upd (by simp)), putR es3 kk r' (addF F nm (ks.take i) kk ++ [nm]), RF.congr (hR6.put (k := kk) (zs := addF F nm (ks.take i) kk ++ [nm]) (by rw [upd_same, List.map_append]; rfl) (by simp) ((s3.trans s5).free hr') ((hR3.same s5).notfree hr') ep') (fun k' => addF_succ hks hk k'), Nat.le_trans (putR_len ..) (by omega)⟩
    · rintro σ H3 ⟨o, es3, rfl, s3, m3, hR3, hl3⟩
      rw [List.length_map, ← Paired.length hT, List.take_length] at hR3
      walk_at "rx"
      exact k p es3 H3 s3 np (hR3.congr fun k' => addF_mem hmem k')
def sp__law_amount : Sp := fun vs H Q _ => ∃ c : Int, vs = [.int c] ∧ ∀ n : Int, 1 ≤ n → n < 10 ^ 60 → Q (.int n) H
theorem ok__law_amount (T : Txt K mg) (D : Dfn K mg "_law_amount" s__law_amount ["cell"])  : Has P w K mg base 1 "_law_amount" ["cell"] sp__law_amount := by
  refine D.has sc__law_amount (fun vs H Q E h => ?_) (fun f cdv A outer s H vs Q E hr h => ?_)
  · obtain ⟨c, rfl, _⟩ := h
    rfl
  · obtain ⟨c, rfl, k⟩ := h
    have hu := hu_of hr
    have hu64 := hr.units
    refine ⟨_, (pss_l3 (ps_if (pt_cmpR op_lt (pe_op op_mod (pv 0) pe_int) pe_int (nomark _))
      (pss_l1 (ps_ret (pe_op op_add pe_int (pe_op op_mod (pe_op op_fdiv (pv 0) pe_int) pe_int))))
      pss_nil)
      (ps_if (pt_cmpR op_eq (pe_op op_mod (pv 0) pe_int) pe_int (nomark _))
      (pss_l1 (ps_ret (pe_op op_add pe_int (pe_op op_mod (pe_op op_fdiv (pv 0) pe_int) (pe_op op_pow pe_int pe_int)))))
      pss_nil)
      (ps_ret (pe_op op_add pe_int (pe_op op_mod (pe_op op_fdiv (pv 0) pe_int) (pe_op op_pow pe_int pe_int))))), ?_⟩
    walk_at "rx"
    refine ite2 (fun _ => ?_) (fun _ => ite2 (fun _ => ?_) (fun _ => ?_))
    · exact k _ (by omega) (by omega)
    · exact k _ (by omega) (by omega)
    · exact k _ (by omega) (by omega)
def LegIn (hs ws : List Str) (l : Leg) : Prop := l.1 ∈ hs ∧ l.2.1 ∈ hs ∧ l.2.2.1 ∈ ws ∧ 1 ≤ l.2.2.2
def sp__law_legs (K : PySem.W.Frag) : Sp := fun vs H Q _ => ∃ a ns, ∃ sp mn : Int, ∃ ph hs pw ws, vs = [.ref a, .int sp, .int mn, .ref ph, .ref pw] ∧ H a = some (.lst (List.map V.int ns)) ∧ 0 ≤ sp ∧ sp ≤ 100 ∧ 1 ≤ mn ∧ mn ≤ 8 ∧ H ph = some (.lst (List.map V.str hs)) ∧ hs.length = 4 ∧ H pw = some (.lst (List.map V.str ws)) ∧ ws.length = 3 ∧
  ∀ p us ls H', Same H H' → H p = none → H' p = some (.tup us) → LegsAt H' ls us → (ls.length : Int) = mn → (∀ l ∈ ls, LegIn hs ws l) → Q (.ref p) H'
theorem ok__law_legs (T : Txt K mg) (D : Dfn K mg "_law_legs" s__law_legs ["cells", "spot", "many", "houses", "wares"]) (H__law_cell_at : Has P w K mg base 1 "_law_cell_at" ["script", "k"] (sp__law_cell_at K)) (H__law_amount : Has P w K mg base 1 "_law_amount" ["cell"] sp__law_amount) : Has P w K mg base 2 "_law_legs" ["cells", "spot", "many", "houses", "wares"] (sp__law_legs K) := by
  refine D.has sc__law_legs (fun vs H Q E h => ?_) (fun f cdv A outer s H vs Q E hr h => ?_)
  · obtain ⟨a, ns, sp, mn, ph, hs, pw, ws, rfl, _⟩ := h
    rfl
  · obtain ⟨a, ns, sp, mn, ph, hs, pw, ws, rfl, ha, hsp, hsp2, hm1, hm8, hph, hhl, hpw, hwl, k⟩ := h
    have hu := hu_of hr
    have hu64 := hr.units
    refine ⟨_, (pss_l3 (ps_set (i := 5) sc__law_legs.nd rfl (Or.inl rfl) (pe_lst pa_nil))
      (ps_for PassesOwn.never rfl (pi_range3 rfl T.b_range (pa_l3 (pv 1) (pe_op op_add (pv 1) (pe_op op_mul pe_int (pv 2))) pe_int)) (pg_name (i := 6) sc__law_legs.nd rfl (Or.inl rfl))
      (pss_l5 (ps_set (i := 7) sc__law_legs.nd rfl (Or.inl rfl) (pe_op op_mod (pe_op op_mul (pe_callH H__law_cell_at (hr.mono (by decide)) rfl (pa_l2 (pv 0) (pv 6))) pe_int) pe_int))
      (ps_set (i := 8) sc__law_legs.nd rfl (Or.inl rfl) (pe_op op_mod (pv 7) pe_int))
      (ps_set (i := 9) sc__law_legs.nd rfl (Or.inl rfl) (pe_op op_mod (pe_op op_add (pe_op op_add (pv 8) pe_int) (pe_op op_mod (pe_op op_fdiv (pv 7) pe_int) pe_int)) pe_int))
      (ps_set (i := 10) sc__law_legs.nd rfl (Or.inl rfl) (pe_callH H__law_amount (hr.mono (by decide)) rfl (pa_l1 (pe_callH H__law_cell_at (hr.mono (by decide)) rfl (pa_l2 (pv 0) (pe_op op_add (pv 6) pe_int))))))
      (ps_expr (pe_mk (K := K) rfl PySem.F.plainAttrs_list PySem.F.slot_list_append PySem.F.type_list_append mr_append (pv 5) (pa_l1 (pe_tup (pa_l4 (pe_ix (ix_listk (K := K) rfl) (pv 3) (pv 8) (fun _ _ => rfl)) (pe_ix (ix_listk (K := K) rfl) (pv 3) (pv 9) (fun _ _ => rfl)) (pe_ix (ix_listk (K := K) rfl) (pv 4) (pe_op op_mod (pe_op op_fdiv (pv 7) pe_int) pe_int) (fun _ _ => rfl)) (pv 10))))))))
      (ps_ret (pe_cT (call_tuple_ofk (K := K) rfl) (by rfl) T.b_tuple (by rfl) (pa_l1 (pv 5))))), ?_⟩
    walk_at "rx"
    intro p hp
    have s1 := Same.upd (o := .lst []) hp
    refine ⟨sp, sp + 2 * mn, 2, ⟨rfl, rfl, rfl⟩, by omega, ?_⟩
    generalize hcn : (if sp < sp + 2 * mn then (sp + 2 * mn - sp - 1) / 2 + 1 else 0).toNat = cn
    have hcn1 : (cn : Int) = mn := by rw [← hcn, if_pos (by omega)]; omega
    refine for_w (y_step sp 2 cn) (fun i σ H2 => ∃ o1 o2 o3 o4 o5 us ls, σ = [some (.ref a), some (.int sp), some (.int mn), some (.ref ph), some (.ref pw), some (.ref p), o1, o2, o3, o4, o5] ∧ Same H H2 ∧ H2 p = some (.lst us) ∧ LegsAt H2 ls us ∧ ls.length = i ∧ ∀ l ∈ ls, LegIn hs ws l) ?_ ?_ ?_ ?_
    · exact ⟨none, none, none, none, none, [], [], rfl, s1, upd_same, .nil, rfl, by simp⟩
    · intros; trivial
    · rintro i σ H2 x H' hi ⟨o1, o2, o3, o4, o5, us, ls, rfl, s2, hu, hL, hll, hli⟩ ⟨rfl, rfl⟩
      walk_at "rx"
      refine ⟨a, ns, _, rfl, SqL.of (s2 _ _ ha), by omega, fun c1 => ?_⟩
      try walk_at "rx"
      generalize hone : c1 * 44021 % 2147483629 = one
      refine ⟨a, ns, _, rfl, SqL.of (s2 _ _ ha), by omega, fun c2 => ?_⟩
      refine ⟨c2, rfl, fun am am1 am2 => ?_⟩
      obtain ⟨a1, m1⟩ := at_strs (ss := hs) (j := one % 4) (by omega) (by rw [hhl]; omega)
      obtain ⟨a2, m2⟩ := at_strs (ss := hs) (j := (one % 4 + 1 + one / 4 % 3) % 4) (by omega) (by rw [hhl]; omega)
      obtain ⟨a3, m3⟩ := at_strs (ss := ws) (j := one / 12 % 3) (by omega) (by rw [hwl]; omega)
      try walk_at "rx"
      refine ⟨ty_lst hu, ixL_of (s2 _ _ hph) a1 (ixL_of (s2 _ _ hph) a2 (ixL_of (s2 _ _ hpw) a3 fun t ht => ?_))⟩
      generalize hs.getD (one % 4).toNat "" = n1 at m1
      generalize hs.getD ((one % 4 + 1 + one / 4 % 3) % 4).toNat "" = n2 at m2
      generalize ws.getD (one / 12 % 3).toNat "" = n3 at m3
      have s3 := Same.upd (o := .tup [.str n1, .str n2, .str n3, .int am]) ht
      have hul := hL.len
      refine append_of (s3 _ _ hu) (by have := sizeLine_big; omega) ?_
      have hpne : p ≠ t := fun e => by rw [← e, hu] at ht; cases ht
      refine ⟨(s2.trans s3).updN hp, _, upd_same, ls ++ [(n1, n2, n3, am)], ?_, by rw [List.length_append, hll]; rfl, fun l hl => ?_⟩
      · refine Paired.append (LegsAt.updL (hL.same s3) fun us' q => by rw [s3 _ _ hu] at q; cases q) (.cons ⟨t, rfl, ?_⟩ .nil)
        rw [upd_ne (Ne.symm hpne), upd_same]
      · rcases List.mem_append.mp hl with h | h
        · exact hli l h
        · rw [List.mem_singleton.mp h]; exact ⟨m1, m2, m3, am1⟩
    · rintro σ H2 ⟨o1, o2, o3, o4, o5, us, ls, rfl, s2, hu, hL, hll, hli⟩
      walk_at "rx"
      refine ⟨p, us, rfl, .inl ⟨SqL.of hu, fun q hq => ?_⟩⟩
      have s3 := Same.upd (o := .tup us) hq
      exact k q us ls _ (s2.trans s3) (s2.free hq) upd_same (hL.same s3) (by omega) hli
theorem ok_law {f : Addr} {fd : FuncData} (F : Fun K "law" "law" s_law f fd) (T : Txt K mg) (H__law_names : Has P w K mg base 1 "_law_names" ["cell", "many"] sp__law_names) (H__law_rows_same : Has P w K mg base 1 "_law_rows_same" ["found", "due"] (sp__law_rows_same K)) (H__law_all_stay : Has P w K mg base 2 "_law_all_stay" ["held"] (sp__law_all_stay K)) (H__law_cell_at : Has P w K mg base 1 "_law_cell_at" ["script", "k"] (sp__law_cell_at K)) (H__law_copy : Has P w K mg base 1 "_law_copy" ["rows"] sp__law_copy) (H__law_spoilt : Has P w K mg base 1 "_law_spoilt" ["rows"] (sp__law_spoilt K)) (H__law_stands : Has P w K mg base 1 "_law_stands" ["rows", "name"] (sp__law_stands K)) (H__law_some : Has P w K mg base 1 "_law_some" ["names", "cell"] (sp__law_some K)) (H__law_without : Has P w K mg base 1 "_law_without" ["rows", "some"] (sp__law_without K)) (H_left : Has P w K mg base 2 "left" ["rows", "names"] (sp_left K)) (H__law_gives : Has P w K mg base 1 "_law_gives" ["deal"] (sp__law_gives K)) (H_entered : Has P w K mg base 4 "entered" ["rows", "deal"] (sp_entered K)) (H__law_legs : Has P w K mg base 2 "_law_legs" ["cells", "spot", "many", "houses", "wares"] (sp__law_legs K)) : FnOk P w K mg base CX0 5 f fd ["script"] (spLaw K) := by
  refine F.ok sc_law (fun vs H Q E h => ?_) (fun cdv A outer s H vs Q E hr h => ?_)
  · obtain ⟨a, ns, rfl, _⟩ := h
    rfl
  · obtain ⟨a, ns, rfl, hS, hlen, k⟩ := h
    have hu := hu_of hr
    have hu64 := hr.units
    refine ⟨_, (pss_l9 (ps_set (i := 1) sc_law.nd rfl (Or.inl rfl) (pe_callH H__law_names (hr.mono (by decide)) rfl (pa_l2 (pe_callH H__law_cell_at (hr.mono (by decide)) rfl (pa_l2 (pv 0) pe_int)) pe_int)))
      (ps_set (i := 2) sc_law.nd rfl (Or.inl rfl) (pe_callH H__law_names (hr.mono (by decide)) rfl (pa_l2 (pe_callH H__law_cell_at (hr.mono (by decide)) rfl (pa_l2 (pv 0) pe_int)) pe_int)))
      (ps_set (i := 3) sc_law.nd rfl (Or.inl rfl) (pe_callH H__law_names (hr.mono (by decide)) rfl (pa_l2 (pe_callH H__law_cell_at (hr.mono (by decide)) rfl (pa_l2 (pv 0) pe_int)) pe_int)))
      (ps_set (i := 4) sc_law.nd rfl (Or.inl rfl) (pe_slice (sl_listk (K := K) rfl) (pv 0) (po_some pe_int) (po_some pe_int)))
      (ps_set (i := 5) sc_law.nd rfl (Or.inl rfl) pe_xnew)
      (ps_set (i := 6) sc_law.nd rfl (Or.inl rfl) (pe_lst pa_nil))
      (ps_set (i := 7) sc_law.nd rfl (Or.inl rfl) pe_int)
      (ps_while PassesOwn.never (pt_cmpR op_lt (pv 7) (pe_cB (call_len_seqk (K := K) rfl) (by rfl) T.b_len (by rfl) (pa_l1 (pv 4))) (nomark _)) (pss_l8 (ps_set (i := 8) sc_law.nd rfl (Or.inl rfl) (pe_op op_mod (pe_op op_mul (pe_ix (ix_listk (K := K) rfl) (pv 4) (pv 7) (fun _ _ => rfl)) pe_int) pe_int))
      (ps_set (i := 9) sc_law.nd rfl (Or.inl rfl) (pe_ix (ix_listk (K := K) rfl) (pv 3) (pe_op op_mod (pv 8) pe_int) (fun _ _ => rfl)))
      (ps_set (i := 10) sc_law.nd rfl (Or.inl rfl) (pe_callH H__law_copy (hr.mono (by decide)) rfl (pa_l1 (pv 5))))
      (ps_if (PW.pt (pw_or (pt_cmpR op_eq (pe_op op_mod (pe_op op_fdiv (pv 8) pe_int) pe_int) pe_int (nomark _)) (pw_or1 (pt_val (pe_callH H__law_stands (hr.mono (by decide)) rfl (pa_l2 (pv 5) (pv 9)))))))
      (pss_l7 (ps_set (i := 11) sc_law.nd rfl (Or.inl rfl) (pe_callH H__law_some (hr.mono (by decide)) rfl (pa_l2 (pv 3) (pe_callH H__law_cell_at (hr.mono (by decide)) rfl (pa_l2 (pv 4) (pe_op op_add (pv 7) pe_int))))))
      (ps_set (i := 12) sc_law.nd rfl (Or.inl rfl) (pe_callH H__law_without (hr.mono (by decide)) rfl (pa_l2 (pv 5) (pv 11))))
      (ps_set (i := 13) sc_law.nd rfl (Or.inl rfl) (pe_cT (call_list_ofk (K := K) rfl) (by rfl) T.b_list (by rfl) (pa_l1 (pv 11))))
      (ps_set (i := 14) sc_law.nd rfl (Or.inl rfl) (pe_callH H_left (hr.mono (by decide)) rfl (pa_l2 (pv 10) (pv 13))))
      (ps_if (pt_cmpR (op_neD hu64) (pv 13) (pv 11) (nomark _))
      (pss_l1 (ps_ret pe_bl))
      pss_nil)
      (ps_expr (pe_mk (K := K) rfl PySem.F.plainAttrs_list PySem.F.slot_list_append PySem.F.type_list_append mr_append (pv 13) (pa_l1 pe_str)))
      (ps_set (i := 7) sc_law.nd rfl (Or.inl rfl) (pe_op op_add (pv 7) pe_int)))
      (pss_l5 (ps_set (i := 15) sc_law.nd rfl (Or.inl rfl) (pe_tup (pa_l2 (pv 9) (pe_callH H__law_legs (hr.mono (by decide)) rfl (pa_l5 (pv 4) (pe_op op_add (pv 7) pe_int) (pe_ix (ix_listk (K := K) rfl) (pe_lst (pa_l4 pe_int pe_int pe_int pe_int)) (pe_op op_mod (pe_op op_fdiv (pv 8) pe_int) pe_int) (fun _ _ => rfl)) (pv 1) (pv 2))))))
      (ps_set (i := 12) sc_law.nd rfl (Or.inl rfl) (pe_callH H__law_copy (hr.mono (by decide)) rfl (pa_l1 (pv 5))))
      (ps_for PassesOwn.never rfl (pi_listk (K := K) rfl (pe_callH H__law_gives (hr.mono (by decide)) rfl (pa_l1 (pv 15)))) (pg_name (i := 16) sc_law.nd rfl (Or.inl rfl))
      (pss_l1 (ps_asg (pe_op op_cat (pe_mk (K := K) rfl PySem.F.plainAttrs_dict PySem.F.slot_dict_get PySem.F.type_dict_get (mt_get2 hu) (pv 12) (pa_l2 (pv 16) (pe_lst pa_nil))) (pe_lst (pa_l1 (pv 9)))) (pg_sub (pv 12) (pv 16) (set_dict hu)))))
      (ps_set (i := 14) sc_law.nd rfl (Or.inl rfl) (pe_callH H_entered (hr.mono (by decide)) rfl (pa_l2 (pv 10) (pv 15))))
      (ps_set (i := 7) sc_law.nd rfl (Or.inl rfl) (pe_op op_add (pe_op op_add (pv 7) pe_int) (pe_op op_mul pe_int (pe_cB (call_len_seqk (K := K) rfl) (by rfl) T.b_len (by rfl) (pa_l1 (pe_ix (ix_tupk (K := K) rfl) (pv 15) pe_int (fun _ _ => rfl)))))))))
      (ps_if (PW.pt (pw_or (pt_not (pt_val (pe_callH H__law_rows_same (hr.mono (by decide)) rfl (pa_l2 (pv 14) (pv 12))))) (pw_or1 (pt_not (pt_val (pe_callH H__law_rows_same (hr.mono (by decide)) rfl (pa_l2 (pv 10) (pv 5))))))))
      (pss_l1 (ps_ret pe_bl))
      pss_nil)
      (ps_expr (pe_callH H__law_spoilt (hr.mono (by decide)) rfl (pa_l1 (pv 10))))
      (ps_expr (pe_mk (K := K) rfl PySem.F.plainAttrs_list PySem.F.slot_list_append PySem.F.type_list_append mr_append (pv 6) (pa_l1 (pe_tup (pa_l2 (pv 14) (pv 12))))))
      (ps_set (i := 5) sc_law.nd rfl (Or.inl rfl) (pv 12))))
      (ps_ret (pe_callH H__law_all_stay (hr.mono (by decide)) rfl (pa_l1 (pv 6))))), ?_⟩
    walk_at "rx"
    refine ⟨a, ns, 0, rfl, hS, by decide, fun c0 => ?_⟩
    refine ⟨_, 4, rfl, by decide, by decide, fun ph hs H1 s1 e1 h1 l1 g1 => ?_⟩
    refine ⟨a, ns, 1, rfl, hS.same s1, by decide, fun c1 => ?_⟩
    refine ⟨_, 3, rfl, by decide, by decide, fun pw ws H2 s2 e2 h2 l2 g2 => ?_⟩
    refine ⟨a, ns, 2, rfl, hS.same (s1.trans s2), by decide, fun c2 => ?_⟩
    refine ⟨_, 8, rfl, by decide, by decide, fun pn nms H3 s3 e3 h3 l3 g3 => ?_⟩
    have hS3 := hS.same ((s1.trans s2).trans s3)
    have h1' := s3 _ _ (s2 _ _ h1)
    have h2' := s3 _ _ h2
    clear s1 s2 s3 h1 h2
    generalize hU : (hs.flatMap fun h => ws.map fun w => (h, w)) = U
    have hUl : U.length ≤ 100 := by
      rw [← hU, List.length_flatMap]
      have : hs.map (fun h => (ws.map fun w => (h, w)).length) = hs.map fun _ => 3 := List.map_congr_left fun _ _ => by rw [List.length_map, l2]; rfl
      rw [this, sum_const, l1]
      decide
    have hUm : ∀ h ∈ hs, ∀ w ∈ ws, (h, w) ∈ U := fun h hh w hw => by rw [← hU]; exact List.mem_flatMap.mpr ⟨h, hh, List.mem_map.mpr ⟨w, hw, rfl⟩⟩
    refine ⟨a, _, rfl, hS3, fun pc hpc => ?_⟩
    rw [cutV_map]
    generalize hms : List.take _ (List.drop _ ns) = ms
    have hml : ms.length ≤ 63 := by rw [← hms, List.length_take, List.length_drop]; omega
    have s4 := Same.upd (o := .lst (ms.map V.int)) hpc
    have hc4 : (upd H3 pc (.lst (ms.map V.int))) pc = some (.lst (ms.map V.int)) := upd_same
    have h1 := s4 _ _ h1'
    have h2 := s4 _ _ h2'
    have h3' := s4 _ _ h3
    generalize upd H3 pc (.lst (ms.map V.int)) = H4 at s4 hc4 h1 h2 h3'
    intro pm hpm pl hpl
    have s5 := Same.upd (o := .dX 0 []) hpm
    have s6 := s5.updT (o := .lst []) hpl
    have hpl4 : H4 pl = none := s5.free hpl
    have hat : ∀ j : Int, 0 ≤ j → j < ms.length → atI (List.map V.int ms) j = some (.int (ms.getD j.toNat 0)) := fun j j0 j1 => by
      rw [atI_lt (.int 0) j0 (by rw [List.length_map]; exact j1)]
      rw [List.getD_eq_getElem?_getD, List.getD_eq_getElem?_getD, List.getElem?_map]
      cases ms[j.toNat]? <;> rfl
    refine while_cut (fun m σ HX => ∃ (spot : Nat) (pm : Addr) (es : List Rw) (F : RFn) (hls : List Hl) (ts : List Addr) (o8 o9 o10 o11 o12 o13 o14 o15 o16 : Option V), σ = [some (.ref a), some (.ref ph), some (.ref pw), some (.ref pn), some (.ref pc), some (.ref pm), some (.ref pl), some (.int spot), o8, o9, o10, o11, o12, o13, o14, o15, o16] ∧
      Same H4 HX ∧ HX pl = some (.lst (ts.map V.ref)) ∧ Paired (HlAt HX) hls ts ∧ hls.length ≤ spot ∧ HeldOk U HX hls ∧ (∃ H0, RF H0 HX pm es F) ∧ FOk U spot F ∧ m = 100 - spot) 100 ?_ ?_
    · refine ⟨0, pm, [], fun _ => [], [], [], none, none, none, none, none, none, none, none, none, rfl, s6, upd_same, .nil, Nat.le_refl _, ⟨by simp, by simp, by simp, by simp, by simp⟩, ⟨H4, RF.nil (Same.upd hpl _ _ upd_same)⟩, ⟨fun k hk => absurd rfl hk, fun k => Nat.zero_le _, fun k s hs => by cases hs⟩, rfl⟩
    clear s5 s6 hpm hpl
    rintro m σ HX ⟨spot, pm, es, F, hls, ts, o8, o9, o10, o11, o12, o13, o14, o15, o16, rfl, sX, hplX, hTX, hhl, hOX, ⟨H0, hRX⟩, hFX, hm⟩
    intro NA NB hA hB
    walk_at "rx"
    refine ⟨pc, _, rfl, .inl (SqL.of (sX _ _ hc4)), ?_⟩
    try walk_at "rx"
    refine ite2 (fun hlt => hA _ ?_) (fun _ => hB _ ?_)
    · rw [List.length_map] at hlt
      clear hA hB NA NB
      have hlt' : spot < 63 := by omega
      have hfewX := hRX.few hFX
      refine seq_cut (fun σ' H' => ∃ cell : Int, σ' = [some (.ref a), some (.ref ph), some (.ref pw), some (.ref pn), some (.ref pc), some (.ref pm), some (.ref pl), some (.int spot), some (.int cell), o9, o10, o11, o12, o13, o14, o15, o16] ∧ H' = HX) ?_ ?_
      · intro N hN
        walk_at "rx"
        refine ixL_of (sX _ _ hc4) (hat _ (by omega) (by omega)) ?_
        generalize ms.getD (spot : Int).toNat 0 = cell
        try walk_at "rx"
        exact hN _ _ ⟨_, rfl, rfl⟩
      rintro σ' H' ⟨cell, rfl, rfl⟩
      refine seq_cut (fun σ' H'' => ∃ nm, σ' = [some (.ref a), some (.ref ph), some (.ref pw), some (.ref pn), some (.ref pc), some (.ref pm), some (.ref pl), some (.int spot), some (.int cell), some (.str nm), o10, o11, o12, o13, o14, o15, o16] ∧ H'' = H' ∧ goodNm nm) ?_ ?_
      · intro N hN
        obtain ⟨a1, m1⟩ := at_strs (ss := nms) (j := cell % 6) (by omega) (by rw [l3]; omega)
        walk_at "rx"
        refine ixL_of (sX _ _ h3') a1 ?_
        exact hN _ _ ⟨_, rfl, rfl, g3 _ m1⟩
      rintro σ' H'' ⟨nm, rfl, rfl, hnm⟩
      refine seq_cut (fun σ' H5 => ∃ hd es1, σ' = [some (.ref a), some (.ref ph), some (.ref pw), some (.ref pn), some (.ref pc), some (.ref pm), some (.ref pl), some (.int spot), some (.int cell), some (.str nm), some (.ref hd), o11, o12, o13, o14, o15, o16] ∧ Same H'' H5 ∧ H'' hd = none ∧ RF H'' H5 hd es1 F) ?_ ?_
      · intro N hN
        walk_at "rx"
        refine ⟨pm, es, F, H0, rfl, hRX, by omega, fun hd es1 H5 s5 nhd hR5 => ?_⟩
        exact hN _ _ ⟨hd, es1, rfl, s5, nhd, hR5⟩
      rintro σ' H5 ⟨hd, es1, rfl, s5, nhd, hR5⟩
      have hfew1 := hR5.few hFX
      have sX5 := sX.trans s5
      refine seq_cut (fun σ' H6 => ∃ (spot' : Nat) (pd pf : Addr) (esd esf : List Rw) (F' : RFn) (p11 p13 p15 p16 : Option V), σ' = [some (.ref a), some (.ref ph), some (.ref pw), some (.ref pn), some (.ref pc), some (.ref pm), some (.ref pl), some (.int spot'), some (.int cell), some (.str nm), some (.ref hd), p11, some (.ref pd), p13, some (.ref pf), p15, p16] ∧ spot < spot' ∧ spot' < 100 ∧ Same H5 H6 ∧ H5 pd = none ∧ H5 pf = none ∧ RF H5 H6 pd esd F' ∧ RF H5 H6 pf esf F' ∧ (∀ e ∈ esf, ∀ e' ∈ esd, e'.2.1 ≠ e.2.1) ∧ FOk U spot' F') ?_ ?_
      · intro N hN
        walk_at "rx"
        refine ite2 (fun _ => ?A1) (fun _ => ⟨pm, es, F, H0, _, rfl, hRX.same s5, fun b => ⟨b, rfl, ite2 (fun _ => ?A2) (fun _ => ?B)⟩⟩)
        case A1 =>
          refine ⟨pc, ms, _, rfl, SqL.of (sX5 _ _ hc4), by omega, fun c => ?_⟩
          refine ⟨pn, nms, c, rfl, sX5 _ _ h3', by rw [l3]; decide, g3, fun q zs H6 s6 nq hq hzl hzg => ?_⟩
          refine ⟨pm, es, F, H0, q, zs, U, spot, rfl, (hRX.same s5).same s6, hFX, hUl, by omega, hq, fun pd esd H7 s7 npd hRd => ?_⟩
          refine ⟨q, _, rfl, .inl (SqL.of (s7 _ _ hq)), fun pg hpg => ?_⟩
          have s8 := Same.upd (o := .lst (zs.map V.str)) hpg
          have s58 := (s6.trans s7).trans s8
          refine ⟨hd, es1, F, _, pg, zs, U, spot, rfl, hR5.same s58, hFX, hUl, by omega, upd_same, by omega, fun pf esf H9 s9 npf hRf => ?_⟩
          have hpg8 : (upd H7 pg (.lst (zs.map V.str))) pg = some (.lst (zs.map V.str)) := upd_same
          have hpg9 := s9 _ _ hpg8
          have hq9 := s9 _ _ (s8 _ _ (s7 _ _ hq))
          refine neD_strs hpg9 hq9 hzg ⟨_, rfl, ite2 (fun h => absurd h (by decide)) (fun _ => ?_)⟩
          refine ⟨ty_lst hpg9, append_of hpg9 (by rw [List.length_map]; have := sizeLine_big; omega) ?_⟩
          have mg : Mt [pg] H9 (upd H9 pg (.lst (zs.map V.str ++ [V.str "spoilt"]))) := Mt.upd (by simp)
          have hRd9 := (hRd.low s6).same (s8.trans s9)
          have hRf9 := hRf.low s58
          refine hN _ _ ⟨spot + 2, pd, pf, esd, esf, lessF F zs, _, _, _, _, rfl, by omega, by omega, (s58.trans s9).updN ((s6.trans s7).free hpg), s6.free npd, s58.free npf, hRd9.mt mg ?_ ?_, hRf9.mt mg ?_ ?_, fun e he e' he' e1 => ?_, (hFX.less zs).mono (by omega)⟩
          · intro hin
            obtain ⟨ep, q⟩ := hRd.at_.dct
            rw [List.mem_singleton.mp hin, hpg] at q
            cases q
          · intro e he hin
            exact hRd.notfree hpg e he (List.mem_singleton.mp hin)
          · intro hin
            rw [List.mem_singleton.mp hin, hpg8] at npf
            cases npf
          · intro e he hin
            have := hRf.fr e he
            rw [List.mem_singleton.mp hin, hpg8] at this
            cases this
          · have h1 := hRf.fr e he
            have h2 := s8 _ _ (hRd.at_.lst e' he')
            rw [e1, h1] at h2
            cases h2
        case A2 =>
          refine ⟨pc, ms, _, rfl, SqL.of (sX5 _ _ hc4), by omega, fun c => ?_⟩
          refine ⟨pn, nms, c, rfl, sX5 _ _ h3', by rw [l3]; decide, g3, fun q zs H6 s6 nq hq hzl hzg => ?_⟩
          refine ⟨pm, es, F, H0, q, zs, U, spot, rfl, (hRX.same s5).same s6, hFX, hUl, by omega, hq, fun pd esd H7 s7 npd hRd => ?_⟩
          refine ⟨q, _, rfl, .inl (SqL.of (s7 _ _ hq)), fun pg hpg => ?_⟩
          have s8 := Same.upd (o := .lst (zs.map V.str)) hpg
          have s58 := (s6.trans s7).trans s8
          refine ⟨hd, es1, F, _, pg, zs, U, spot, rfl, hR5.same s58, hFX, hUl, by omega, upd_same, by omega, fun pf esf H9 s9 npf hRf => ?_⟩
          have hpg8 : (upd H7 pg (.lst (zs.map V.str))) pg = some (.lst (zs.map V.str)) := upd_same
          have hpg9 := s9 _ _ hpg8
          have hq9 := s9 _ _ (s8 _ _ (s7 _ _ hq))
          refine neD_strs hpg9 hq9 hzg ⟨_, rfl, ite2 (fun h => absurd h (by decide)) (fun _ => ?_)⟩
          refine ⟨ty_lst hpg9, append_of hpg9 (by rw [List.length_map]; have := sizeLine_big; omega) ?_⟩
          have mg : Mt [pg] H9 (upd H9 pg (.lst (zs.map V.str ++ [V.str "spoilt"]))) := Mt.upd (by simp)
          have hRd9 := (hRd.low s6).same (s8.trans s9)
          have hRf9 := hRf.low s58
          refine hN _ _ ⟨spot + 2, pd, pf, esd, esf, lessF F zs, _, _, _, _, rfl, by omega, by omega, (s58.trans s9).updN ((s6.trans s7).free hpg), s6.free npd, s58.free npf, hRd9.mt mg ?_ ?_, hRf9.mt mg ?_ ?_, fun e he e' he' e1 => ?_, (hFX.less zs).mono (by omega)⟩
          · intro hin
            obtain ⟨ep, q⟩ := hRd.at_.dct
            rw [List.mem_singleton.mp hin, hpg] at q
            cases q
          · intro e he hin
            exact hRd.notfree hpg e he (List.mem_singleton.mp hin)
          · intro hin
            rw [List.mem_singleton.mp hin, hpg8] at npf
            cases npf
          · intro e he hin
            have := hRf.fr e he
            rw [List.mem_singleton.mp hin, hpg8] at this
            cases this
          · have h1 := hRf.fr e he
            have h2 := s8 _ _ (hRd.at_.lst e' he')
            rw [e1, h1] at h2
            cases h2
        case B =>
          intro p8 hp8
          have s8 := Same.upd (o := .lst [V.int 1, V.int 2, V.int 3, V.int 8]) hp8
          obtain ⟨mn, hmn, hmn1, hmn8⟩ : ∃ mn : Int, atI [V.int 1, V.int 2, V.int 3, V.int 8] (cell / 18 % 4) = some (V.int mn) ∧ 1 ≤ mn ∧ mn ≤ 8 := by
            have h4 : cell / 18 % 4 = 0 ∨ cell / 18 % 4 = 1 ∨ cell / 18 % 4 = 2 ∨ cell / 18 % 4 = 3 := by omega
            rcases h4 with h | h | h | h <;> rw [h] <;> exact ⟨_, rfl, by decide⟩
          refine ixL_of upd_same hmn ?_
          refine ⟨pc, ms, _, mn, ph, hs, pw, ws, rfl, s8 _ _ (sX5 _ _ hc4), by omega, by omega, hmn1, hmn8, s8 _ _ (sX5 _ _ h1), by rw [l1]; rfl, s8 _ _ (sX5 _ _ h2), by rw [l2]; rfl, fun pL us ls H6 s6 npL hpL hL hll hli => ?_⟩
          intro pdl hpdl
          have s7 := Same.upd (o := .tup [.str nm, .ref pL]) hpdl
          have s57 := (s8.trans s6).trans s7
          have hD : DealAt (upd H6 pdl (.tup [.str nm, .ref pL])) (.ref pdl) nm ls := ⟨pdl, pL, us, rfl, upd_same, s7 _ _ hpL, hL.same s7⟩
          have hdt : (upd H6 pdl (.tup [.str nm, .ref pL])) pdl = some (.tup [.str nm, .ref pL]) := upd_same
          have hpL7 := s7 _ _ hpL
          have hul := hL.len
          generalize upd H6 pdl (.tup [.str nm, .ref pL]) = HD at s7 s57 hD hdt hpL7
          refine ⟨pm, es, F, H0, rfl, (hRX.same s5).same s57, by omega, fun pd es2 H8 s8' npd hR8 => ?_⟩
          have hlg : ∀ l ∈ ls, goodNm l.1 ∧ goodNm l.2.2.1 := fun l hl => ⟨g1 _ (hli l hl).1, g2 _ (hli l hl).2.2.1⟩
          have hgk : ∀ kk ∈ givers ls, kk ∈ U := fun kk hk => by
            obtain ⟨l, hl, rfl⟩ := List.mem_map.mp hk
            exact hUm _ (hli l hl).1 _ (hli l hl).2.2.1
          refine ⟨.ref pdl, nm, ls, rfl, hD.same s8', by omega, hlg, fun q rs ks H9 s9 nq hq hT hnd hkl hmem => ?_⟩
          have hR9 := hR8.same s9
          obtain ⟨ep9, hd9⟩ := hR9.at_.dct
          have hfew8 := hR8.few hFX
          refine ⟨q, rfl, ⟨_, SqL.of hq⟩, for_w (y_list K q (rs.map V.ref)) (fun i σ HA => ∃ o es3, σ = [some (.ref a), some (.ref ph), some (.ref pw), some (.ref pn), some (.ref pc), some (.ref pm), some (.ref pl), some (.int spot), some (.int cell), some (.str nm), some (.ref hd), o11, some (.ref pd), o13, o14, some (.ref pdl), o] ∧ Same HD HA ∧ Mt [pd] H9 HA ∧ RF HD HA pd es3 (addF F nm (ks.take i)) ∧ es3.length ≤ 100 + i) ?_ ?_ ?_ ?_⟩
          · exact ⟨_, es2, rfl, s8'.trans s9, Mt.refl _ _, hR9.congr (fun k' => by unfold addF; rw [List.take_zero, if_neg (by simp)]), by omega⟩
          · rintro i σ HA _ ⟨_, _, _, _, m3, _⟩
            exact SqL.of (m3 _ _ (by simp; intro e; rw [e, hd9] at hq; cases hq) hq)
          · rintro i σ HA x H' hi ⟨o, es3, rfl, s3, m3, hR3, hl3'⟩ ⟨rfl, hx⟩
            rw [List.getElem?_map] at hx
            obtain ⟨r, hr, rfl⟩ := Option.map_eq_some_iff.mp hx
            obtain ⟨kk, hk⟩ : ∃ kk, ks[i]? = some kk := ⟨_, List.getElem?_eq_getElem (by rw [Paired.length hT]; exact (List.getElem?_eq_some_iff.mp hr).1)⟩
            obtain ⟨r', hr', hkr⟩ := Paired.get hT hk
            rw [hr] at hr'
            cases hr'
            have keep : ∀ {b : Addr} {xs : List V}, H9 b = some (.tup xs) → H' b = some (.tup xs) := fun {b xs} hb => m3 b _ (by simp; intro e; rw [e, hd9] at hb; cases hb) hb
            have hi8 : i < 8 := by
              have := (List.getElem?_eq_some_iff.mp hk).1
              omega
            obtain ⟨ep3, hd3⟩ := hR3.at_.dct
            have hsb := sizeLine_big
            have hFl : (addF F nm (ks.take i) kk).length ≤ 1001 := by
              have := hFX.len kk
              unfold addF
              split
              · rw [List.length_append]; simp; omega
              · omega
            walk_at "rx"
            refine ⟨ty_dct hd3, fun pe hpe => ?_⟩
            have t4 := Same.upd (o := .lst []) hpe
            have hR4 := hR3.same t4
            obtain ⟨ep4, hd4⟩ := hR4.at_.dct
            obtain ⟨b, hb1, hb2⟩ := hR4.get kk (pe := pe) upd_same
            refine get2_of hd4 (keyV_two (t4 _ _ (keep hkr))) ?_
            rw [hb1]
            intro pn' hpn'
            have t5 := t4.updT (o := .lst [.str nm]) hpn'
            refine cat_of (Same.upd hpn' _ _ hb2) upd_same (by rw [List.length_map]; simp; omega) fun r' hr' => ?_
            have t6 := t5.updT (o := .lst ((addF F nm (ks.take i) kk).map V.str ++ [.str nm])) hr'
            have hR6 := hR3.same t6
            obtain ⟨ep6, hd6⟩ := hR6.at_.dct
            refine put_of hd6 (keyV_two (t6 _ _ (keep hkr))) (by rw [rwV_len]; omega) fun ep' => ?_
            exact ⟨(s3.trans t6).updN npd, (m3.trans (Mt.of t6)).trans (Mt.upd (by simp)), putR es3 kk r' (addF F nm (ks.take i) kk ++ [nm]), RF.congr (hR6.put (k := kk) (zs := addF F nm (ks.take i) kk ++ [nm]) (by rw [upd_same, List.map_append]; rfl) (by simp) ((s3.trans t5).free hr') ((hR3.same t5).notfree hr') ep') (fun k' => addF_succ hnd hk k'), Nat.le_trans (putR_len ..) (by omega)⟩
          · rintro σ HA ⟨o, es3, rfl, s3, m3, hR3, hl3'⟩
            rw [List.length_map, ← Paired.length hT, List.take_length] at hR3
            have hR3' := hR3.congr fun k' => addF_mem hmem k'
            have s5A := s57.trans s3
            walk_at "rx"
            refine ⟨hd, es1, F, _, .ref pdl, nm, ls, U, spot, rfl, hR5.same s5A, hFX, hUl, by omega, hD.same s3, by omega, fun l hl => (hli l hl).2.2.2, fun pf esf HB sB npf hRf => ?_⟩
            refine ixT_of (sB _ _ (s3 _ _ hdt)) (v := .ref pL) (atI_nat (j := 1) rfl) ?_
            refine ⟨pL, us, rfl, .inr (SqT.of (sB _ _ (s3 _ _ hpL7))), ?_⟩
            try walk_at "rx"
            refine hN _ _ ⟨spot + 1 + 2 * us.length, pd, pf, es3, esf, addF F nm (givers ls), _, _, _, _, rfl, by omega, by omega, s5A.trans sB, s57.free npd, s5A.free npf, (hR3'.low s57).same sB, hRf.low s5A, fun e he e' he' e1 => ?_, (hFX.add hnm hgk).mono (by omega)⟩
            have z1 := hRf.fr e he
            have z2 := hR3.at_.lst e' he'
            rw [e1, z1] at z2
            cases z2
      rintro σ' H6 ⟨spot', pd, pf, esd, esf, F', p11, p13, p15, p16, rfl, hss, hs100, s6, npd, npf, hRd, hRf, hdis, hF'⟩
      walk_at "rx"
      refine ⟨pf, pd, esd, esf, F', _, _, U, spot', rfl, hRf, hRd, hF', ⟨true, rfl, ite2 (fun h => absurd h (by decide)) (fun _ => ?_)⟩⟩
      refine ⟨hd, pm, es, es1, F, _, _, U, spot, rfl, hR5.same s6, (hRX.same s5).same s6, hFX, ⟨true, rfl, ite2 (fun h => absurd h (by decide)) (fun _ => ?_)⟩⟩
      refine ⟨hd, es1, F, _, rfl, hR5.same s6, by omega, fun e he => (by rw [hR5.val e he]; have := hFX.len e.1; omega), fun H7 m7 => ?_⟩
      have notin : ∀ b, H5 b = none → b ∉ hd :: es1.map (·.2.1) := fun b hb hin => by
        rcases List.mem_cons.mp hin with rfl | q
        · obtain ⟨ep, q⟩ := hR5.at_.dct
          rw [hb] at q
          cases q
        · obtain ⟨e, he, rfl⟩ := List.mem_map.mp q
          have := hR5.at_.lst e he
          rw [hb] at this
          cases this
      have s7 : Same H'' H7 := fun b o hb => m7 b o (fun hin => by
        rcases List.mem_cons.mp hin with rfl | q
        · rw [nhd] at hb; cases hb
        · obtain ⟨e, he, rfl⟩ := List.mem_map.mp q
          rw [hR5.fr e he] at hb
          cases hb) (s6 _ _ (s5 _ _ hb))
      have hRd7 := hRd.mt m7 (notin _ npd) (fun e he => notin _ (hRd.fr e he))
      have hRf7 := hRf.mt m7 (notin _ npf) (fun e he => notin _ (hRf.fr e he))
      have hpl7 := s7 _ _ hplX
      refine ⟨ty_lst hpl7, fun t ht => ?_⟩
      have s8 := Same.upd (o := .tup [.ref pf, .ref pd]) ht
      have hpl8 := s8 _ _ hpl7
      have hts := Paired.length hTX
      refine append_of hpl8 (by rw [List.length_map]; have := sizeLine_big; omega) ?_
      have hpt : t ≠ pl := fun e => by rw [e, hpl7] at ht; cases ht
      have s78 := s7.trans s8
      refine ⟨100 - spot', by omega, spot', pd, ⟨rfl, rfl⟩, (sX.trans s78).updN hpl4, esd, F', hls ++ [⟨pf, pd, esf, esd, F'⟩], ts ++ [t], by rw [upd_same, List.map_append]; rfl, ?_, by rw [List.length_append]; simp; omega, ?_, ⟨_, (hRd7.same s8).mt (Mt.upd (by simp)) ((hRd7.same s8).nelist hpl8).1 ((hRd7.same s8).nelist hpl8).2⟩, hF', rfl⟩
      · refine Paired.append (Paired.mapP hTX fun h t0 q => ?_) (.cons (show upd _ pl _ t = _ by rw [upd_ne hpt, upd_same]) .nil)
        have q8 := s78 _ _ q
        show upd _ pl _ t0 = _
        rw [upd_ne (fun e => by rw [e, hpl8] at q8; cases q8)]
        exact q8
      · exact (hOX.add s78 (x := ⟨pf, pd, esf, esd, F'⟩) ⟨_, hRf7.same s8⟩ ⟨_, hRd7.same s8⟩ (hF'.mono (by omega)) (fun e he => s5.free (hRf.fr e he)) (fun e he => s5.free (hRd.fr e he)) hdis).upd hpl8
    · clear hA hB NA NB
      walk_at "rx"
      exact ⟨pl, hls, ts, U, rfl, hplX, hTX, hOX, hUl, fun H' => k _⟩

end
theorem all_mk {l : PySem.W.OpenLaw} {w : World} {K : PySem.W.Frag} {h : Heap} {mg : Str → Option Value} {fa : Addr} (X : K.In h) (G : h.Ns mainGlobals mg) (hfa : mg "law" = some (.ref fa))
    {f1 : Addr} {od1 an1 : Option Addr} {sl1 : Array (Option Value)} {oc1 kV1 dc1 pm1 cd1 ct1 : Value}
    {f2 : Addr} {od2 an2 : Option Addr} {sl2 : Array (Option Value)} {oc2 kV2 dc2 pm2 cd2 ct2 : Value}
    {f3 : Addr} {od3 an3 : Option Addr} {sl3 : Array (Option Value)} {oc3 kV3 dc3 pm3 cd3 ct3 : Value}
    {f4 : Addr} {od4 an4 : Option Addr} {sl4 : Array (Option Value)} {oc4 kV4 dc4 pm4 cd4 ct4 : Value}
    {f5 : Addr} {od5 an5 : Option Addr} {sl5 : Array (Option Value)} {oc5 kV5 dc5 pm5 cd5 ct5 : Value}
    {f6 : Addr} {od6 an6 : Option Addr} {sl6 : Array (Option Value)} {oc6 kV6 dc6 pm6 cd6 ct6 : Value}
    {f7 : Addr} {od7 an7 : Option Addr} {sl7 : Array (Option Value)} {oc7 kV7 dc7 pm7 cd7 ct7 : Value}
    {f8 : Addr} {od8 an8 : Option Addr} {sl8 : Array (Option Value)} {oc8 kV8 dc8 pm8 cd8 ct8 : Value}
    {f9 : Addr} {od9 an9 : Option Addr} {sl9 : Array (Option Value)} {oc9 kV9 dc9 pm9 cd9 ct9 : Value}
    {f10 : Addr} {od10 an10 : Option Addr} {sl10 : Array (Option Value)} {oc10 kV10 dc10 pm10 cd10 ct10 : Value}
    {f11 : Addr} {od11 an11 : Option Addr} {sl11 : Array (Option Value)} {oc11 kV11 dc11 pm11 cd11 ct11 : Value}
    {f12 : Addr} {od12 an12 : Option Addr} {sl12 : Array (Option Value)} {oc12 kV12 dc12 pm12 cd12 ct12 : Value}
    {f13 : Addr} {od13 an13 : Option Addr} {sl13 : Array (Option Value)} {oc13 kV13 dc13 pm13 cd13 ct13 : Value}
    {f14 : Addr} {od14 an14 : Option Addr} {sl14 : Array (Option Value)} {oc14 kV14 dc14 pm14 cd14 ct14 : Value}
    {f15 : Addr} {od15 an15 : Option Addr} {sl15 : Array (Option Value)} {oc15 kV15 dc15 pm15 cd15 ct15 : Value}
    {f16 : Addr} {od16 an16 : Option Addr} {sl16 : Array (Option Value)} {oc16 kV16 dc16 pm16 cd16 ct16 : Value}
    {f17 : Addr} {od17 an17 : Option Addr} {sl17 : Array (Option Value)} {oc17 kV17 dc17 pm17 cd17 ct17 : Value}
    {f18 : Addr} {od18 an18 : Option Addr} {sl18 : Array (Option Value)} {oc18 kV18 dc18 pm18 cd18 ct18 : Value}
    {f19 : Addr} {od19 an19 : Option Addr} {sl19 : Array (Option Value)} {oc19 kV19 dc19 pm19 cd19 ct19 : Value}
    {f20 : Addr} {od20 an20 : Option Addr} {sl20 : Array (Option Value)} {oc20 kV20 dc20 pm20 cd20 ct20 : Value}
    (a1 : PySem.W.nsIn K mainGlobals "_law_names" = some (some (.ref f1))) (l1 : K.lookup f1 = some ⟨oc1, od1, .func (PySem.W.fnOf "_law_names" "_law_names" (defArgs s__law_names) (defBody s__law_names) (defScope s__law_names) .none kV1 dc1 pm1 an1 cd1 ct1), sl1⟩) (c1 : PySem.W.codeIn K cd1 "_law_names" = true) (k1 : PySem.W.keepIn K (.ref f1) = true)
    (a2 : PySem.W.nsIn K mainGlobals "_law_rows_same" = some (some (.ref f2))) (l2 : K.lookup f2 = some ⟨oc2, od2, .func (PySem.W.fnOf "_law_rows_same" "_law_rows_same" (defArgs s__law_rows_same) (defBody s__law_rows_same) (defScope s__law_rows_same) .none kV2 dc2 pm2 an2 cd2 ct2), sl2⟩) (c2 : PySem.W.codeIn K cd2 "_law_rows_same" = true) (k2 : PySem.W.keepIn K (.ref f2) = true)
    (a3 : PySem.W.nsIn K mainGlobals "_law_all_stay" = some (some (.ref f3))) (l3 : K.lookup f3 = some ⟨oc3, od3, .func (PySem.W.fnOf "_law_all_stay" "_law_all_stay" (defArgs s__law_all_stay) (defBody s__law_all_stay) (defScope s__law_all_stay) .none kV3 dc3 pm3 an3 cd3 ct3), sl3⟩) (c3 : PySem.W.codeIn K cd3 "_law_all_stay" = true) (k3 : PySem.W.keepIn K (.ref f3) = true)
    (a4 : PySem.W.nsIn K mainGlobals "_law_cell_at" = some (some (.ref f4))) (l4 : K.lookup f4 = some ⟨oc4, od4, .func (PySem.W.fnOf "_law_cell_at" "_law_cell_at" (defArgs s__law_cell_at) (defBody s__law_cell_at) (defScope s__law_cell_at) .none kV4 dc4 pm4 an4 cd4 ct4), sl4⟩) (c4 : PySem.W.codeIn K cd4 "_law_cell_at" = true) (k4 : PySem.W.keepIn K (.ref f4) = true)
    (a5 : PySem.W.nsIn K mainGlobals "_law_copy" = some (some (.ref f5))) (l5 : K.lookup f5 = some ⟨oc5, od5, .func (PySem.W.fnOf "_law_copy" "_law_copy" (defArgs s__law_copy) (defBody s__law_copy) (defScope s__law_copy) .none kV5 dc5 pm5 an5 cd5 ct5), sl5⟩) (c5 : PySem.W.codeIn K cd5 "_law_copy" = true) (k5 : PySem.W.keepIn K (.ref f5) = true)
    (a6 : PySem.W.nsIn K mainGlobals "_law_spoilt" = some (some (.ref f6))) (l6 : K.lookup f6 = some ⟨oc6, od6, .func (PySem.W.fnOf "_law_spoilt" "_law_spoilt" (defArgs s__law_spoilt) (defBody s__law_spoilt) (defScope s__law_spoilt) .none kV6 dc6 pm6 an6 cd6 ct6), sl6⟩) (c6 : PySem.W.codeIn K cd6 "_law_spoilt" = true) (k6 : PySem.W.keepIn K (.ref f6) = true)
    (a7 : PySem.W.nsIn K mainGlobals "_law_stands" = some (some (.ref f7))) (l7 : K.lookup f7 = some ⟨oc7, od7, .func (PySem.W.fnOf "_law_stands" "_law_stands" (defArgs s__law_stands) (defBody s__law_stands) (defScope s__law_stands) .none kV7 dc7 pm7 an7 cd7 ct7), sl7⟩) (c7 : PySem.W.codeIn K cd7 "_law_stands" = true) (k7 : PySem.W.keepIn K (.ref f7) = true)
    (a8 : PySem.W.nsIn K mainGlobals "_law_some" = some (some (.ref f8))) (l8 : K.lookup f8 = some ⟨oc8, od8, .func (PySem.W.fnOf "_law_some" "_law_some" (defArgs s__law_some) (defBody s__law_some) (defScope s__law_some) .none kV8 dc8 pm8 an8 cd8 ct8), sl8⟩) (c8 : PySem.W.codeIn K cd8 "_law_some" = true) (k8 : PySem.W.keepIn K (.ref f8) = true)
    (a9 : PySem.W.nsIn K mainGlobals "_law_without" = some (some (.ref f9))) (l9 : K.lookup f9 = some ⟨oc9, od9, .func (PySem.W.fnOf "_law_without" "_law_without" (defArgs s__law_without) (defBody s__law_without) (defScope s__law_without) .none kV9 dc9 pm9 an9 cd9 ct9), sl9⟩) (c9 : PySem.W.codeIn K cd9 "_law_without" = true) (k9 : PySem.W.keepIn K (.ref f9) = true)
    (a10 : PySem.W.nsIn K mainGlobals "marked" = some (some (.ref f10))) (l10 : K.lookup f10 = some ⟨oc10, od10, .func (PySem.W.fnOf "marked" "marked" (defArgs s_marked) (defBody s_marked) (defScope s_marked) .none kV10 dc10 pm10 an10 cd10 ct10), sl10⟩) (c10 : PySem.W.codeIn K cd10 "marked" = true) (k10 : PySem.W.keepIn K (.ref f10) = true)
    (a11 : PySem.W.nsIn K mainGlobals "left" = some (some (.ref f11))) (l11 : K.lookup f11 = some ⟨oc11, od11, .func (PySem.W.fnOf "left" "left" (defArgs s_left) (defBody s_left) (defScope s_left) .none kV11 dc11 pm11 an11 cd11 ct11), sl11⟩) (c11 : PySem.W.codeIn K cd11 "left" = true) (k11 : PySem.W.keepIn K (.ref f11) = true)
    (a12 : PySem.W.nsIn K mainGlobals "_law_gives" = some (some (.ref f12))) (l12 : K.lookup f12 = some ⟨oc12, od12, .func (PySem.W.fnOf "_law_gives" "_law_gives" (defArgs s__law_gives) (defBody s__law_gives) (defScope s__law_gives) .none kV12 dc12 pm12 an12 cd12 ct12), sl12⟩) (c12 : PySem.W.codeIn K cd12 "_law_gives" = true) (k12 : PySem.W.keepIn K (.ref f12) = true)
    (a13 : PySem.W.nsIn K mainGlobals "copied" = some (some (.ref f13))) (l13 : K.lookup f13 = some ⟨oc13, od13, .func (PySem.W.fnOf "copied" "copied" (defArgs s_copied) (defBody s_copied) (defScope s_copied) .none kV13 dc13 pm13 an13 cd13 ct13), sl13⟩) (c13 : PySem.W.codeIn K cd13 "copied" = true) (k13 : PySem.W.keepIn K (.ref f13) = true)
    (a14 : PySem.W.nsIn K mainGlobals "sheet_of" = some (some (.ref f14))) (l14 : K.lookup f14 = some ⟨oc14, od14, .func (PySem.W.fnOf "sheet_of" "sheet_of" (defArgs s_sheet_of) (defBody s_sheet_of) (defScope s_sheet_of) .none kV14 dc14 pm14 an14 cd14 ct14), sl14⟩) (c14 : PySem.W.codeIn K cd14 "sheet_of" = true) (k14 : PySem.W.keepIn K (.ref f14) = true)
    (a15 : PySem.W.nsIn K mainGlobals "gives" = some (some (.ref f15))) (l15 : K.lookup f15 = some ⟨oc15, od15, .func (PySem.W.fnOf "gives" "gives" (defArgs s_gives) (defBody s_gives) (defScope s_gives) .none kV15 dc15 pm15 an15 cd15 ct15), sl15⟩) (c15 : PySem.W.codeIn K cd15 "gives" = true) (k15 : PySem.W.keepIn K (.ref f15) = true)
    (a16 : PySem.W.nsIn K mainGlobals "rows_of" = some (some (.ref f16))) (l16 : K.lookup f16 = some ⟨oc16, od16, .func (PySem.W.fnOf "rows_of" "rows_of" (defArgs s_rows_of) (defBody s_rows_of) (defScope s_rows_of) .none kV16 dc16 pm16 an16 cd16 ct16), sl16⟩) (c16 : PySem.W.codeIn K cd16 "rows_of" = true) (k16 : PySem.W.keepIn K (.ref f16) = true)
    (a17 : PySem.W.nsIn K mainGlobals "entered" = some (some (.ref f17))) (l17 : K.lookup f17 = some ⟨oc17, od17, .func (PySem.W.fnOf "entered" "entered" (defArgs s_entered) (defBody s_entered) (defScope s_entered) .none kV17 dc17 pm17 an17 cd17 ct17), sl17⟩) (c17 : PySem.W.codeIn K cd17 "entered" = true) (k17 : PySem.W.keepIn K (.ref f17) = true)
    (a18 : PySem.W.nsIn K mainGlobals "_law_amount" = some (some (.ref f18))) (l18 : K.lookup f18 = some ⟨oc18, od18, .func (PySem.W.fnOf "_law_amount" "_law_amount" (defArgs s__law_amount) (defBody s__law_amount) (defScope s__law_amount) .none kV18 dc18 pm18 an18 cd18 ct18), sl18⟩) (c18 : PySem.W.codeIn K cd18 "_law_amount" = true) (k18 : PySem.W.keepIn K (.ref f18) = true)
    (a19 : PySem.W.nsIn K mainGlobals "_law_legs" = some (some (.ref f19))) (l19 : K.lookup f19 = some ⟨oc19, od19, .func (PySem.W.fnOf "_law_legs" "_law_legs" (defArgs s__law_legs) (defBody s__law_legs) (defScope s__law_legs) .none kV19 dc19 pm19 an19 cd19 ct19), sl19⟩) (c19 : PySem.W.codeIn K cd19 "_law_legs" = true) (k19 : PySem.W.keepIn K (.ref f19) = true)
    (a20 : PySem.W.nsIn K mainGlobals "law" = some (some (.ref f20))) (l20 : K.lookup f20 = some ⟨oc20, od20, .func (PySem.W.fnOf "law" "law" (defArgs s_law) (defBody s_law) (defScope s_law) .none kV20 dc20 pm20 an20 cd20 ct20), sl20⟩) (c20 : PySem.W.codeIn K cd20 "law" = true) (k20 : PySem.W.keepIn K (.ref f20) = true)
    (z_dict : PySem.W.nsIn K mainGlobals "dict" = some none)
    (z_int : PySem.W.nsIn K mainGlobals "int" = some none)
    (z_isinstance : PySem.W.nsIn K mainGlobals "isinstance" = some none)
    (z_len : PySem.W.nsIn K mainGlobals "len" = some none)
    (z_list : PySem.W.nsIn K mainGlobals "list" = some none)
    (z_range : PySem.W.nsIn K mainGlobals "range" = some none)
    (z_sorted : PySem.W.nsIn K mainGlobals "sorted" = some none)
    (z_tuple : PySem.W.nsIn K mainGlobals "tuple" = some none) :
    ∃ fd : FuncData, (∀ (s : Shared) (v : Value), BindsTo s fd ⟨[v], []⟩ [("script", v)]) ∧ ∀ base : Heap, K.In base → base.Ns mainGlobals mg → FnOk l.prog w K mg base CX0 5 fa fd ["script"] (spLaw K) := by
  have e := hfa.symm.trans (PySem.W.mg_of X G a20)
  cases e
  have T : Txt K mg := ⟨PySem.W.mg_none_of X G z_dict, PySem.W.mg_none_of X G z_int, PySem.W.mg_none_of X G z_isinstance, PySem.W.mg_none_of X G z_len, PySem.W.mg_none_of X G z_list, PySem.W.mg_none_of X G z_range, PySem.W.mg_none_of X G z_sorted, PySem.W.mg_none_of X G z_tuple⟩
  have D__law_names : Dfn K mg "_law_names" s__law_names ["cell", "many"] := ⟨_, _, fun_mk (st := s__law_names) l1 c1 k1, PySem.W.mg_of X G a1, (fun_mk (st := s__law_names) l1 c1 k1).binds fun _ _ _ _ _ _ us hl => match us, hl with | [_, _], _ => rfl⟩
  have D__law_rows_same : Dfn K mg "_law_rows_same" s__law_rows_same ["found", "due"] := ⟨_, _, fun_mk (st := s__law_rows_same) l2 c2 k2, PySem.W.mg_of X G a2, (fun_mk (st := s__law_rows_same) l2 c2 k2).binds fun _ _ _ _ _ _ us hl => match us, hl with | [_, _], _ => rfl⟩
  have D__law_all_stay : Dfn K mg "_law_all_stay" s__law_all_stay ["held"] := ⟨_, _, fun_mk (st := s__law_all_stay) l3 c3 k3, PySem.W.mg_of X G a3, (fun_mk (st := s__law_all_stay) l3 c3 k3).binds fun _ _ _ _ _ _ us hl => match us, hl with | [_], _ => rfl⟩
  have D__law_cell_at : Dfn K mg "_law_cell_at" s__law_cell_at ["script", "k"] := ⟨_, _, fun_mk (st := s__law_cell_at) l4 c4 k4, PySem.W.mg_of X G a4, (fun_mk (st := s__law_cell_at) l4 c4 k4).binds fun _ _ _ _ _ _ us hl => match us, hl with | [_, _], _ => rfl⟩
  have D__law_copy : Dfn K mg "_law_copy" s__law_copy ["rows"] := ⟨_, _, fun_mk (st := s__law_copy) l5 c5 k5, PySem.W.mg_of X G a5, (fun_mk (st := s__law_copy) l5 c5 k5).binds fun _ _ _ _ _ _ us hl => match us, hl with | [_], _ => rfl⟩
  have D__law_spoilt : Dfn K mg "_law_spoilt" s__law_spoilt ["rows"] := ⟨_, _, fun_mk (st := s__law_spoilt) l6 c6 k6, PySem.W.mg_of X G a6, (fun_mk (st := s__law_spoilt) l6 c6 k6).binds fun _ _ _ _ _ _ us hl => match us, hl with | [_], _ => rfl⟩
  have D__law_stands : Dfn K mg "_law_stands" s__law_stands ["rows", "name"] := ⟨_, _, fun_mk (st := s__law_stands) l7 c7 k7, PySem.W.mg_of X G a7, (fun_mk (st := s__law_stands) l7 c7 k7).binds fun _ _ _ _ _ _ us hl => match us, hl with | [_, _], _ => rfl⟩
  have D__law_some : Dfn K mg "_law_some" s__law_some ["names", "cell"] := ⟨_, _, fun_mk (st := s__law_some) l8 c8 k8, PySem.W.mg_of X G a8, (fun_mk (st := s__law_some) l8 c8 k8).binds fun _ _ _ _ _ _ us hl => match us, hl with | [_, _], _ => rfl⟩
  have D__law_without : Dfn K mg "_law_without" s__law_without ["rows", "some"] := ⟨_, _, fun_mk (st := s__law_without) l9 c9 k9, PySem.W.mg_of X G a9, (fun_mk (st := s__law_without) l9 c9 k9).binds fun _ _ _ _ _ _ us hl => match us, hl with | [_, _], _ => rfl⟩
  have D_marked : Dfn K mg "marked" s_marked ["names"] := ⟨_, _, fun_mk (st := s_marked) l10 c10 k10, PySem.W.mg_of X G a10, (fun_mk (st := s_marked) l10 c10 k10).binds fun _ _ _ _ _ _ us hl => match us, hl with | [_], _ => rfl⟩
  have D_left : Dfn K mg "left" s_left ["rows", "names"] := ⟨_, _, fun_mk (st := s_left) l11 c11 k11, PySem.W.mg_of X G a11, (fun_mk (st := s_left) l11 c11 k11).binds fun _ _ _ _ _ _ us hl => match us, hl with | [_, _], _ => rfl⟩
  have D__law_gives : Dfn K mg "_law_gives" s__law_gives ["deal"] := ⟨_, _, fun_mk (st := s__law_gives) l12 c12 k12, PySem.W.mg_of X G a12, (fun_mk (st := s__law_gives) l12 c12 k12).binds fun _ _ _ _ _ _ us hl => match us, hl with | [_], _ => rfl⟩
  have D_copied : Dfn K mg "copied" s_copied ["rows"] := ⟨_, _, fun_mk (st := s_copied) l13 c13 k13, PySem.W.mg_of X G a13, (fun_mk (st := s_copied) l13 c13 k13).binds fun _ _ _ _ _ _ us hl => match us, hl with | [_], _ => rfl⟩
  have D_sheet_of : Dfn K mg "sheet_of" s_sheet_of ["pairs"] := ⟨_, _, fun_mk (st := s_sheet_of) l14 c14 k14, PySem.W.mg_of X G a14, (fun_mk (st := s_sheet_of) l14 c14 k14).binds fun _ _ _ _ _ _ us hl => match us, hl with | [_], _ => rfl⟩
  have D_gives : Dfn K mg "gives" s_gives ["deal"] := ⟨_, _, fun_mk (st := s_gives) l15 c15 k15, PySem.W.mg_of X G a15, (fun_mk (st := s_gives) l15 c15 k15).binds fun _ _ _ _ _ _ us hl => match us, hl with | [_], _ => rfl⟩
  have D_rows_of : Dfn K mg "rows_of" s_rows_of ["deal"] := ⟨_, _, fun_mk (st := s_rows_of) l16 c16 k16, PySem.W.mg_of X G a16, (fun_mk (st := s_rows_of) l16 c16 k16).binds fun _ _ _ _ _ _ us hl => match us, hl with | [_], _ => rfl⟩
  have D_entered : Dfn K mg "entered" s_entered ["rows", "deal"] := ⟨_, _, fun_mk (st := s_entered) l17 c17 k17, PySem.W.mg_of X G a17, (fun_mk (st := s_entered) l17 c17 k17).binds fun _ _ _ _ _ _ us hl => match us, hl with | [_, _], _ => rfl⟩
  have D__law_amount : Dfn K mg "_law_amount" s__law_amount ["cell"] := ⟨_, _, fun_mk (st := s__law_amount) l18 c18 k18, PySem.W.mg_of X G a18, (fun_mk (st := s__law_amount) l18 c18 k18).binds fun _ _ _ _ _ _ us hl => match us, hl with | [_], _ => rfl⟩
  have D__law_legs : Dfn K mg "_law_legs" s__law_legs ["cells", "spot", "many", "houses", "wares"] := ⟨_, _, fun_mk (st := s__law_legs) l19 c19 k19, PySem.W.mg_of X G a19, (fun_mk (st := s__law_legs) l19 c19 k19).binds fun _ _ _ _ _ _ us hl => match us, hl with | [_, _, _, _, _], _ => rfl⟩
  refine ⟨PySem.W.fnOf "law" "law" (defArgs s_law) (defBody s_law) (defScope s_law) .none kV20 dc20 pm20 an20 cd20 ct20, fun s v => .of_eq rfl, fun base _ _ => ?_⟩
  have H__law_names := ok__law_names (P := l.prog) (w := w) (base := base) T D__law_names 
  have H__law_rows_same := ok__law_rows_same (P := l.prog) (w := w) (base := base) T D__law_rows_same 
  have H__law_all_stay := ok__law_all_stay (P := l.prog) (w := w) (base := base) T D__law_all_stay H__law_rows_same
  have H__law_cell_at := ok__law_cell_at (P := l.prog) (w := w) (base := base) T D__law_cell_at 
  have H__law_copy := ok__law_copy (P := l.prog) (w := w) (base := base) T D__law_copy 
  have H__law_spoilt := ok__law_spoilt (P := l.prog) (w := w) (base := base) T D__law_spoilt 
  have H__law_stands := ok__law_stands (P := l.prog) (w := w) (base := base) T D__law_stands 
  have H__law_some := ok__law_some (P := l.prog) (w := w) (base := base) T D__law_some 
  have H__law_without := ok__law_without (P := l.prog) (w := w) (base := base) T D__law_without 
  have H_marked := ok_marked (P := l.prog) (w := w) (base := base) T D_marked 
  have H_left := ok_left (P := l.prog) (w := w) (base := base) T D_left H_marked
  have H__law_gives := ok__law_gives (P := l.prog) (w := w) (base := base) T D__law_gives 
  have H_copied := ok_copied (P := l.prog) (w := w) (base := base) T D_copied 
  have H_sheet_of := ok_sheet_of (P := l.prog) (w := w) (base := base) T D_sheet_of 
  have H_gives := ok_gives (P := l.prog) (w := w) (base := base) T D_gives H_sheet_of
  have H_rows_of := ok_rows_of (P := l.prog) (w := w) (base := base) T D_rows_of H_gives
  have H_entered := ok_entered (P := l.prog) (w := w) (base := base) T D_entered H_copied H_rows_of
  have H__law_amount := ok__law_amount (P := l.prog) (w := w) (base := base) T D__law_amount 
  have H__law_legs := ok__law_legs (P := l.prog) (w := w) (base := base) T D__law_legs H__law_cell_at H__law_amount
  exact ok_law (fun_mk (st := s_law) l20 c20 k20) T H__law_names H__law_rows_same H__law_all_stay H__law_cell_at H__law_copy H__law_spoilt H__law_stands H__law_some H__law_without H_left H__law_gives H_entered H__law_legs
theorem walk {l : PySem.W.OpenLaw} {q : Program} {loose : List Str} {XP : (Str → Option Value) → Heap → Prop} {YP : World → Heap → Prop} {d : DefRec} {K : Params → PySem.W.Frag} (hn : l.most = some 63) (hdf : d.params.defaults = [])
    (hY : ∀ (w : World) (h : Heap), YP w h → (K w.params).In h)
    (F : ∀ (w : World) (mg : Str → Option Value) (fa : Addr) (h : Heap), (K w.params).In h → h.Ns mainGlobals mg → mg d.name = some (.ref fa) →
      ∃ fd : FuncData, (∀ (s : Shared) (u : Value), BindsTo s fd ⟨[u], []⟩ [("script", u)]) ∧ ∀ base : Heap, (K w.params).In base → base.Ns mainGlobals mg → FnOk l.prog w (K w.params) mg base CX0 5 fa fd ["script"] (spLaw (K w.params))) :
    PySem.W.WalkO q loose XP YP l.row.toRowW d [] (fun f vs => PySem.call f vs) :=
  L2.walk_of (n := 63) (k := 5) (x := "script") (CX := fun _ => CX0) (sp := fun w => spLaw (K w.params)) hn (by decide) hdf ⟨rfl, by decide, by decide⟩ hY F (fun _ _ a ns hl _ hS => ⟨a, ns, rfl, hS, hl, fun _ => rfl⟩) fun _ _ _ _ _ z => z
end K11
open PySem PySem.W PyProof.Rows
set_option maxRecDepth 100000 in
set_option maxHeartbeats 0 in
theorem PySem.Challenge.cw_dealknot_k11_entered_and_left_holds : PySem.Challenge.rw_dealknot_k11_entered_and_left.Holds := by
  w_on; o_law; k_head; (case hw => w_witness2)
  k_fill
  refine K11.walk (l := PySem.Challenge.rw_dealknot_k11_entered_and_left) rfl rfl (fun w h Y => PySem.W.kIn_of Y) ?F
  case F =>
    intro w mg fa h KX G hmg
    refine' K11.all_mk KX G hmg ?a1 ?l1 ?c1 ?k1 ?a2 ?l2 ?c2 ?k2 ?a3 ?l3 ?c3 ?k3 ?a4 ?l4 ?c4 ?k4 ?a5 ?l5 ?c5 ?k5 ?a6 ?l6 ?c6 ?k6 ?a7 ?l7 ?c7 ?k7 ?a8 ?l8 ?c8 ?k8 ?a9 ?l9 ?c9 ?k9 ?a10 ?l10 ?c10 ?k10 ?a11 ?l11 ?c11 ?k11 ?a12 ?l12 ?c12 ?k12 ?a13 ?l13 ?c13 ?k13 ?a14 ?l14 ?c14 ?k14 ?a15 ?l15 ?c15 ?k15 ?a16 ?l16 ?c16 ?k16 ?a17 ?l17 ?c17 ?k17 ?a18 ?l18 ?c18 ?k18 ?a19 ?l19 ?c19 ?k19 ?a20 ?l20 ?c20 ?k20 ?z_dict ?z_int ?z_isinstance ?z_len ?z_list ?z_range ?z_sorted ?z_tuple
    (case a1 => k_is)
    (case l1 => k_is)
    (case c1 => k_is)
    (case k1 => k_is)
    (case a2 => k_is)
    (case l2 => k_is)
    (case c2 => k_is)
    (case k2 => k_is)
    (case a3 => k_is)
    (case l3 => k_is)
    (case c3 => k_is)
    (case k3 => k_is)
    (case a4 => k_is)
    (case l4 => k_is)
    (case c4 => k_is)
    (case k4 => k_is)
    (case a5 => k_is)
    (case l5 => k_is)
    (case c5 => k_is)
    (case k5 => k_is)
    (case a6 => k_is)
    (case l6 => k_is)
    (case c6 => k_is)
    (case k6 => k_is)
    (case a7 => k_is)
    (case l7 => k_is)
    (case c7 => k_is)
    (case k7 => k_is)
    (case a8 => k_is)
    (case l8 => k_is)
    (case c8 => k_is)
    (case k8 => k_is)
    (case a9 => k_is)
    (case l9 => k_is)
    (case c9 => k_is)
    (case k9 => k_is)
    (case a10 => k_is)
    (case l10 => k_is)
    (case c10 => k_is)
    (case k10 => k_is)
    (case a11 => k_is)
    (case l11 => k_is)
    (case c11 => k_is)
    (case k11 => k_is)
    (case a12 => k_is)
    (case l12 => k_is)
    (case c12 => k_is)
    (case k12 => k_is)
    (case a13 => k_is)
    (case l13 => k_is)
    (case c13 => k_is)
    (case k13 => k_is)
    (case a14 => k_is)
    (case l14 => k_is)
    (case c14 => k_is)
    (case k14 => k_is)
    (case a15 => k_is)
    (case l15 => k_is)
    (case c15 => k_is)
    (case k15 => k_is)
    (case a16 => k_is)
    (case l16 => k_is)
    (case c16 => k_is)
    (case k16 => k_is)
    (case a17 => k_is)
    (case l17 => k_is)
    (case c17 => k_is)
    (case k17 => k_is)
    (case a18 => k_is)
    (case l18 => k_is)
    (case c18 => k_is)
    (case k18 => k_is)
    (case a19 => k_is)
    (case l19 => k_is)
    (case c19 => k_is)
    (case k19 => k_is)
    (case a20 => k_is)
    (case l20 => k_is)
    (case c20 => k_is)
    (case k20 => k_is)
    (case z_dict => k_is)
    (case z_int => k_is)
    (case z_isinstance => k_is)
    (case z_len => k_is)
    (case z_list => k_is)
    (case z_range => k_is)
    (case z_sorted => k_is)
    (case z_tuple => k_is)
