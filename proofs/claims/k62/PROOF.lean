import PyProof.Rows.All
import Wide.All
import OpenK.AllK
import Wide.FinOn
import Lean
import PyProof.EqAt
import PyProof.EqKinds
import PyProof.TupleCall
import PySem.Challenge.RW_dealknot_k62_rows_refused
set_option Elab.async false
set_option linter.all false
set_option maxRecDepth 100000
/-! THE HAND LAYER, for ints, bools, texts, own classes, LISTS and tuples (index, slices, in, append, pop ..), calls, loops. Paste it whole ahead of your own text; what your proof does not reach may be deleted. -/
namespace L2
open PySem PySem.Spec PyProof.Rows

/-- a key: an int or a str -/
abbrev Key := Sum Int Str
def keyIs : Key → Value → Bool
  | .inl k, v => Value.isInt k v
  | .inr x, v => Value.isStrOf x v
def keyH (w : World) : Key → Int
  | .inl k => hashInt k
  | .inr x => hashStr w x
theorem keyIs_shape : ∀ {k : Key} {v : Value}, keyIs k v = true → (∃ i t, k = Sum.inl i ∧ v = Value.int i t) ∨ (∃ x t, k = Sum.inr x ∧ v = Value.str x t)
  | .inl i, v, h => by
    obtain ⟨t, e⟩ := Value.isInt_shape (k := i) (v := v) h
    exact .inl ⟨i, t, rfl, e⟩
  | .inr x, v, h => by
    obtain ⟨t, e⟩ := Value.isStrOf_shape (x := x) (v := v) h
    exact .inr ⟨x, t, rfl, e⟩
theorem keyIs_int (i : Int) (t : Tok) : keyIs (.inl i) (.int i t) = true := by simp [keyIs, Value.isInt]
theorem keyIs_str (x : Str) (t : Tok) : keyIs (.inr x) (.str x t) = true := by simp [keyIs, Value.isStrOf]
theorem key_ll (a b : Int) : decide ((Sum.inl a : Key) = Sum.inl b) = (a == b) := by
  by_cases e : a = b
  · subst e; simp
  · have h : ¬ (Sum.inl a : Key) = Sum.inl b := fun q => e (Sum.inl.inj q)
    rw [decide_eq_false h]
    exact (beq_eq_false_iff_ne.mpr e).symm
theorem key_rr (a b : Str) : decide ((Sum.inr a : Key) = Sum.inr b) = decide (a = b) := by
  by_cases e : a = b
  · subst e; simp
  · have h : ¬ (Sum.inr a : Key) = Sum.inr b := fun q => e (Sum.inr.inj q)
    rw [decide_eq_false h, decide_eq_false e]
theorem key_lr (a : Int) (b : Str) : decide ((Sum.inl a : Key) = Sum.inr b) = false := decide_eq_false (fun q => nomatch q)
theorem key_rl (a : Str) (b : Int) : decide ((Sum.inr a : Key) = Sum.inl b) = false := decide_eq_false (fun q => nomatch q)

def mixKind (prog : Program) (w : World) : PySem.KeyKind prog w Key where
  is := keyIs
  hash := keyH w
  inj := fun v a b ha hb => by
    rcases keyIs_shape ha with ⟨i, t, rfl, rfl⟩ | ⟨x, t, rfl, rfl⟩
    · rcases keyIs_shape hb with ⟨j, u, rfl, e⟩ | ⟨y, u, rfl, e⟩
      · injection e with e1 _; rw [e1]
      · exact nomatch e
    · rcases keyIs_shape hb with ⟨j, u, rfl, e⟩ | ⟨y, u, rfl, e⟩
      · exact nomatch e
      · injection e with e1 _; rw [e1]
  byValue := fun k v h => by
    rcases keyIs_shape h with ⟨i, t, rfl, rfl⟩ | ⟨x, t, rfl, rfl⟩ <;> rfl
  pyHash := fun hv h => by
    rcases keyIs_shape hv with ⟨i, t, rfl, rfl⟩ | ⟨x, t, rfl, rfl⟩
    · exact wpAny_pyHash_int h
    · exact wpAny_pyHash_str h
  eqBool := fun hu hv h => by
    rcases keyIs_shape hu with ⟨i, t, rfl, rfl⟩ | ⟨x, t, rfl, rfl⟩
    · rcases keyIs_shape hv with ⟨j, u, rfl, rfl⟩ | ⟨y, u, rfl, rfl⟩
      · rw [key_ll] at h; exact wpAny_eqBool_int h
      · rw [key_lr] at h; exact SeqAt.EqAt.int_str i t y u _ _ _ _ h
    · rcases keyIs_shape hv with ⟨j, u, rfl, rfl⟩ | ⟨y, u, rfl, rfl⟩
      · rw [key_rl] at h; exact SeqAt.EqAt.str_int x t j u _ _ _ _ h
      · rw [key_rr] at h; exact wpAny_eqBool_str h
  «strs» := fun k x t v h => by
    rcases keyIs_shape h with ⟨i, u, rfl, e⟩ | ⟨y, u, rfl, e⟩
    · exact nomatch e
    · injection e with e1 _
      subst e1
      cases v <;> rfl

end L2

namespace L2
open PySem PySem.Spec PyProof.Rows

/-- a value, without the heap -/
inductive V where
  | non | bl (b : Bool) | int (i : Int) | str (x : Str) | byt (b : Array UInt8) | flt (b : UInt64) | ref (a : Addr) | ty (n : String)
  deriving DecidableEq

def RelV : V → Value → Prop
  | .non, u => u = Value.none
  | .bl b, u => u = Value.bool b
  | .int i, u => ∃ t, u = Value.int i t
  | .str x, u => ∃ t, u = Value.str x t
  | .byt b, u => ∃ t, u = Value.bytes b t
  | .flt b, u => ∃ t, u = Value.float b t
  | .ref a, u => u = Value.ref a
  | .ty n, u => u = Value.type n

abbrev Vals : List V → List Value → Prop := Paired RelV
theorem Vals.length {xs : List V} {us : List Value} (r : Vals xs us) : xs.length = us.length := Paired.length r
theorem Vals.get : ∀ {xs : List V} {us : List Value} {i : Nat} {x : V}, Vals xs us → xs[i]? = some x → ∃ u, us[i]? = some u ∧ RelV x u
  | _, _, _, _, .nil, e => by simp at e
  | _, _, 0, _, .cons r _, e => by simp at e; subst e; exact ⟨_, rfl, r⟩
  | _, _, i + 1, x, .cons _ t, e => by
    obtain ⟨u, h1, h2⟩ := Vals.get (i := i) (x := x) t (by simpa using e)
    exact ⟨u, by simpa using h1, h2⟩
theorem Vals.set {x : V} {u : Value} (r : RelV x u) : ∀ {xs : List V} {us : List Value} (i : Nat), Vals xs us → Vals (xs.set i x) (us.set i u)
  | _, _, _, .nil => .nil
  | _, _, 0, .cons _ t => .cons r t
  | _, _, i + 1, .cons q t => .cons q (Vals.set r i t)
theorem Vals.append : ∀ {xs ys : List V} {us ws : List Value}, Vals xs us → Vals ys ws → Vals (xs ++ ys) (us ++ ws)
  | _, _, _, _, .nil, s => s
  | _, _, _, _, .cons r t, s => .cons r (Vals.append t s)
theorem Vals.take : ∀ {xs : List V} {us : List Value} (n : Nat), Vals xs us → Vals (xs.take n) (us.take n)
  | _, _, 0, _ => .nil
  | _, _, _ + 1, .nil => .nil
  | _, _, n + 1, .cons r t => .cons r (Vals.take n t)
theorem Vals.drop : ∀ {xs : List V} {us : List Value} (n : Nat), Vals xs us → Vals (xs.drop n) (us.drop n)
  | _, _, 0, r => r
  | _, _, _ + 1, .nil => .nil
  | _, _, n + 1, .cons _ t => Vals.drop n t
theorem Vals.none_of : ∀ {xs : List V} {us : List Value} {i : Nat}, Vals xs us → xs[i]? = none → us[i]? = none := fun {xs us i} r e => by
  have h1 := r.length
  have h2 : xs.length ≤ i := List.getElem?_eq_none_iff.mp e
  exact List.getElem?_eq_none_iff.mpr (by omega)

def RelO : Option V → Option Value → Prop
  | some v, some u => RelV v u
  | none, none => True
  | _, _ => False
def KV {κ : Type} : List (κ × V) → List (κ × Value) → Prop := Paired fun (p : κ × V) (q : κ × Value) => p.1 = q.1 ∧ RelV p.2 q.2

/-- a key of a dict (00_mix): an int or a text -/
def kV : Key → V
  | .inl i => .int i
  | .inr x => .str x

/-- a key of a dict: an int, a text, or a tuple of such -/
abbrev KD := Sum Key (List Key)
def hashX (P : Program) (w : World) : KD → Int
  | .inl k => (mixKind P w).hash k
  | .inr ks => tupleKeyHash (mixKind P w) ks
def entX (P : Program) (w : World) (x : KD × Value × Value) : DictEntry := ⟨hashX P w x.1, x.2.1, x.2.2⟩
/-- what stands at a tracked address -/
inductive HO where
  /-- a list -/
  | lst (xs : List V)
  /-- a tuple (never changes) -/
  | tup (xs : List V)
  /-- a dict whose keys are ints and texts; one whose keys are tuples of ints and texts (the empty one is both) -/
  | dK (kvs : List (Key × V)) | dT (kvs : List (List Key × V))
  /-- a dict with any keys of these -/
  | dX (ep : Nat) (kvs : List (KD × V))
  /-- a set of ints: its members, its size -/
  | set (S : Int → Bool) (n : Nat)
  /-- an instance of the class at C, its dict at dx, its attributes -/
  | ins (C dx : Addr) (fs : List (Str × V))
  /-- the dict of the instance at x -/
  | own (x : Addr)
  /-- the dict of an exception -/
  | xd (fs : List (Str × V))
  /-- a bound method, f of x -/
  | met (f x : Addr)
  /-- a range object lo, lo + 1, .. below hi -/
  | rng (lo hi : Int)
  /-- a thing that is known to the object (the script; a dict while a loop walks it): read, never written while it is so -/
  | frz (o : Obj) (u : HO)
  /-- a code object's table -/
  | tbl (ps : Array Value)
  /-- any other thing, by what is true of its one object (a def of one's own: SetO a S n := HO.ext fun h => ..) -/
  | ext (φ : Heap → Prop)

abbrev Hp := Addr → Option HO
def upd (H : Hp) (a : Addr) (o : HO) : Hp := fun b => if b = a then some o else H b
theorem upd_same {H : Hp} {a : Addr} {o : HO} : upd H a o a = some o := by unfold upd; rw [if_pos rfl]
theorem upd_ne {H : Hp} {a b : Addr} {o : HO} (h : b ≠ a) : upd H a o b = H b := by unfold upd; rw [if_neg h]
theorem upd_upd {H : Hp} {a : Addr} {o u : HO} : upd (upd H a o) a u = upd H a u := by
  funext b; unfold upd; split <;> rfl
theorem ne_of_none {H : Hp} {a b : Addr} {o : HO} (h : H a = some o) (h' : H b = none) : a ≠ b := by
  intro e; subst e; rw [h] at h'; cases h'

def KeyU (H : Hp) : KD → Value → Prop
  | .inl k, u => keyIs k u = true
  | .inr ks, u => ∃ b, u = Value.ref b ∧ H b = some (.tup (ks.map kV))
abbrev KX (H : Hp) : List (KD × V) → List (KD × Value × Value) → Prop := Paired fun (p : KD × V) (q : KD × Value × Value) => p.1 = q.1 ∧ KeyU H p.1 q.2.1 ∧ RelV p.2 q.2.2
section
variable (P : Program) (w : World)
def ObjOk (H : Hp) (h : Heap) (a : Addr) : HO → Prop
  | .lst xs => xs.length ≤ sizeLine ∧ ∃ (its : List Value) (n : Nat), Vals xs its ∧ h.get? a = some { cls := .type "list", data := .seq its.toArray n }
  | .tup xs => xs.length ≤ sizeLine ∧ ∃ its : List Value, Vals xs its ∧ IsTup h a its.toArray
  | .dK kvs => kvs.length ≤ sizeLine ∧ (a == sysModules) = false ∧ ∃ vs, KV kvs vs ∧ h.DictOf (mixKind P w) a vs
  | .dT kvs => kvs.length ≤ sizeLine ∧ (a == sysModules) = false ∧ ∃ xs : List (List Key × Addr × Value),
      Paired (fun (p : List Key × V) (q : List Key × Addr × Value) => p.1 = q.1 ∧ H q.2.1 = some (.tup (p.1.map kV)) ∧ RelV p.2 q.2.2) kvs xs ∧
      ∃ o es ep, h.get? a = some o ∧ o.ExactDict ∧ o.data = .dict es ep ∧ es.toList = xs.map (entryOfKey (tupleKind (mixKind P w))) ∧ (xs.map (·.1)).Nodup
  | .dX ep kvs => kvs.length ≤ sizeLine ∧ (a == sysModules) = false ∧ ∃ xs : List (KD × Value × Value), KX H kvs xs ∧
      ∃ o es, h.get? a = some o ∧ o.ExactDict ∧ o.data = .dict es ep ∧ es.toList = xs.map (entX P w) ∧ (xs.map (·.1)).Nodup
  | .set S n => h.SetOf (intKind P w) a S n
  | .ins C dx fs => H dx = some (.own a) ∧ fs.length ≤ 1000 ∧ dx ≠ a ∧ h.get? a = some (PySem.W.instObj C dx) ∧
      ∃ mA, h.Ns1 dx mA ∧ (∀ f, RelO (fs.lookup f) (mA f)) ∧ PySem.Within mA (fs.map (·.1))
  | .own _ => ∃ o, h.get? a = some o
  | .xd fs => ∃ mA, h.Ns1 a mA ∧ ∀ f, RelO (fs.lookup f) (mA f)
  | .rng lo hi => ∃ t u v, h.get? a = some { cls := .type "range", data := .fields #[.int lo t, .int hi u, .int 1 v] }
  | .frz o u => h.get? a = some o ∧ ObjOk H h a u
  | .tbl ps => h.get? a = some { cls := .none, data := .fields ps }
  | .met f x => h.get? a = some (PySem.W.methodObj (.ref f) (.ref x))
  | .ext φ => φ h ∧ (∃ o, h.get? a = some o) ∧ ∀ h1 h2 : Heap, φ h1 → (∀ o, h1.get? a = some o → h2.get? a = some o) → φ h2
/-- the abstract heap is held -/
def HOk (H : Hp) (h : Heap) : Prop := ∀ a o, H a = some o → ObjOk P w H h a o
end

section
variable {P : Program} {w : World} {H H' : Hp} {h h' : Heap} {a : Addr} {o : HO}
theorem ObjOk.lt (x : ObjOk P w H h a o) : a < h.objs.size := by
  cases o with
  | lst xs => obtain ⟨_, _, _, _, e⟩ := x; exact Heap.lt_size e
  | tup xs => obtain ⟨_, _, _, p⟩ := x; exact p.lt
  | dK kvs => obtain ⟨_, _, _, _, o, _, _, e, _⟩ := x; exact Heap.lt_size e
  | dT kvs => obtain ⟨_, _, _, _, o, _, _, e, _⟩ := x; exact Heap.lt_size e
  | dX ep kvs => obtain ⟨_, _, _, _, o, _, e, _⟩ := x; exact Heap.lt_size e
  | set S n => obtain ⟨o, _, _, _, e, _⟩ := x; exact Heap.lt_size e
  | ins C dx fs => obtain ⟨_, _, _, e, _⟩ := x; exact Heap.lt_size e
  | own y => obtain ⟨_, e⟩ := x; exact Heap.lt_size e
  | xd fs => obtain ⟨_, ⟨_, _, _, e, _⟩, _⟩ := x; exact Heap.lt_size e
  | rng lo hi => obtain ⟨_, _, _, e⟩ := x; exact Heap.lt_size e
  | frz ob u => obtain ⟨e, _⟩ := x; exact Heap.lt_size e
  | tbl ps => exact Heap.lt_size (show h.get? a = some _ from x)
  | met f y => exact Heap.lt_size (show h.get? a = some _ from x)
  | ext φ => obtain ⟨_, ⟨_, e⟩, _⟩ := x; exact Heap.lt_size e
theorem Paired.mapP {α β : Type} {F G : α → β → Prop} : ∀ {l₁ : List α} {l₂ : List β}, Paired F l₁ l₂ → (∀ a b, F a b → G a b) → Paired G l₁ l₂
  | _, _, .nil, _ => .nil
  | _, _, .cons r t, f => .cons (f _ _ r) (Paired.mapP t f)
/-- what an object's description leans on: its own object, its own dict, the tuples -/
theorem ObjOk.stay (x : ObjOk P w H h a o) (k : ∀ b u, (b = a ∨ H b = some (.own a)) → h.get? b = some u → h'.get? b = some u)
    (ho : ∀ b, H b = some (.own a) → H' b = some (.own a)) (ht : ∀ b xs, H b = some (.tup xs) → H' b = some (.tup xs)) : ObjOk P w H' h' a o := by
  induction o with
  | lst xs => obtain ⟨z, its, n, r, e⟩ := x; exact ⟨z, its, n, r, k _ _ (.inl rfl) e⟩
  | tup xs => obtain ⟨z, its, r, ob, e, c⟩ := x; exact ⟨z, its, r, ob, k _ _ (.inl rfl) e, c⟩
  | dK kvs => obtain ⟨z, y, vs, r, ob, es, ep, e, c⟩ := x; exact ⟨z, y, vs, r, ob, es, ep, k _ _ (.inl rfl) e, c⟩
  | dT kvs =>
    obtain ⟨z, y, xs, r, ob, es, ep, e, c⟩ := x
    exact ⟨z, y, xs, Paired.mapP r fun p q z => ⟨z.1, ht _ _ z.2.1, z.2.2⟩, ob, es, ep, k _ _ (.inl rfl) e, c⟩
  | dX ep kvs =>
    obtain ⟨z, y, xs, r, ob, es, e, c⟩ := x
    refine ⟨z, y, xs, Paired.mapP r fun p q z => ⟨z.1, ?_, z.2.2⟩, ob, es, k _ _ (.inl rfl) e, c⟩
    have z2 := z.2.1
    cases hp : p.1 with
    | inl k => rw [hp] at z2; exact z2
    | inr ks => rw [hp] at z2; obtain ⟨b, e1, e2⟩ := z2; exact ⟨b, e1, ht _ _ e2⟩
  | set S n => obtain ⟨ob, es, ep, t, e, c⟩ := x; exact ⟨ob, es, ep, t, k _ _ (.inl rfl) e, c⟩
  | ins C dx fs =>
    obtain ⟨d, z, ne, e, mA, ⟨od, es, ep, e2, c⟩, r⟩ := x
    exact ⟨ho _ d, z, ne, k _ _ (.inl rfl) e, mA, ⟨od, es, ep, k _ _ (.inr d) e2, c⟩, r⟩
  | own y => obtain ⟨ob, e⟩ := x; exact ⟨ob, k _ _ (.inl rfl) e⟩
  | xd fs => obtain ⟨mA, ⟨od, es, ep, e, c⟩, r⟩ := x; exact ⟨mA, ⟨od, es, ep, k _ _ (.inl rfl) e, c⟩, r⟩
  | rng lo hi => obtain ⟨t, u, v, e⟩ := x; exact ⟨t, u, v, k _ _ (.inl rfl) e⟩
  | frz ob u ih => obtain ⟨e, q⟩ := x; exact ⟨k _ _ (.inl rfl) e, ih q⟩
  | tbl ps =>
    have e : h.get? a = some { cls := .none, data := .fields ps } := x
    show h'.get? a = some { cls := .none, data := .fields ps }
    exact k a _ (.inl rfl) e
  | met f y =>
    have e : h.get? a = some (PySem.W.methodObj (.ref f) (.ref y)) := x
    show h'.get? a = some (PySem.W.methodObj (.ref f) (.ref y))
    exact k a _ (.inl rfl) e
  | ext φ => obtain ⟨p, ⟨o, e⟩, st⟩ := x; exact ⟨st _ _ p fun o q => k _ _ (.inl rfl) q, ⟨o, k _ _ (.inl rfl) e⟩, st⟩
theorem HOk.lt (x : HOk P w H h) (e : H a = some o) : a < h.objs.size := (x a o e).lt
theorem HOk.fresh (x : HOk P w H h) (e : h.objs.size ≤ a) : H a = none := by
  cases q : H a with
  | none => rfl
  | some u => exact absurd (Nat.lt_of_lt_of_le (x.lt q) e) (Nat.lt_irrefl _)
/-- every object of the heap is kept -/
theorem HOk.kept (x : HOk P w H h) (k : ∀ b u, h.get? b = some u → h'.get? b = some u) : HOk P w H h' := fun a o e =>
  (x a o e).stay (fun b u _ q => k b u q) (fun _ q => q) fun _ _ q => q
/-- a new object is laid and tracked -/
theorem HOk.laid (x : HOk P w H h) (k : ∀ b u, h.get? b = some u → h'.get? b = some u) (hp : h.objs.size ≤ a) (new : ObjOk P w (upd H a o) h' a o) : HOk P w (upd H a o) h' := fun b u e => by
  have hn := x.fresh hp
  by_cases hb : b = a
  · subst hb; rw [upd_same] at e; cases e; exact new
  · rw [upd_ne hb] at e
    exact (x b u e).stay (fun c v _ q => k c v q) (fun c q => by rw [upd_ne (ne_of_none q hn)]; exact q) fun c xs q => by rw [upd_ne (ne_of_none q hn)]; exact q
end

/-- what may be read as u: it is u, or a known u -/
def Rd (H : Hp) (a : Addr) (u : HO) : Prop := H a = some u ∨ ∃ o, H a = some (.frz o u)
theorem Rd.of {H : Hp} {a : Addr} {u : HO} (h : H a = some u) : Rd H a u := .inl h
theorem Rd.ok {P : Program} {w : World} {H : Hp} {h : Heap} {a : Addr} {u : HO} (r : Rd H a u) (x : HOk P w H h) : ObjOk P w H h a u := by
  rcases r with r | ⟨o, r⟩
  · exact x a u r
  · obtain ⟨_, q⟩ := x a _ r
    exact q
/-- what may be written -/
def Mut : Option HO → Prop
  | some (.lst _) => True
  | some (.dK _) => True
  | some (.dT _) => True
  | some (.dX _ _) => True
  | some (.set _ _) => True
  | some (.ins _ _ _) => True
  | some (.ext _) => True
  | _ => False
section
variable {P : Program} {w : World} {H : Hp} {h h' : Heap} {x e : Addr} {o' : HO}
/-- the object at e is changed: x itself, or the dict of the instance x -/
theorem HOk.write (ok : HOk P w H h) (mu : Mut (H x)) (he : e = x ∨ H e = some (.own x)) (k : ∀ b u, b ≠ e → h.get? b = some u → h'.get? b = some u) (heo : ∃ u, h'.get? e = some u)
    (new : ObjOk P w (upd H x o') h' x o') : HOk P w (upd H x o') h' := fun b u q => by
  have nown : ∀ c y, H c = some (.own y) → c ≠ x := fun c y r z => by subst z; rw [r] at mu; exact mu
  have ntup : ∀ c xs, H c = some (.tup xs) → c ≠ x := fun c xs r z => by subst z; rw [r] at mu; exact mu
  by_cases hb : b = x
  · subst hb; rw [upd_same] at q; cases q; exact new
  · rw [upd_ne hb] at q
    by_cases hbe : b = e
    · have q' : H b = some (.own x) := by
        rcases he with z | z
        · exact absurd (hbe.trans z) hb
        · rw [hbe]; exact z
      rw [q] at q'; cases q'
      obtain ⟨v, hv⟩ := heo
      exact ⟨v, by rw [hbe]; exact hv⟩
    · refine (ok b u q).stay (fun c v hc r => k c v ?_ r) (fun c r => by rw [upd_ne (nown c b r)]; exact r) fun c xs r => by rw [upd_ne (ntup c xs r)]; exact r
      rcases hc with rfl | hc
      · exact hbe
      · rintro rfl
        rcases he with z | z
        · exact nown c b hc z
        · rw [hc] at z; cases z; exact hb rfl
end

/-! ### kept unless tracked; of the frames at fs (the callers') the slots may change (an exception that passes writes there); of the records at ex (iterators) nothing is said -/
structure Un (fs ex : List Addr) (H H' : Hp) (h h' : Heap) : Prop where
  keep : ∀ b o, h.get? b = some o → H b = none → b ∉ fs → b ∉ ex → h'.get? b = some o
  slot : ∀ b o, h.get? b = some o → H b = none → b ∈ fs → b ∉ ex → ∃ sl, h'.get? b = some { o with slots := sl }
  free : ∀ b o, h.get? b = some o → H b = none → b ∉ ex → H' b = none
  there : ∀ b o, h.get? b = some o → b ∉ ex → ∃ o', h'.get? b = some o'
  tups : ∀ b xs, H b = some (.tup xs) → H' b = some (.tup xs)
  frzs : ∀ b o u, H b = some (.frz o u) → H' b = some (.frz o u)
  tbls : ∀ b ps, H b = some (.tbl ps) → ∃ more, H' b = some (.tbl (ps ++ more))
section
variable {fs fs' ex ex' : List Addr} {H H1 H2 : Hp} {h h1 h2 h' : Heap} {a x e : Addr} {o : HO}
theorem Un.any (u : Un fs ex H H1 h h1) {b : Addr} {ob : Obj} (q : h.get? b = some ob) (n : H b = none) (hx : b ∉ ex) : ∃ sl, h1.get? b = some { ob with slots := sl } := by
  by_cases hb : b ∈ fs
  · exact u.slot b ob q n hb hx
  · exact ⟨ob.slots, u.keep b ob q n hb hx⟩
theorem Un.trans (a : Un fs ex H H1 h h1) (b : Un fs ex H1 H2 h1 h2) : Un fs ex H H2 h h2 where
  keep := fun c ob q n hc hx => b.keep c ob (a.keep c ob q n hc hx) (a.free c ob q n hx) hc hx
  slot := fun c ob q n hc hx => by
    obtain ⟨sl, e1⟩ := a.slot c ob q n hc hx
    obtain ⟨sl', e2⟩ := b.slot c _ e1 (a.free c ob q n hx) hc hx
    exact ⟨sl', e2⟩
  free := fun c ob q n hx => by
    obtain ⟨o', e1⟩ := a.there c ob q hx
    exact b.free c o' e1 (a.free c ob q n hx) hx
  there := fun c ob q hx => by
    obtain ⟨o', e1⟩ := a.there c ob q hx
    exact b.there c o' e1 hx
  tups := fun c xs q => b.tups c xs (a.tups c xs q)
  frzs := fun c ob xs q => b.frzs c ob xs (a.frzs c ob xs q)
  tbls := fun c ps q => by
    obtain ⟨m1, e1⟩ := a.tbls c ps q
    obtain ⟨m2, e2⟩ := b.tbls c _ e1
    exact ⟨m1 ++ m2, by rw [e2, Array.append_assoc]⟩
theorem Un.kept (k : ∀ b u, h.get? b = some u → h'.get? b = some u) : Un fs ex H H h h' :=
  ⟨fun b ob q _ _ _ => k b ob q, fun b ob q _ _ _ => ⟨ob.slots, k b ob q⟩, fun _ _ _ n _ => n, fun b ob q _ => ⟨ob, k b ob q⟩, fun _ _ q => q, fun _ _ _ q => q, fun _ ps q => ⟨#[], by rw [q]; simp⟩⟩
theorem Un.refl : Un fs ex H H h h := Un.kept fun _ _ q => q
theorem Un.laid (k : ∀ b u, h.get? b = some u → h'.get? b = some u) (hp : h.objs.size ≤ a) (hn : H a = none) : Un fs ex H (upd H a o) h h' where
  keep := fun b u q _ _ _ => k b u q
  slot := fun b u q _ _ _ => ⟨u.slots, k b u q⟩
  free := fun b u q n _ => by rw [upd_ne (Nat.ne_of_lt (Nat.lt_of_lt_of_le (Heap.lt_size q) hp))]; exact n
  there := fun b u q _ => ⟨u, k b u q⟩
  tups := fun b xs q => by rw [upd_ne (ne_of_none q hn)]; exact q
  frzs := fun b u xs q => by rw [upd_ne (ne_of_none q hn)]; exact q
  tbls := fun b ps q => ⟨#[], by rw [upd_ne (ne_of_none q hn), q]; simp⟩
theorem Un.write (mu : Mut (H x)) (he : e = x ∨ H e = some (.own x)) (k : ∀ b u, b ≠ e → h.get? b = some u → h'.get? b = some u) (heo : ∃ u, h'.get? e = some u) : Un fs ex H (upd H x o) h h' := by
  have hx : ∀ b, H b = none → b ≠ x := fun b n z => by subst z; rw [n] at mu; exact mu
  have hb : ∀ b, H b = none → b ≠ e := fun b n z => by
    subst z
    rcases he with r | r
    · exact hx b n r
    · rw [n] at r; cases r
  have hm : ∀ b u, H b = some u → ¬ Mut (some u) → b ≠ x := fun b u q nm z => by subst z; rw [q] at mu; exact nm mu
  refine ⟨fun b u q n _ _ => k b u (hb b n) q, fun b u q n _ _ => ⟨u.slots, k b u (hb b n) q⟩, fun b u q n _ => by rw [upd_ne (hx b n)]; exact n, fun b u q _ => ?_,
    fun b xs q => by rw [upd_ne (hm b _ q fun z => z)]; exact q, fun b u xs q => by rw [upd_ne (hm b _ q fun z => z)]; exact q, fun b ps q => ⟨#[], by rw [upd_ne (hm b _ q fun z => z), q]; simp⟩⟩
  by_cases hbe : b = e
  · subst hbe; exact heo
  · exact ⟨u, k b u hbe q⟩
theorem Un.mono (u : Un fs ex H H1 h h1) (hs : ∀ b ∈ fs, b ∈ fs') (hx : ∀ b ∈ ex, b ∈ ex') : Un fs' ex' H H1 h h1 :=
  ⟨fun b ob q n hb he => u.keep b ob q n (fun z => hb (hs b z)) fun z => he (hx b z), fun _ _ q n _ he => u.any q n fun z => he (hx _ z), fun b ob q n he => u.free b ob q n fun z => he (hx b z), fun b ob q he => u.there b ob q fun z => he (hx b z), u.tups, u.frzs, u.tbls⟩
end

/-! ### the heap without what is tracked -/
def trk (h : Heap) (H : Hp) : List Addr := (List.range h.objs.size).filter fun a => (H a).isSome
def hidT (h : Heap) (H : Hp) : Heap := PySem.W.hideAll h (trk h H)
theorem hidT_size (h : Heap) (H : Hp) : (hidT h H).objs.size = h.objs.size := PySem.W.hideAll_size _ _
theorem hidT_get {h : Heap} {H : Hp} {b : Addr} {o : Obj} (e : h.get? b = some o) (n : H b = none) : (hidT h H).get? b = some o :=
  PySem.W.hideAll_get _ e fun hm => by
    have q : (H b).isSome = true := (List.mem_filter.mp hm).2
    rw [n] at q; simp at q
theorem of_hidT {h : Heap} {H : Hp} {b : Addr} {o : Obj} (e : (hidT h H).get? b = some o) : h.get? b = some o ∧ H b = none := by
  have e' : h.get? b = some o := PySem.W.of_hideAll (trk h H) e
  refine ⟨e', ?_⟩
  cases q : H b with
  | none => rfl
  | some x =>
    have hm : b ∈ trk h H := List.mem_filter.mpr ⟨List.mem_range.mpr (Heap.lt_size e'), by simp [q]⟩
    have z : (hidT h H).get? b = none := PySem.W.hideAll_none (trk h H) hm
    rw [z] at e; cases e

/-! ### OpenK's ledger, filled with every new object but one -/
def allNews (g h : Heap) (L : Addr) : List (Addr × Obj) := (List.range h.objs.size).filterMap fun a => if a = L ∨ (g.get? a).isSome = true then none else (h.get? a).map fun o => (a, o)
def rest (g h : Heap) (L d : Addr) : List (Addr × Obj) := (allNews g h L).filter fun p => decide (p.1 ≠ d)
end L2

namespace L2
open PySem PySem.Spec PyProof.Rows

/-- the module's facts, over the base: the heap at the law's entry without what is tracked there -/
structure Mod (K : PySem.W.Frag) (mg : Str → Option Value) (base : Heap) : Prop where
  kin : K.In base
  glob : base.Ns mainGlobals mg
  blt : ∃ mb, base.Ns builtinsNs mb ∧ ∀ x : Str, x ≠ "__name__" → mb x = bootBuiltins x
  nolimit : base.NoLimit

/-- the context: a def's body (or a comprehension's block) running. base: fixed through the whole law; s₀, H₀: the entry; outer: the frames whose slots others may change (a def's callers); stack: all frames that run;
   ex: iterators that were made ahead of the entry and are walked here (a comprehension's); fn: the names whose cells were made at the entry (a def: all; a comprehension's block: its own); calm: not within an except suite; pn: pins that every state bears; xe: what is wanted of an exception that leaves the code -/
structure Cx where
  prog : Program
  w : World
  K : PySem.W.Frag
  mg : Str → Option Value
  base : Heap
  A : Around
  N : List Str
  s₀ : Shared
  H₀ : Hp
  env : Env
  outer : List Env
  stack : List Env
  ex : List Addr
  fn : Str → Bool
  calm : Bool
  pn : List (Addr × Obj)
  xe : Value → Shared → Prop
/-- the callers' frames -/
def frs (l : List Env) : List Addr := l.filterMap (·.frame)
abbrev Cx.fs (X : Cx) : List Addr := frs X.outer

def Vis (sc : Scope) (x : Str) : Prop := sc.names.lookup x = some .local ∨ sc.names.lookup x = some .cell ∨ sc.names.lookup x = some .free
def Loc (sc : Scope) (x : Str) : Prop := sc.names.lookup x = some .local ∨ sc.names.lookup x = some .cell
def Look (env : Env) (h : Heap) (m : Str → Option Value) (x : Str) (u : Value) : Prop :=
  (env.kindOf x = some .local ∧ m x = some u) ∨ ((env.kindOf x = some .cell ∨ env.kindOf x = some .free) ∧ ∃ c, env.cells.lookup x = some c ∧ h.IsCell c (some u))

structure Cx.Ok (X : Cx) : Prop where
  mod : Mod X.K X.mg X.base
  kind : X.env.scope.kind = .function
  glob : X.env.globals = mainGlobals
  blt : X.env.builtins = builtinsNs
  above : X.s₀.heap.objs.size ≤ X.env.locals
  inj : ∀ x y c, X.env.cells.lookup x = some c → X.env.cells.lookup y = some c → x = y
  has : ∀ x, (X.env.kindOf x = some .cell ∨ X.env.kindOf x = some .free) → ∃ c, X.env.cells.lookup x = some c
  cab : ∀ x c, X.fn x = true → X.env.cells.lookup x = some c → X.s₀.heap.objs.size ≤ c
  hd : X.calm = true → X.A.handled = none
  frames : X.A.frames = some X.stack
  stk : X.stack = X.outer ∨ (X.stack = X.env :: X.outer ∧ X.env.frame = some X.env.locals)
  exf : ∀ b ∈ X.ex, b ≠ X.env.locals ∧ ∀ x c, X.env.cells.lookup x = some c → c ≠ b
  bs : ∀ b o, X.base.get? b = some o → X.s₀.heap.get? b = some o ∧ X.H₀ b = none
  bsz : X.base.objs.size ≤ X.s₀.heap.objs.size
  noex : ∀ b o, X.base.get? b = some o → b ∉ X.ex
  exfs : ∀ b ∈ X.ex, b ∉ X.fs
  funs : X.s₀.heap.FunFrames X.base X.outer
  frf : ∀ b ∈ X.fs, X.H₀ b = none

structure Inv (X : Cx) (pins : List (Addr × Obj)) (σ : List (Option V)) (H : Hp) (s : Shared) : Prop where
  ok : X.Ok
  os : s.os = X.s₀.os
  bare : AllBare s.gens
  base : Un X.fs X.ex X.H₀ H X.s₀.heap s.heap
  loc : ∃ m, s.heap.Ns X.env.locals m ∧ ∀ (i : Nat) (x : Str) (v : V), X.N[i]? = some x → σ[i]? = some (some v) → Vis X.env.scope x → ∃ u, RelV v u ∧ Look X.env s.heap m x u
  cell : ∀ x c, X.env.cells.lookup x = some c → ∃ v, s.heap.IsCell c v
  free : H X.env.locals = none
  freeC : ∀ x c, X.env.cells.lookup x = some c → H c = none
  pin : ∀ p ∈ X.pn ++ pins, s.heap.get? p.1 = some p.2 ∧ H p.1 = none ∧ p.1 ≠ X.env.locals ∧ p.1 ∉ X.fs ∧ ∀ v, p.2.data ≠ .cell v
  hok : HOk X.prog X.w H s.heap
  len : σ.length = X.N.length

section
variable {X : Cx} {pins : List (Addr × Obj)} {σ : List (Option V)} {H H' : Hp} {s : Shared} {h' : Heap}

theorem Cx.Ok.nofr (ok : X.Ok) {b : Addr} {o : Obj} (e : X.base.get? b = some o) : b ∉ X.fs := fun hb => by
  have := (ok.funs.mem hb).1
  rw [e] at this; cases this
theorem Inv.bs (I : Inv X pins σ H s) : ∀ b o, X.base.get? b = some o → s.heap.get? b = some o ∧ H b = none := fun b o e =>
  ⟨I.base.keep b o (I.ok.bs b o e).1 (I.ok.bs b o e).2 (I.ok.nofr e) (I.ok.noex b o e), I.base.free b o (I.ok.bs b o e).1 (I.ok.bs b o e).2 (I.ok.noex b o e)⟩
theorem Inv.bk (I : Inv X pins σ H s) : ∀ b o, X.base.get? b = some o → s.heap.get? b = some o := fun b o e => (I.bs b o e).1
theorem Inv.mod (I : Inv X pins σ H s) : Mod X.K X.mg X.base := I.ok.mod
theorem Inv.kIn (I : Inv X pins σ H s) : X.K.In s.heap := I.ok.mod.kin.keeps I.bk
theorem Inv.nolimit (I : Inv X pins σ H s) : s.heap.NoLimit := I.ok.mod.nolimit.keeps I.bk
/-- the frame over the base: for OpenK's rules (K.In X.base is I.mod.kin) -/
theorem Inv.fr (I : Inv X pins σ H s) : ∃ m, Fr X.base X.env.locals s.heap m :=
  let ⟨m, hn, _⟩ := I.loc
  ⟨m, hn, I.bk, Nat.le_trans I.ok.bsz I.ok.above⟩
theorem Inv.lt (I : Inv X pins σ H s) : X.env.locals < s.heap.objs.size := let ⟨_, hn, _⟩ := I.loc; hn.lt
theorem Inv.sz (I : Inv X pins σ H s) : X.s₀.heap.objs.size ≤ s.heap.objs.size := Nat.le_trans I.ok.above (Nat.le_of_lt I.lt)
theorem Inv.nofs (I : Inv X pins σ H s) {a : Addr} (h : s.heap.objs.size ≤ a) : a ∉ X.fs := fun hb => by
  obtain ⟨_, o, ho, _⟩ := I.ok.funs.mem hb
  exact absurd (Nat.lt_of_lt_of_le (Heap.lt_size ho) (Nat.le_trans I.sz h)) (Nat.lt_irrefl _)
theorem Inv.cne (I : Inv X pins σ H s) : ∀ x c, X.env.cells.lookup x = some c → c ≠ X.env.locals := fun x c e z => by
  obtain ⟨v, o, ho, hd⟩ := I.cell x c e
  obtain ⟨m, ⟨o', es, ep, ho', hd', _⟩, _⟩ := I.loc
  rw [z, ho'] at ho; cases ho; rw [hd'] at hd; cases hd
theorem Inv.funs (I : Inv X pins σ H s) : s.heap.FunFrames X.base X.outer := by
  have all : ∀ (l : List Env), (∀ b ∈ frs l, b ∈ X.fs) → X.s₀.heap.FunFrames X.base l → s.heap.FunFrames X.base l := by
    intro l
    induction l with
    | nil => intro _ _; trivial
    | cons env r ih =>
      intro hs hl
      obtain ⟨hk, ⟨L, o, hf, hn, ho, hd⟩, hr⟩ := hl
      have hL : L ∈ X.fs := hs L (by unfold frs; rw [List.filterMap_cons, hf]; exact List.mem_cons_self)
      obtain ⟨sl, e⟩ := I.base.slot L o ho (I.ok.frf L hL) hL fun z => I.ok.exfs L z hL
      exact ⟨hk, ⟨L, _, hf, hn, e, hd⟩, ih (fun b hb => hs b (by unfold frs; rw [List.filterMap_cons, hf]; exact List.mem_cons_of_mem _ hb)) hr⟩
  exact all X.outer (fun _ hb => hb) I.ok.funs

/-- the frames that run, for a call -/
theorem Inv.stack (I : Inv X pins σ H s) : s.heap.FunFrames X.base X.stack := by
  rcases I.ok.stk with e | ⟨e, hf⟩
  · rw [e]; exact I.funs
  · rw [e]
    obtain ⟨m, hn, _⟩ := I.loc
    refine .cons (by rw [I.ok.kind]; decide) hf hn ?_ I.funs
    exact Heap.get?_none_of_le (Nat.le_trans I.ok.bsz I.ok.above)
theorem Inv.stkSub (I : Inv X pins σ H s) : ∀ b ∈ frs X.stack, b ∈ X.env.locals :: X.fs := fun b hb => by
  rcases I.ok.stk with e | ⟨e, hf⟩
  · rw [e] at hb; exact List.mem_cons_of_mem _ hb
  · rw [e] at hb
    unfold frs at hb
    rw [List.filterMap_cons, hf] at hb
    exact hb
theorem Inv.stkFree (I : Inv X pins σ H s) : ∀ b ∈ frs X.stack, H b = none := fun b hb => by
  rcases List.mem_cons.mp (I.stkSub b hb) with e | hb
  · rw [e]; exact I.free
  · obtain ⟨_, o, ho, _⟩ := I.ok.funs.mem hb
    exact I.base.free b o ho (I.ok.frf b hb) fun z => I.ok.exfs b z hb

/-- THE STEP: the untracked objects but the frame and the records at ch are kept (the callers' frames up to slots), the frame's map is kept, the new abstract heap is held -/
theorem Inv.step {g' : Array GenState} {t' : Nat} {d' : Drawn} {ch : List Addr} (I : Inv X pins σ H s)
    (hch : ∀ b ∈ ch, (b ∈ X.ex ∨ X.s₀.heap.objs.size ≤ b) ∧ b ≠ X.env.locals ∧ (∀ x c, X.env.cells.lookup x = some c → c ≠ b) ∧ ∀ p ∈ X.pn ++ pins, p.1 ≠ b)
    (keep : ∀ b o, b ≠ X.env.locals → b ∉ X.fs → b ∉ ch → s.heap.get? b = some o → H b = none → h'.get? b = some o)
    (slot : ∀ b o, b ≠ X.env.locals → b ∈ X.fs → b ∉ ch → s.heap.get? b = some o → H b = none → ∃ sl, h'.get? b = some { o with slots := sl }) (free : ∀ b o, b ∉ ch → s.heap.get? b = some o → H b = none → H' b = none)
    (there : ∀ b o, b ∉ ch → s.heap.get? b = some o → ∃ o', h'.get? b = some o')
    (tups : ∀ b xs, H b = some (.tup xs) → H' b = some (.tup xs)) (frzs : ∀ b o u, H b = some (.frz o u) → H' b = some (.frz o u)) (tbls : ∀ b ps, H b = some (.tbl ps) → ∃ more, H' b = some (.tbl (ps ++ more)))
    (ns : ∀ m, s.heap.Ns X.env.locals m → h'.Ns X.env.locals m) (hok : HOk X.prog X.w H' h') (hg : AllBare g') :
    Inv X pins σ H' { s with heap := h', gens := g', drawn := d', toks := t' } := by
  have neL : ∀ b o, X.s₀.heap.get? b = some o → b ≠ X.env.locals := fun b o e => Nat.ne_of_lt (Nat.lt_of_lt_of_le (Heap.lt_size e) I.ok.above)
  have neC : ∀ b o, X.s₀.heap.get? b = some o → b ∉ X.ex → b ∉ ch := fun b o e hx hb => by
    rcases (hch b hb).1 with z | z
    · exact hx z
    · exact absurd (Nat.lt_of_lt_of_le (Heap.lt_size e) z) (Nat.lt_irrefl _)
  have cellK : ∀ x c, X.env.cells.lookup x = some c → ∀ v, s.heap.IsCell c v → h'.IsCell c v := fun x c e v ⟨o, ho, hd⟩ => by
    have nch : c ∉ ch := fun z => (hch c z).2.2.1 x c e rfl
    by_cases hc : c ∈ X.fs
    · obtain ⟨sl, q⟩ := slot c o (I.cne x c e) hc nch ho (I.freeC x c e)
      exact ⟨_, q, hd⟩
    · exact ⟨o, keep c o (I.cne x c e) hc nch ho (I.freeC x c e), hd⟩
  refine ⟨I.ok, I.os, hg, ⟨fun b o e n hb hx => ?_, fun b o e n hb hx => ?_, fun b o e n hx => ?_, fun b o e hx => ?_, fun b xs e => tups b xs (I.base.tups b xs e), fun b o xs e => frzs b o xs (I.base.frzs b o xs e), fun b ps e => ?_⟩, ?_, fun x c e => ?_, ?_, fun x c e => ?_, fun p hp => ?_, hok, I.len⟩
  · exact keep b o (neL b o e) hb (neC b o e hx) (I.base.keep b o e n hb hx) (I.base.free b o e n hx)
  · obtain ⟨sl, e1⟩ := I.base.slot b o e n hb hx
    obtain ⟨sl', e2⟩ := slot b _ (neL b o e) hb (neC b o e hx) e1 (I.base.free b o e n hx)
    exact ⟨sl', e2⟩
  · obtain ⟨o', e1⟩ := I.base.there b o e hx
    exact free b o' (neC b o e hx) e1 (I.base.free b o e n hx)
  · obtain ⟨o', e1⟩ := I.base.there b o e hx
    exact there b o' (neC b o e hx) e1
  · obtain ⟨m1, e1⟩ := I.base.tbls b ps e
    obtain ⟨m2, e2⟩ := tbls b _ e1
    exact ⟨m1 ++ m2, by rw [e2, Array.append_assoc]⟩
  · obtain ⟨m, hn, hl⟩ := I.loc
    refine ⟨m, ns m hn, fun i x v e1 e2 e3 => ?_⟩
    obtain ⟨u, r, l⟩ := hl i x v e1 e2 e3
    refine ⟨u, r, ?_⟩
    rcases l with l | ⟨k, c, e, z⟩
    · exact .inl l
    · exact .inr ⟨k, c, e, cellK x c e _ z⟩
  · obtain ⟨v, z⟩ := I.cell x c e
    exact ⟨v, cellK x c e v z⟩
  · obtain ⟨m, ⟨o, _, _, ho, _⟩, _⟩ := I.loc
    exact free _ o (fun z => (hch _ z).2.1 rfl) ho I.free
  · obtain ⟨v, o, ho, hd⟩ := I.cell x c e
    exact free c o (fun z => (hch c z).2.2.1 x c e rfl) ho (I.freeC x c e)
  · obtain ⟨e, n, ne, nf, d⟩ := I.pin p hp
    have nch : p.1 ∉ ch := fun z => (hch p.1 z).2.2.2 p hp rfl
    exact ⟨keep p.1 p.2 ne nf nch e n, free p.1 p.2 nch e n, ne, nf, d⟩
/-- .. where the frame's own object is kept too -/
theorem Inv.un {t' : Nat} (I : Inv X pins σ H s) (u : Un X.fs [] H H' s.heap h') (hok : HOk X.prog X.w H' h') : Inv X pins σ H' { s with heap := h', toks := t' } := by
  obtain ⟨m, ⟨o, es, ep, ho, r⟩, _⟩ := id I.loc
  obtain ⟨sl, hL⟩ := u.any ho I.free (by simp)
  exact I.step (g' := s.gens) (d' := s.drawn) (ch := []) (fun _ z => nomatch z) (fun b o _ hb _ e n => u.keep b o e n hb (by simp)) (fun b o _ hb _ e n => u.slot b o e n hb (by simp)) (fun b o _ e n => u.free b o e n (by simp)) (fun b o _ e => u.there b o e (by simp)) u.tups u.frzs u.tbls (fun m' hm => by
    obtain ⟨o', es', ep', ho', r'⟩ := hm
    rw [ho] at ho'; cases ho'
    exact ⟨_, es', ep', hL, r'⟩) hok I.bare
/-- behind a call (or a comprehension's block): the slots of this frame may have changed too, the records at ch may have turned -/
theorem Inv.call {g' : Array GenState} {t' : Nat} {d' : Drawn} {ch : List Addr} (I : Inv X pins σ H s) (u : Un (frs X.stack) ch H H' s.heap h') (hok : HOk X.prog X.w H' h') (hg : AllBare g')
    (hch : ∀ b ∈ ch, (b ∈ X.ex ∨ X.s₀.heap.objs.size ≤ b) ∧ b ≠ X.env.locals ∧ (∀ x c, X.env.cells.lookup x = some c → c ≠ b) ∧ ∀ p ∈ X.pn ++ pins, p.1 ≠ b) :
    Inv X pins σ H' { s with heap := h', gens := g', drawn := d', toks := t' } := by
  obtain ⟨m, ⟨o, es, ep, ho, r⟩, _⟩ := id I.loc
  obtain ⟨sl, hL⟩ := u.any ho I.free fun z => (hch _ z).2.1 rfl
  exact I.step (ch := ch) hch (fun b o hL hb hc e n => u.keep b o e n (fun z => (List.mem_cons.mp (I.stkSub b z)).elim hL hb) hc) (fun b o _ _ hc e n => u.any e n hc) (fun b o hc e n => u.free b o e n hc) (fun b o hc e => u.there b o e hc) u.tups u.frzs u.tbls (fun m' hm => by
    obtain ⟨o', es', ep', ho', r'⟩ := hm
    rw [ho] at ho'; cases ho'
    exact ⟨_, es', ep', hL, r'⟩) hok hg
/-- an untracked record of ours (an iterator) has turned -/
theorem Inv.turned {t' : Nat} {it : Addr} (I : Inv X pins σ H s) (k : ∀ b o, b ≠ it → s.heap.get? b = some o → h'.get? b = some o) (hn : H it = none) (hL : it ≠ X.env.locals)
    (h1 : it ∈ X.ex ∨ X.s₀.heap.objs.size ≤ it) (h2 : ∀ x c, X.env.cells.lookup x = some c → c ≠ it) (h3 : ∀ p ∈ X.pn ++ pins, p.1 ≠ it) : Inv X pins σ H { s with heap := h', toks := t' } := by
  have nit : ∀ b u, H b = some u → b ≠ it := fun b u e z => by rw [z, hn] at e; cases e
  refine I.step (g' := s.gens) (d' := s.drawn) (ch := [it]) (fun b hb => ?_) (fun b o _ _ hc e _ => k b o (fun z => hc (by simp [z])) e) (fun b o _ _ hc e _ => ⟨o.slots, k b o (fun z => hc (by simp [z])) e⟩) (fun _ _ _ _ n => n)
    (fun b o hc e => ⟨o, k b o (fun z => hc (by simp [z])) e⟩) (fun _ _ e => e) (fun _ _ _ e => e) (fun b ps e => ⟨#[], by rw [e]; simp⟩) (fun m hm => ?_) (fun b u e => ?_) I.bare
  · have e : b = it := by simpa using hb
    subst e
    exact ⟨h1, hL, h2, h3⟩
  · obtain ⟨o, es, ep, ho, r⟩ := hm
    exact ⟨o, es, ep, k _ o (Ne.symm hL) ho, r⟩
  · refine (I.hok b u e).stay (fun c v hc q => k c v ?_ q) (fun _ q => q) fun _ _ q => q
    rcases hc with z | z
    · rw [z]; exact nit b u e
    · exact nit c _ z
theorem Inv.tok (I : Inv X pins σ H s) (t : Nat) : Inv X pins σ H { s with toks := t } := I.un (h' := s.heap) (t' := t) Un.refl I.hok
/-- all objects kept -/
theorem Inv.kept {t' : Nat} (I : Inv X pins σ H s) (k : ∀ b u, s.heap.get? b = some u → h'.get? b = some u) : Inv X pins σ H { s with heap := h', toks := t' } := I.un (Un.kept k) (I.hok.kept k)
/-- a new object laid and tracked -/
theorem Inv.laid {a : Addr} {o : HO} {t' : Nat} (I : Inv X pins σ H s) (k : ∀ b u, s.heap.get? b = some u → h'.get? b = some u) (hp : s.heap.objs.size ≤ a) (new : ObjOk X.prog X.w (upd H a o) h' a o) :
    Inv X pins σ (upd H a o) { s with heap := h', toks := t' } := I.un (Un.laid k hp (I.hok.fresh hp)) (I.hok.laid k hp new)
/-- an object written -/
theorem Inv.write {x e : Addr} {o : HO} {t' : Nat} (I : Inv X pins σ H s) (mu : Mut (H x)) (he : e = x ∨ H e = some (.own x)) (k : ∀ b u, b ≠ e → s.heap.get? b = some u → h'.get? b = some u) (heo : ∃ u, h'.get? e = some u)
    (new : ObjOk X.prog X.w (upd H x o) h' x o) : Inv X pins σ (upd H x o) { s with heap := h', toks := t' } := I.un (Un.write mu he k heo) (I.hok.write mu he k heo new)
theorem Inv.pins_of {pins' : List (Addr × Obj)} (I : Inv X pins σ H s) (h : ∀ p ∈ pins', s.heap.get? p.1 = some p.2 ∧ H p.1 = none ∧ p.1 ≠ X.env.locals ∧ p.1 ∉ X.fs ∧ ∀ v, p.2.data ≠ .cell v) : Inv X pins' σ H s :=
  ⟨I.ok, I.os, I.bare, I.base, I.loc, I.cell, I.free, I.freeC, fun p hp => (List.mem_append.mp hp).elim (fun z => I.pin p (List.mem_append_left _ z)) (h p), I.hok, I.len⟩

theorem nodup_ix {N : List Str} (hN : N.Nodup) {i j : Nat} {x : Str} (a : N[i]? = some x) (b : N[j]? = some x) : i = j := by
  obtain ⟨h1, e1⟩ := List.getElem?_eq_some_iff.mp a
  obtain ⟨h2, e2⟩ := List.getElem?_eq_some_iff.mp b
  exact (List.getElem_inj hN).mp (e1.trans e2.symm)

/-- a name is stored; what changed -/
theorem store_ok2 {M : Model} {A : Around} {E : Value → Shared → Prop} {i : Nat} {x : Str} {v : V} {u : Value} {Q : Unit → Shared → Prop} (I : Inv X pins σ H s) (hN : X.N.Nodup) (hi : X.N[i]? = some x) (hx : Loc X.env.scope x) (r : RelV v u)
    (h : ∀ s', Inv X pins (σ.set i (some v)) H s' → (∃ a, Heap.SameBut a s.heap s'.heap ∧ (a = X.env.locals ∨ X.env.cells.lookup x = some a)) → Q () s') (hf : X.fn x = true ∨ X.env.scope.names.lookup x = some .local := by first | exact .inl rfl | exact .inr rfl | assumption) : wpAny M A (storeName X.env x u) Q E s := by
  obtain ⟨m, hn, hl⟩ := id I.loc
  have hcls : (X.env.scope.kind == .class || (X.env.scope.kind == .module && X.env.locals != X.env.globals)) = false := by rw [I.ok.kind]; rfl
  have hiσ : i < σ.length := by rw [I.len]; exact (List.getElem?_eq_some_iff.mp hi).1
  have cne := I.cne
  have tracked : ∀ {a : Addr} {h' : Heap}, (∃ o, s.heap.get? a = some o ∧ H a = none) → Heap.SameBut a s.heap h' → HOk X.prog X.w H h' := fun {a h'} ha hs b ob e => by
    obtain ⟨_, _, hfree⟩ := ha
    refine (I.hok b ob e).stay (fun c w' hc q => (hs.2 c ?_).trans q) (fun _ q => q) fun _ _ q => q
    rintro rfl
    rcases hc with rfl | hc
    · rw [hfree] at e; cases e
    · rw [hfree] at hc; cases hc
  rcases hx with hk | hk
  · refine wpAny_storeName_local hk hn (fun h' hn' hs => ?_) hcls
    obtain ⟨oL, _, _, hoL, _⟩ := id hn
    refine h _ ⟨I.ok, I.os, I.bare, ⟨fun b o e n hb hx => ?_, fun b o e n hb hx => ?_, I.base.free, fun b o e hx => ?_, I.base.tups, I.base.frzs, I.base.tbls⟩, ⟨_, hn', fun j y v' e1 e2 e3 => ?_⟩, fun y c e => ?_, I.free, I.freeC, fun p hp => ?_, tracked ⟨oL, hoL, I.free⟩ hs, by simpa using I.len⟩ ⟨_, hs, .inl rfl⟩
    · exact (hs.2 b (Nat.ne_of_lt (Nat.lt_of_lt_of_le (Heap.lt_size e) I.ok.above))).trans (I.base.keep b o e n hb hx)
    · obtain ⟨sl, e1⟩ := I.base.slot b o e n hb hx
      exact ⟨sl, (hs.2 b (Nat.ne_of_lt (Nat.lt_of_lt_of_le (Heap.lt_size e) I.ok.above))).trans e1⟩
    · obtain ⟨o', e1⟩ := I.base.there b o e hx
      exact ⟨o', (hs.2 b (Nat.ne_of_lt (Nat.lt_of_lt_of_le (Heap.lt_size e) I.ok.above))).trans e1⟩
    · by_cases hj : j = i
      · subst hj
        rw [hi] at e1; cases e1
        rw [List.getElem?_set_self hiσ] at e2
        cases e2
        exact ⟨u, r, .inl ⟨hk, by simp⟩⟩
      · rw [List.getElem?_set_ne (Ne.symm hj)] at e2
        obtain ⟨u', r', q⟩ := hl j y v' e1 e2 e3
        refine ⟨u', r', ?_⟩
        rcases q with ⟨k, e⟩ | ⟨k, c, e, z⟩
        · refine .inl ⟨k, ?_⟩
          have : y ≠ x := fun e => hj (nodup_ix hN e1 (e ▸ hi))
          simp [this, e]
        · exact .inr ⟨k, c, e, z.sameBut hs (cne y c e)⟩
    · obtain ⟨w', z⟩ := I.cell y c e
      exact ⟨w', z.sameBut hs (cne y c e)⟩
    · obtain ⟨e, n, ne, nf, d⟩ := I.pin p hp
      exact ⟨(hs.2 p.1 ne).trans e, n, ne, nf, d⟩
  · have hfn : X.fn x = true := by
      rcases hf with z | z
      · exact z
      · rw [z] at hk; cases hk
    obtain ⟨c, hc⟩ := I.ok.has x (.inl hk)
    obtain ⟨w', z⟩ := I.cell x c hc
    refine wpAny_storeName_cell I.ok.kind hk hc z (fun h' hc' hs => ?_)
    obtain ⟨oc, hoc, hocd⟩ := id z
    refine h { s with heap := h' } ⟨I.ok, I.os, I.bare, ⟨fun b o e n hb hx => ?_, fun b o e n hb hx => ?_, I.base.free, fun b o e hx => ?_, I.base.tups, I.base.frzs, I.base.tbls⟩, ⟨m, hn.sameBut hs (Ne.symm (cne x c hc)), fun j y v' e1 e2 e3 => ?_⟩, fun y c' e => ?_, I.free, I.freeC, fun p hp => ?_, tracked ⟨oc, hoc, I.freeC x c hc⟩ hs, by simpa using I.len⟩ ⟨c, hs, .inr hc⟩
    · exact (hs.2 b (Nat.ne_of_lt (Nat.lt_of_lt_of_le (Heap.lt_size e) (I.ok.cab x c hfn hc)))).trans (I.base.keep b o e n hb hx)
    · obtain ⟨sl, e1⟩ := I.base.slot b o e n hb hx
      exact ⟨sl, (hs.2 b (Nat.ne_of_lt (Nat.lt_of_lt_of_le (Heap.lt_size e) (I.ok.cab x c hfn hc)))).trans e1⟩
    · obtain ⟨o', e1⟩ := I.base.there b o e hx
      exact ⟨o', (hs.2 b (Nat.ne_of_lt (Nat.lt_of_lt_of_le (Heap.lt_size e) (I.ok.cab x c hfn hc)))).trans e1⟩
    · by_cases hj : j = i
      · subst hj
        rw [hi] at e1; cases e1
        rw [List.getElem?_set_self hiσ] at e2
        cases e2
        exact ⟨u, r, .inr ⟨.inl hk, c, hc, hc'⟩⟩
      · rw [List.getElem?_set_ne (Ne.symm hj)] at e2
        obtain ⟨u', r', q⟩ := hl j y v' e1 e2 e3
        refine ⟨u', r', ?_⟩
        rcases q with q | ⟨k, c', e, z'⟩
        · exact .inl q
        · refine .inr ⟨k, c', e, z'.sameBut hs ?_⟩
          rintro rfl
          exact hj (nodup_ix hN e1 (I.ok.inj _ _ _ e hc ▸ hi))
    · by_cases hcc : c' = c
      · subst hcc; exact ⟨_, hc'⟩
      · obtain ⟨w2, z2⟩ := I.cell y c' e
        exact ⟨w2, z2.sameBut hs hcc⟩
    · obtain ⟨e, n, ne, nf, d⟩ := I.pin p hp
      refine ⟨(hs.2 p.1 ?_).trans e, n, ne, nf, d⟩
      intro q
      rw [q, hoc] at e
      have q' : oc = p.2 := Option.some.inj e
      exact d w' (by rw [← q']; exact hocd)
theorem store_ok {M : Model} {A : Around} {E : Value → Shared → Prop} {i : Nat} {x : Str} {v : V} {u : Value} {Q : Unit → Shared → Prop} (I : Inv X pins σ H s) (hN : X.N.Nodup) (hi : X.N[i]? = some x) (hx : Loc X.env.scope x) (r : RelV v u)
    (h : ∀ s', Inv X pins (σ.set i (some v)) H s' → Q () s') (hf : X.fn x = true ∨ X.env.scope.names.lookup x = some .local := by first | exact .inl rfl | exact .inr rfl | assumption) : wpAny M A (storeName X.env x u) Q E s :=
  store_ok2 I hN hi hx r (fun s' I' _ => h s' I') hf
/-- behind a call or a block, the state as it is -/
theorem Inv.call' {s' : Shared} {ch : List Addr} (I : Inv X pins σ H s) (ho : s'.os = s.os) (u : Un (frs X.stack) ch H H' s.heap s'.heap) (hok : HOk X.prog X.w H' s'.heap) (hg : AllBare s'.gens)
    (hch : ∀ b ∈ ch, (b ∈ X.ex ∨ X.s₀.heap.objs.size ≤ b) ∧ b ≠ X.env.locals ∧ (∀ x c, X.env.cells.lookup x = some c → c ≠ b) ∧ ∀ p ∈ X.pn ++ pins, p.1 ≠ b) : Inv X pins σ H' s' := by
  obtain ⟨h', g', d', t', o'⟩ := s'
  have e : o' = s.os := ho
  subst e
  exact I.call (g' := g') (t' := t') (d' := d') u hok hg hch
end

/-! ### the judgements -/
/-- an exception: its class, its own dict's address (where it has one), the abstract heap behind it -/
abbrev XK := Value → Option Addr → Hp → Prop
abbrev St := List (Option V)
abbrev VK := V → Hp → Prop
/-- an expression's reading; a test's; an argument list's -/
abbrev TE := St → Hp → VK → Prop
abbrev TT := St → Hp → (Bool → Hp → Prop) → Prop
abbrev TA := St → Hp → (List V → Hp → Prop) → Prop
/-- what is wanted behind a statement -/
structure Ends where
  nx : St → Hp → Prop
  rt : VK
  bk : St → Hp → Prop := fun _ _ => False
  ct : St → Hp → Prop := fun _ _ => False
abbrev TS := Ends → St → Hp → Prop

def EP (X : Cx) (pins : List (Addr × Obj)) (σ : St) (Q : VK) (u : Value) (s' : Shared) : Prop := ∃ v H', Inv X pins σ H' s' ∧ RelV v u ∧ Q v H'
def TP (X : Cx) (pins : List (Addr × Obj)) (σ : St) (Q : Bool → Hp → Prop) (b : Bool) (s' : Shared) : Prop := ∃ H', Inv X pins σ H' s' ∧ Q b H'
def AP (X : Cx) (pins : List (Addr × Obj)) (σ : St) (Q : List V → Hp → Prop) (us : List Value) (s' : Shared) : Prop := ∃ vs H', Inv X pins σ H' s' ∧ Vals vs us ∧ Q vs H'
def SP (X : Cx) (pins : List (Addr × Obj)) (D : Ends) (f : Flow) (s' : Shared) : Prop :=
  match f with
  | .next => ∃ σ' H', Inv X pins σ' H' s' ∧ D.nx σ' H'
  | .brk => ∃ σ' H', Inv X pins σ' H' s' ∧ D.bk σ' H'
  | .cont => ∃ σ' H', Inv X pins σ' H' s' ∧ D.ct σ' H'
  | .ret u => ∃ v σ' H', Inv X pins σ' H' s' ∧ RelV v u ∧ D.rt v H'

def PE (X : Cx) (e : Expr) (t : TE) : Prop :=
  ∀ (pins : List (Addr × Obj)) (s : Shared) (σ : St) (H : Hp) (Q : VK), Inv X pins σ H s → t σ H Q → wpAny (model X.prog X.w) X.A (eval e X.env) (EP X pins σ Q) X.xe s
def PT (X : Cx) (e : Expr) (t : TT) : Prop :=
  ∀ (pins : List (Addr × Obj)) (s : Shared) (σ : St) (H : Hp) (Q : Bool → Hp → Prop), Inv X pins σ H s → t σ H Q → wpAny (model X.prog X.w) X.A (isTrue e X.env (eval e X.env)) (TP X pins σ Q) X.xe s
/-- a test whatever its 'whole' is (and, or) -/
def PW (X : Cx) (e : Expr) (t : TT) : Prop :=
  ∀ (whole : Sem Value) (pins : List (Addr × Obj)) (s : Shared) (σ : St) (H : Hp) (Q : Bool → Hp → Prop), Inv X pins σ H s → t σ H Q → wpAny (model X.prog X.w) X.A (isTrue e X.env whole) (TP X pins σ Q) X.xe s
theorem PW.pt {X : Cx} {e : Expr} {t : TT} (h : PW X e t) : PT X e t := h _
/-- an argument list (no star), from the left -/
def PA (X : Cx) (es : List Expr) (t : TA) : Prop :=
  ∀ (pos : Pos) (pins : List (Addr × Obj)) (s : Shared) (σ : St) (H : Hp) (Q : List V → Hp → Prop), Inv X pins σ H s → t σ H Q → wpAny (model X.prog X.w) X.A (spliced (backTo pos (starEach es X.env))) (AP X pins σ Q) X.xe s
def PS (X : Cx) (st : Stmt) (t : TS) : Prop :=
  ∀ (pins : List (Addr × Obj)) (s : Shared) (σ : St) (H : Hp) (D : Ends), Inv X pins σ H s → t D σ H → wpAny (model X.prog X.w) X.A (exec st X.env) (SP X pins D) X.xe s
def PSs (X : Cx) (st : List Stmt) (t : TS) : Prop :=
  ∀ (pins : List (Addr × Obj)) (s : Shared) (σ : St) (H : Hp) (D : Ends), Inv X pins σ H s → t D σ H → wpAny (model X.prog X.w) X.A (execs st X.env) (SP X pins D) X.xe s
/-- weaken the end -/
theorem thn {α : Type} {t : Sem α} {Q Q' : α → Shared → Prop} {M : Model} {A : Around} {E : Value → Shared → Prop} {s : Shared} (h : wpAny M A t Q E s) (hQ : ∀ a s, Q a s → Q' a s) : wpAny M A t Q' E s := wpAny_mono h hQ fun _ _ x => x
end L2

namespace L2
open PySem PySem.Spec PyProof.Rows
section
variable {X : Cx}

/-- two expressions in a row -/
theorem bin {a b : Expr} {ta tb : TE} (ha : PE X a ta) (hb : PE X b tb) {pins : List (Addr × Obj)} {s : Shared} {σ : St} {H : Hp} {R : V → V → Hp → Prop} (I : Inv X pins σ H s) (h : ta σ H fun x H1 => tb σ H1 fun y H2 => R x y H2)
    {α : Type} {Q : α → Shared → Prop} {f : Value → Value → Sem α}
    (hf : ∀ v u s2 x y H2, Inv X pins σ H2 s2 → RelV x v → RelV y u → R x y H2 → wpAny (model X.prog X.w) X.A (f v u) Q X.xe s2) :
    wpAny (model X.prog X.w) X.A (eval a X.env) (fun v s₁ => wpAny (model X.prog X.w) X.A (eval b X.env) (fun u s₂ => wpAny (model X.prog X.w) X.A (f v u) Q X.xe s₂) X.xe s₁) X.xe s := by
  refine thn (ha pins s σ H _ I h) fun v s1 ⟨x, H1, I1, r1, q1⟩ => ?_
  refine thn (hb pins s1 σ H1 _ I1 q1) fun u s2 ⟨y, H2, I2, r2, q2⟩ => ?_
  exact hf v u s2 x y H2 I2 r1 r2 q2

/-! ### names and constants -/
def tVar (i : Nat) : TE := fun σ H Q => ∃ v, σ[i]? = some (some v) ∧ Q v H
def tC (v : V) : TE := fun _ H Q => Q v H
theorem pe_var {i : Nat} {x : Str} {pos : Pos} (hN : X.N[i]? = some x) (hv : Vis X.env.scope x) (hd : (x == ("__debug__" : Str)) = false := by decide) (hcd : (x == ("__classdict__" : Str)) = false := by decide) : PE X (.Name x pos) (tVar i) := by
  intro pins s σ H Q I h
  obtain ⟨v, e, h⟩ := h
  obtain ⟨m, hn, hl⟩ := I.loc
  obtain ⟨u, r, l⟩ := hl i x v hN e hv
  have fin : EP X pins σ Q u s := ⟨v, H, I, r, h⟩
  rcases l with ⟨hk, hm⟩ | ⟨hk, c, hc, hcell⟩
  · exact wpAny_Name (wpAny_loadName_local I.ok.kind hk hn hm fin) hd
  · rcases hk with hk | hk
    · exact wpAny_Name (wpAny_loadName_cell I.ok.kind hk hc hcell fin) hd
    · exact wpAny_Name (wpAny_loadName_free I.ok.kind hk hc hcell fin hcd) hd
theorem pe_int {i j pos} : PE X (.Constant (.int i) j pos) (tC (.int i)) := fun _ _ _ H _ I h => wpAny_Constant_int ⟨.int i, H, I.tok _, ⟨_, rfl⟩, h⟩
theorem pe_bl {b j pos} : PE X (.Constant (.bool b) j pos) (tC (.bl b)) := fun _ _ _ H _ I h => Constant_bool ⟨.bl b, H, I, rfl, h⟩
theorem pe_non {j pos} : PE X (.Constant .none j pos) (tC .non) := fun _ _ _ H _ I h => Constant_none ⟨.non, H, I, rfl, h⟩
theorem pe_str {x j pos} : PE X (.Constant (.str x) j pos) (tC (.str x)) := fun _ _ _ H _ I h => Calls.Constant_str ⟨.str x, H, I.tok _, ⟨_, rfl⟩, h⟩

/-- a global name of the def -/
def Gl (X : Cx) (x : Str) : Prop := X.env.kindOf x = some .globalImplicit
theorem ld_glob {E : Value → Shared → Prop} {pins : List (Addr × Obj)} {s : Shared} {σ : St} {H : Hp} {x : Str} {u : Value} {pos : Pos} {Q : Value → Shared → Prop} (I : Inv X pins σ H s) (hg : Gl X x) (hm : X.mg x = some u) (h : Q u s)
    (hd : (x == ("__debug__" : Str)) = false := by decide) : wpAny (model X.prog X.w) X.A (eval (.Name x pos) X.env) Q E s :=
  Calls.Name_function_global I.ok.kind hg (Calls.loadGlobal_global (by rw [I.ok.glob]; exact I.mod.glob.keeps I.bk) hm h) hd
theorem ld_blt {E : Value → Shared → Prop} {pins : List (Addr × Obj)} {s : Shared} {σ : St} {H : Hp} {x : Str} {u : Value} {pos : Pos} {Q : Value → Shared → Prop} (I : Inv X pins σ H s) (hg : Gl X x) (hm : X.mg x = none) (hv : bootBuiltins x = some u) (h : Q u s)
    (hn : x ≠ "__name__" := by decide) (hd : (x == ("__debug__" : Str)) = false := by decide) : wpAny (model X.prog X.w) X.A (eval (.Name x pos) X.env) Q E s := by
  obtain ⟨mb, h1, h2⟩ := I.mod.blt
  exact Calls.Name_function_global I.ok.kind hg (Calls.loadGlobal_builtin (by rw [I.ok.glob]; exact I.mod.glob.keeps I.bk) hm (by rw [I.ok.blt]; exact h1.keeps I.bk) ((h2 x hn).trans hv) h) hd
/-- a module's constant, a class, a function, as a value -/
theorem pe_glob {x : Str} {v : V} {u : Value} {pos : Pos} (hg : Gl X x) (hm : X.mg x = some u) (r : RelV v u) (hd : (x == ("__debug__" : Str)) = false := by decide) : PE X (.Name x pos) (tC v) :=
  fun _ _ _ H _ I h => ld_glob I hg hm ⟨v, H, I, r, h⟩ hd
theorem pe_bltn {x : Str} {v : V} {u : Value} {pos : Pos} (hg : Gl X x) (hm : X.mg x = none) (hv : bootBuiltins x = some u) (r : RelV v u) (hn : x ≠ "__name__" := by decide) (hd : (x == ("__debug__" : Str)) = false := by decide) : PE X (.Name x pos) (tC v) :=
  fun _ _ _ H _ I h => ld_blt I hg hm hv ⟨v, H, I, r, h⟩ hn hd

/-! ### arithmetic -/
/-- two ints -/
def t2I (ta tb : TE) (k : Int → Int → Hp → Prop) : St → Hp → Prop := fun σ H => ta σ H fun x H1 => tb σ H1 fun y H2 => ∃ i j, x = .int i ∧ y = .int j ∧ k i j H2
def tAdd (ta tb : TE) : TE := fun σ H Q => t2I ta tb (fun i j H2 => Q (.int (i + j)) H2) σ H
def tSub (ta tb : TE) : TE := fun σ H Q => t2I ta tb (fun i j H2 => Q (.int (i - j)) H2) σ H
/-- the left factor below 2^64 -/
def tMul (ta tb : TE) : TE := fun σ H Q => t2I ta tb (fun i j H2 => (-(2 ^ 64) < i ∧ i < 2 ^ 64) ∧ Q (.int (i * j)) H2) σ H
variable {a b : Expr} {ta tb : TE} {pos : Pos}
/-! ### comparisons -/
def PC (X : Cx) (op : CmpOp) (a b : Expr) (t : TE) : Prop :=
  ∀ (pins : List (Addr × Obj)) (s : Shared) (σ : St) (H : Hp) (Q : VK), Inv X pins σ H s → t σ H Q →
    wpAny (model X.prog X.w) X.A (eval a X.env) (fun v s₁ => wpAny (model X.prog X.w) X.A (eval b X.env) (fun u s₂ => wpAny (model X.prog X.w) X.A (compareOp op v u) (EP X pins σ Q) X.xe s₂) X.xe s₁) X.xe s
theorem nobehind (b : Expr) {op : CmpOp} (h : op ≠ .In) (h2 : op ≠ .NotIn) : behindInMarks op b = false := by
  have e1 : (op == CmpOp.In) = false := by cases op <;> first | rfl | exact absurd rfl h
  have e2 : (op == CmpOp.NotIn) = false := by cases op <;> first | rfl | exact absurd rfl h2
  cases b <;> simp [behindInMarks, e1, e2]
def tCmp (p : Int → Int → Bool) (ta tb : TE) : TE := fun σ H Q => t2I ta tb (fun i j H2 => Q (.bl (p i j)) H2) σ H
abbrev tLt : TE → TE → TE := tCmp fun i j => decide (i < j)
abbrev tLe : TE → TE → TE := tCmp fun i j => decide (i ≤ j)
abbrev tGt : TE → TE → TE := tCmp fun i j => decide (j < i)
abbrev tGe : TE → TE → TE := tCmp fun i j => decide (j ≤ i)
abbrev tEqI : TE → TE → TE := tCmp fun i j => decide (i = j)
abbrev tNeI : TE → TE → TE := tCmp fun i j => !decide (i = j)
/-- is None -/
def tIsN (ta : TE) : TE := fun σ H Q => ta σ H fun x H1 => Q (.bl (decide (x = .non))) H1
def tNotN (ta : TE) : TE := fun σ H Q => ta σ H fun x H1 => Q (.bl (!decide (x = .non))) H1
/-- a comparison as a value, as a test -/
def tB (t : TE) : TT := fun σ H Q => t σ H fun x H1 => ∃ c, x = .bl c ∧ Q c H1
theorem pt_cmp {op : CmpOp} {t : TE} (h : PC X op a b t) (h1 : behindInMarks op b = false := by first | exact nobehind _ (by decide) (by decide) | rfl) : PT X (.Compare a [op] [b] pos) (tB t) := by
  intro pins s σ H Q I hw
  refine wpAny_isTrue_Compare1 (thn (h pins s σ H _ I hw) fun v s1 h1 => thn h1 fun u s2 h2 => thn h2 fun c s3 ⟨x, H1, I1, r1, q1⟩ => ?_) h1
  obtain ⟨d, rfl, q⟩ := q1
  cases r1
  exact wpAny_truthy_bool ⟨H1, I1, q⟩
/-- an expression whose value is a bool, as a test -/
theorem pt_val {e : Expr} {t : TE} (h : PE X e t) (he : ∀ whole, isTrue e X.env whole = (do let v ← whole; standAt e.pos; holding [v] (truthy v)) := by intro _; rfl) : PT X e (tB t) := by
  intro pins s σ H Q I hw
  refine isTrue_plain (thn (h pins s σ H _ I hw) fun v s1 ⟨x, H1, I1, r1, q1⟩ => ?_) (he _)
  obtain ⟨d, rfl, q⟩ := q1
  cases r1
  exact wpAny_truthy_bool ⟨H1, I1, q⟩

/-! ### and, or, not -/
variable {tA tB' : TT} {rest : List Expr}
def tAnd (t u : TT) : TT := fun σ H Q => t σ H fun c H1 => if c = true then u σ H1 Q else Q false H1
def tOr (t u : TT) : TT := fun σ H Q => t σ H fun c H1 => if c = true then Q true H1 else u σ H1 Q
def tNot (t : TT) : TT := fun σ H Q => t σ H fun c H1 => Q (!c) H1
theorem pw_and1 (ha : PT X a tA) : PW X (.BoolOp .And [a] pos) tA := by
  intro wh pins s σ H Q I h
  refine isTrue_and (thn (ha pins s σ H Q I h) fun c s1 e => ?_)
  cases c with
  | true => exact isTrue_and_nil e
  | false => exact e
theorem pw_or1 (ha : PT X a tA) : PW X (.BoolOp .Or [a] pos) tA := by
  intro wh pins s σ H Q I h
  refine isTrue_or (thn (ha pins s σ H Q I h) fun c s1 e => ?_)
  cases c with
  | false => exact isTrue_or_nil e
  | true => exact e
theorem pw_and (ha : PT X a tA) (hb : PW X (.BoolOp .And (b :: rest) pos) tB') : PW X (.BoolOp .And (a :: b :: rest) pos) (tAnd tA tB') := by
  intro wh pins s σ H Q I h
  refine isTrue_and (thn (ha pins s σ H _ I h) fun c s1 ⟨H1, I1, q1⟩ => ?_)
  cases c with
  | true => exact hb wh pins s1 σ H1 Q I1 q1
  | false => exact ⟨H1, I1, q1⟩
theorem pw_or (ha : PT X a tA) (hb : PW X (.BoolOp .Or (b :: rest) pos) tB') : PW X (.BoolOp .Or (a :: b :: rest) pos) (tOr tA tB') := by
  intro wh pins s σ H Q I h
  refine isTrue_or (thn (ha pins s σ H _ I h) fun c s1 ⟨H1, I1, q1⟩ => ?_)
  cases c with
  | true => exact ⟨H1, I1, q1⟩
  | false => exact hb wh pins s1 σ H1 Q I1 q1
theorem pt_not (ha : PT X a tA) : PT X (.UnaryOp .Not a pos) (tNot tA) := by
  intro pins s σ H Q I h
  exact isTrue_not (ha pins s σ H (fun c H1 => Q (!c) H1) I h)
/-- .. as values (bools) -/
def tAndV (ta tb : TE) : TE := fun σ H Q => ta σ H fun x H1 => ∃ c, x = .bl c ∧ if c = true then tb σ H1 Q else Q (.bl false) H1
def tOrV (ta tb : TE) : TE := fun σ H Q => ta σ H fun x H1 => ∃ c, x = .bl c ∧ if c = true then Q (.bl true) H1 else tb σ H1 Q
def tNotV (ta : TE) : TE := fun σ H Q => ta σ H fun x H1 => ∃ c, x = .bl c ∧ Q (.bl (!c)) H1
theorem pe_one {op} {t : TE} (h : PE X a t) : PE X (.BoolOp op [a] pos) t := fun pins s σ H Q I hw => BoolOp_one (h pins s σ H Q I hw)
theorem pe_and (ha : PE X a ta) (hb : PE X (.BoolOp .And (b :: rest) pos) tb) : PE X (.BoolOp .And (a :: b :: rest) pos) (tAndV ta tb) := by
  intro pins s σ H Q I h
  refine BoolOp_and (thn (ha pins s σ H _ I h) fun v s1 ⟨x, H1, I1, r1, q1⟩ => ?_)
  obtain ⟨c, rfl, q1⟩ := q1
  cases r1
  refine wpAny_truthy_bool ?_
  cases c with
  | true => exact hb pins s1 σ H1 Q I1 q1
  | false => exact ⟨.bl false, H1, I1, rfl, q1⟩
theorem pe_or (ha : PE X a ta) (hb : PE X (.BoolOp .Or (b :: rest) pos) tb) : PE X (.BoolOp .Or (a :: b :: rest) pos) (tOrV ta tb) := by
  intro pins s σ H Q I h
  refine BoolOp_or (thn (ha pins s σ H _ I h) fun v s1 ⟨x, H1, I1, r1, q1⟩ => ?_)
  obtain ⟨c, rfl, q1⟩ := q1
  cases r1
  refine wpAny_truthy_bool ?_
  cases c with
  | false => exact hb pins s1 σ H1 Q I1 q1
  | true => exact ⟨.bl true, H1, I1, rfl, q1⟩
theorem pe_not (ha : PE X a ta) : PE X (.UnaryOp .Not a pos) (tNotV ta) := by
  intro pins s σ H Q I h
  refine UnaryOp_ (thn (ha pins s σ H _ I h) fun v s1 ⟨x, H1, I1, r1, q1⟩ => ?_)
  obtain ⟨c, rfl, q1⟩ := q1
  cases r1
  exact not_of (wpAny_truthy_bool ⟨.bl (!c), H1, I1, rfl, q1⟩)
/-- a if t else b -/
def tIf (t : TT) (ta tb : TE) : TE := fun σ H Q => t σ H fun c H1 => if c = true then ta σ H1 Q else tb σ H1 Q
end
end L2

namespace L2
open PySem PySem.Spec PyProof.Rows

/-! ### a list, a tuple that is read: tracked, frozen, or an object of the module -/
def SqL (K : PySem.W.Frag) (H : Hp) (a : Addr) (xs : List V) : Prop :=
  Rd H a (.lst xs) ∨
    ∃ (o : Obj) (its : Array Value) (n : Nat), K.lookup a = some o ∧ o.cls = .type "list" ∧ o.dict = none ∧ o.data = .seq its n ∧ its.size ≤ sizeLine ∧ Vals xs its.toList
def SqT (K : PySem.W.Frag) (H : Hp) (a : Addr) (xs : List V) : Prop :=
  Rd H a (.tup xs) ∨
    ∃ (o : Obj) (its : Array Value) (n : Nat), K.lookup a = some o ∧ o.cls = .type "tuple" ∧ o.data = .seq its n ∧ its.size ≤ sizeLine ∧ Vals xs its.toList
def absV : Value → Option V
  | .none => some .non
  | .bool b => some (.bl b)
  | .int i _ => some (.int i)
  | .str x _ => some (.str x)
  | .bytes b _ => some (.byt b)
  | .float b _ => some (.flt b)
  | .ref a => some (.ref a)
  | .type n => some (.ty n)
  | _ => none
theorem RelV.abs {x : V} {u : Value} (r : RelV x u) : absV u = some x := by
  cases x with
  | non => cases r; rfl
  | bl _ => cases r; rfl
  | int _ => obtain ⟨t, rfl⟩ := r; rfl
  | str _ => obtain ⟨t, rfl⟩ := r; rfl
  | byt _ => obtain ⟨t, rfl⟩ := r; rfl
  | flt _ => obtain ⟨t, rfl⟩ := r; rfl
  | ref _ => cases r; rfl
  | ty _ => cases r; rfl
theorem RelV.inj {x y : V} {u : Value} (r : RelV x u) (q : RelV y u) : x = y := Option.some.inj (r.abs.symm.trans q.abs)
theorem Vals.inj : ∀ {xs ys : List V} {us : List Value}, Vals xs us → Vals ys us → xs = ys
  | _, _, _, .nil, .nil => rfl
  | _, _, _, .cons r t, .cons r' t' => by rw [r.inj r', Vals.inj t t']
section
variable {X : Cx} {pins : List (Addr × Obj)} {σ : St} {H : Hp} {s : Shared} {a : Addr} {xs ys : List V}
theorem SqL.of {K : PySem.W.Frag} (h : H a = some (.lst xs)) : SqL K H a xs := .inl (.inl h)
theorem SqT.of {K : PySem.W.Frag} (h : H a = some (.tup xs)) : SqT K H a xs := .inl (.inl h)
theorem Inv.list (I : Inv X pins σ H s) (h : SqL X.K H a xs) : ∃ its : List Value, Vals xs its ∧ PlainL s.heap a its.toArray ∧ xs.length ≤ sizeLine := by
  rcases h with h | ⟨o, its, n, hk, hc, hd, hs, hz, r⟩
  · obtain ⟨z, its, n, r, e⟩ := h.ok I.hok
    exact ⟨its, r, ⟨_, n, e, rfl, rfl, rfl⟩, z⟩
  · refine ⟨its.toList, r, ⟨o, n, I.kIn a o hk, hc, hd, by simpa using hs⟩, ?_⟩
    have e := r.length
    simp only [Array.length_toList] at e
    omega
theorem Inv.tuple (I : Inv X pins σ H s) (h : SqT X.K H a xs) : ∃ its : List Value, Vals xs its ∧ IsTup s.heap a its.toArray ∧ xs.length ≤ sizeLine := by
  rcases h with h | ⟨o, its, n, hk, hc, hs, hz, r⟩
  · obtain ⟨z, its, r, p⟩ := h.ok I.hok
    exact ⟨its, r, p, z⟩
  · refine ⟨its.toList, r, ⟨o, I.kIn a o hk, hc, n, by simpa using hs⟩, ?_⟩
    have e := r.length
    simp only [Array.length_toList] at e
    omega
theorem Inv.list_inj (I : Inv X pins σ H s) (h : SqL X.K H a xs) (h' : SqL X.K H a ys) : xs = ys := by
  obtain ⟨its, r, ⟨o, n, e, _, _, d⟩, _⟩ := I.list h
  obtain ⟨its', r', ⟨o', n', e', _, _, d'⟩, _⟩ := I.list h'
  rw [e] at e'; cases e'
  rw [d] at d'
  injection d' with d1 _
  have : its = its' := by simpa using congrArg Array.toList d1
  subst this
  exact r.inj r'
theorem Inv.tuple_inj (I : Inv X pins σ H s) (h : SqT X.K H a xs) (h' : SqT X.K H a ys) : xs = ys := by
  obtain ⟨its, r, ⟨o, e, _, n, d⟩, _⟩ := I.tuple h
  obtain ⟨its', r', ⟨o', e', _, n', d'⟩, _⟩ := I.tuple h'
  rw [e] at e'; cases e'
  rw [d] at d'
  injection d' with d1 _
  have : its = its' := by simpa using congrArg Array.toList d1
  subst this
  exact r.inj r'
end

/-! ### another wish about exceptions -/
abbrev Cx.wish (X : Cx) (E : Value → Shared → Prop) : Cx := { X with xe := E }
/-- no exception leaves -/
abbrev Cx.nox (X : Cx) : Cx := X.wish fun _ _ => False
theorem Cx.Ok.wish {X : Cx} (ok : X.Ok) (E : Value → Shared → Prop) : (X.wish E).Ok :=
  ⟨ok.mod, ok.kind, ok.glob, ok.blt, ok.above, ok.inj, ok.has, ok.cab, ok.hd, ok.frames, ok.stk, ok.exf, ok.bs, ok.bsz, ok.noex, ok.exfs, ok.funs, ok.frf⟩
theorem Cx.Ok.unwish {X : Cx} {E : Value → Shared → Prop} (ok : (X.wish E).Ok) : X.Ok :=
  ⟨ok.mod, ok.kind, ok.glob, ok.blt, ok.above, ok.inj, ok.has, ok.cab, ok.hd, ok.frames, ok.stk, ok.exf, ok.bs, ok.bsz, ok.noex, ok.exfs, ok.funs, ok.frf⟩
section
variable {X : Cx} {pins : List (Addr × Obj)} {σ : St} {H : Hp} {s : Shared} {E : Value → Shared → Prop}
theorem Inv.wish (I : Inv X pins σ H s) (E : Value → Shared → Prop) : Inv (X.wish E) pins σ H s := ⟨I.ok.wish E, I.os, I.bare, I.base, I.loc, I.cell, I.free, I.freeC, I.pin, I.hok, I.len⟩
theorem Inv.unwish (I : Inv (X.wish E) pins σ H s) : Inv X pins σ H s := ⟨I.ok.unwish, I.os, I.bare, I.base, I.loc, I.cell, I.free, I.freeC, I.pin, I.hok, I.len⟩
theorem SP.unwish {D : Ends} {f : Flow} {s' : Shared} (h : SP (X.wish E) pins D f s') : SP X pins D f s' := by
  cases f with
  | next => obtain ⟨σ', H', I, q⟩ := h; exact ⟨σ', H', I.unwish, q⟩
  | brk => obtain ⟨σ', H', I, q⟩ := h; exact ⟨σ', H', I.unwish, q⟩
  | cont => obtain ⟨σ', H', I, q⟩ := h; exact ⟨σ', H', I.unwish, q⟩
  | ret u => obtain ⟨v, σ', H', I, r, q⟩ := h; exact ⟨v, σ', H', I.unwish, r, q⟩
theorem PE.nox {e : Expr} {t : TE} (h : PE X.nox e t) : PE X e t := fun pins s σ H Q I hw =>
  wpAny_mono (h pins s σ H Q (I.wish _) hw) (fun _ _ ⟨v, H', I', r, q⟩ => ⟨v, H', I'.unwish, r, q⟩) fun _ _ z => False.elim z
theorem PT.nox {e : Expr} {t : TT} (h : PT X.nox e t) : PT X e t := fun pins s σ H Q I hw =>
  wpAny_mono (h pins s σ H Q (I.wish _) hw) (fun _ _ ⟨H', I', q⟩ => ⟨H', I'.unwish, q⟩) fun _ _ z => False.elim z
theorem PSs.nox {st : List Stmt} {t : TS} (h : PSs X.nox st t) : PSs X st t := fun pins s σ H D I hw =>
  wpAny_mono (h pins s σ H D (I.wish _) hw) (fun _ _ q => q.unwish) fun _ _ z => False.elim z
end

/-! ### blocks and small statements -/
section
variable {X : Cx} {st : Stmt} {rest : List Stmt} {t u : TS} {e : Expr} {te : TE} {pos : Pos}
def tNext : TS := fun D σ H => D.nx σ H
def tSeq (t u : TS) : TS := fun D σ H => t { D with nx := u D } σ H
theorem pss_nil : PSs X [] tNext := fun _ _ σ H _ I h => wpAny_execs_nil ⟨σ, H, I, h⟩
theorem pss_cons (h1 : PS X st t) (h2 : PSs X rest u) : PSs X (st :: rest) (tSeq t u) := by
  intro pins s σ H D I h
  refine wpAny_execs_cons (thn (h1 pins s σ H { D with nx := u D } I h) fun f s1 q => ?_)
  cases f with
  | next =>
    obtain ⟨σ', H', I', q⟩ := q
    exact h2 pins s1 σ' H' D I' q
  | ret v => exact q
  | brk => exact q
  | cont => exact q
theorem pss_one (h1 : PS X st t) : PSs X [st] t := by
  intro pins s σ H D I h
  refine wpAny_execs_cons (thn (h1 pins s σ H D I h) fun f s1 q => ?_)
  cases f with
  | next => exact wpAny_execs_nil q
  | ret v => exact q
  | brk => exact q
  | cont => exact q
def tBreak : TS := fun D σ H => D.bk σ H
def tCont : TS := fun D σ H => D.ct σ H
/-- in a def's body nothing is shown -/
theorem Inv.quiet {pins : List (Addr × Obj)} {σ : St} {H : Hp} {s : Shared} (I : Inv X pins σ H s) : interactive X.env = false := by simp [interactive, I.ok.kind]
/-- an expression whose value is dropped -/
def tDrop (te : TE) : TS := fun D σ H => te σ H fun _ H1 => D.nx σ H1
theorem ps_expr (he : PE X e te) (hs : swapsWith e none pos.line X.env = pure false := by rfl) : PS X (.Expr e pos) (tDrop te) := by
  intro pins s σ H D I h
  exact wpAny_Expr_any (thn (he pins s σ H _ I h) fun v s1 ⟨x, H1, I1, r1, q1⟩ => ⟨σ, H1, I1, q1⟩) I.quiet hs
def tRet (te : TE) : TS := fun D σ H => te σ H D.rt
theorem ps_ret (he : PE X e te) : PS X (.Return (some e) pos) (tRet te) := by
  intro pins s σ H D I h
  exact wpAny_Return_some (thn (he pins s σ H _ I h) fun v s1 ⟨x, H1, I1, r1, q1⟩ => ⟨x, σ, H1, I1, r1, q1⟩)
def tRetN : TS := fun D _ H => D.rt .non H
def tIfS (c : TT) (t u : TS) : TS := fun D σ H => c σ H fun b H1 => if b = true then t D σ H1 else u D σ H1
theorem ps_if {c : Expr} {a b : List Stmt} {tc : TT} (hc : PT X c tc) (ha : PSs X a t) (hb : PSs X b u) : PS X (.If c a b pos) (tIfS tc t u) := by
  intro pins s σ H D I h
  refine wpAny_If (thn (hc pins s σ H _ I h) fun d s1 ⟨H1, I1, q1⟩ => ?_)
  cases d with
  | true => exact ha pins s1 σ H1 D I1 q1
  | false => exact hb pins s1 σ H1 D I1 q1
/-- code that the proof never comes to -/
def tNever : TS := fun _ _ _ => False
end

/-! ### targets -/
abbrev TG := V → St → Hp → (St → Hp → Prop) → Prop
abbrev TGs := List V → St → Hp → (St → Hp → Prop) → Prop
def PG (X : Cx) (target : Expr) (t : TG) : Prop :=
  ∀ (pins : List (Addr × Obj)) (s : Shared) (σ : St) (H : Hp) (v : V) (u : Value) (Q : St → Hp → Prop), Inv X pins σ H s → RelV v u → t v σ H Q →
    wpAny (model X.prog X.w) X.A (assign target X.env u) (fun _ s' => ∃ σ' H', Inv X pins σ' H' s' ∧ Q σ' H') X.xe s
/-- several targets, one after another -/
def PGs (X : Cx) (ts : List Expr) (t : TGs) : Prop :=
  ∀ (pins : List (Addr × Obj)) (s : Shared) (σ : St) (H : Hp) (vs : List V) (us : List Value) (Q : St → Hp → Prop), Inv X pins σ H s → Vals vs us → t vs σ H Q →
    wpAny (model X.prog X.w) X.A (assignInOrder ((assignEach ts X.env).map (·.2)) us) (fun _ s' => ∃ σ' H', Inv X pins σ' H' s' ∧ Q σ' H') X.xe s
/-- o[i] = v, by values -/
abbrev TSet := V → V → V → Hp → (Hp → Prop) → Prop
def PSet (X : Cx) (t : TSet) : Prop :=
  ∀ (pins : List (Addr × Obj)) (s : Shared) (σ : St) (H : Hp) (o i v : V) (ov iv u : Value) (Q : Hp → Prop), Inv X pins σ H s → RelV o ov → RelV i iv → RelV v u → t o i v H Q →
    wpAny (model X.prog X.w) X.A (setItem ov iv u) (fun _ s' => ∃ H', Inv X pins σ H' s' ∧ Q H') X.xe s
/-- a op= b, by values -/
abbrev TIp := V → V → Hp → VK → Prop
def PIp (X : Cx) (op : Operator) (t : TIp) : Prop :=
  ∀ (pins : List (Addr × Obj)) (s : Shared) (σ : St) (H : Hp) (x y : V) (v u : Value) (Q : VK), Inv X pins σ H s → RelV x v → RelV y u → t x y H Q →
    wpAny (model X.prog X.w) X.A (inplaceOp op v u) (EP X pins σ Q) X.xe s
section
variable {X : Cx} {pos : Pos}
def gName (i : Nat) : TG := fun v σ H Q => Q (σ.set i (some v)) H
theorem pg_name {i : Nat} {x : Str} (hN : X.N.Nodup) (hi : X.N[i]? = some x) (hx : Loc X.env.scope x) (hf : X.fn x = true ∨ X.env.scope.names.lookup x = some .local := by first | exact .inl rfl | exact .inr rfl | assumption) : PG X (.Name x pos) (gName i) := by
  intro pins s σ H v u Q I r h
  exact wpAny_assign_Name (store_ok I hN hi hx r (fun s' I' => ⟨_, H, I', h⟩) hf)
def gNil : TGs := fun vs σ H Q => vs = [] ∧ Q σ H
def gCons (t : TG) (u : TGs) : TGs := fun vs σ H Q => ∃ v r, vs = v :: r ∧ t v σ H fun σ' H' => u r σ' H' Q
theorem pgs_nil : PGs X [] gNil := by
  intro pins s σ H vs us Q I r h
  obtain ⟨e, h⟩ := h
  subst e
  cases r
  exact assignInOrder_nil ⟨σ, H, I, h⟩
theorem pgs_cons {e : Expr} {es : List Expr} {t : TG} {u : TGs} (h1 : PG X e t) (h2 : PGs X es u)
    (hs : (assignEach (e :: es) X.env).map (·.2) = assign e X.env :: (assignEach es X.env).map (·.2) := by rfl) : PGs X (e :: es) (gCons t u) := by
  intro pins s σ H vs us Q I r h
  obtain ⟨v, vr, e1, h⟩ := h
  subst e1
  cases r with
  | cons r rr =>
    rw [hs]
    refine assignInOrder_cons (thn (h1 pins s σ H _ _ _ I r h) fun _ s1 ⟨σ1, H1, I1, q1⟩ => ?_)
    exact h2 pins s1 σ1 H1 _ _ Q I1 rr q1
/-- (a, b, ..) = a tuple of that length -/
def gTup (K : PySem.W.Frag) (n : Nat) (t : TGs) : TG := fun v σ H Q => ∃ a xs, v = .ref a ∧ SqT K H a xs ∧ xs.length = n ∧ t xs σ H Q
theorem pg_tup {es : List Expr} {k : Nat} {t : TGs} {n : Nat} (hc : X.calm = true) (h : PGs X es t)
    (hn : (assignEach es X.env).length = n := by rfl) (hst : (assignEach es X.env).findIdx? (·.1) = none := by rfl) : PG X (.Tuple es k pos) (gTup X.K n t) := by
  intro pins s σ H v u Q I r hw
  obtain ⟨a, xs, e1, hq, hl, hw⟩ := hw
  subst e1
  cases r
  obtain ⟨its, rv, ht, hz⟩ := I.tuple hq
  refine assign_Tuple_tuple (I.ok.hd hc) ht (by simp [hn, ← hl, rv.length]) hst fun h' hx => ?_
  have I1 : Inv X pins σ H { s with heap := h' } := I.kept (t' := s.toks) fun b o e => hx b o (Nat.ne_of_lt (Heap.lt_size e)) e
  exact h pins _ σ H xs _ Q I1 (by simpa using rv) hw
/-- o[i] = .. -/
def gSub (to ti : TE) (t : TSet) : TG := fun v σ H Q => to σ H fun o H1 => ti σ H1 fun i H2 => t o i v H2 fun H3 => Q σ H3
theorem pg_sub {o i : Expr} {to ti : TE} {t : TSet} (ho : PE X o to) (hi : PE X i ti) (hs : PSet X t)
    (ha : ∀ v, assign (.Subscript o i pos) X.env v = (do
      let ov ← holding [v] (eval o X.env)
      let iv ← holding [v, ov] (eval i X.env)
      standAt pos
      holding [v, ov, iv] (setItem ov iv v)
      release [v, ov, iv] []) := by intro _; rfl) : PG X (.Subscript o i pos) (gSub to ti t) := by
  intro pins s σ H v u Q I r h
  rw [ha]
  refine wpAny_bind (wpAny_holding (thn (ho pins s σ H _ I h) fun ov s1 ⟨x, H1, I1, r1, q1⟩ => ?_))
  refine wpAny_bind (wpAny_holding (thn (hi pins s1 σ H1 _ I1 q1) fun iv s2 ⟨y, H2, I2, r2, q2⟩ => ?_))
  refine wpAny_bind (wpAny_standAt (wpAny_bind (wpAny_holding (thn (hs pins s2 σ H2 x y v ov iv u _ I2 r1 r2 r q2) fun _ s3 ⟨H3, I3, q3⟩ => ?_))))
  exact wpAny_release ⟨σ, H3, I3, q3⟩
/-- target = value -/
def tAsg (te : TE) (g : TG) : TS := fun D σ H => te σ H fun x H1 => g x σ H1 D.nx
theorem ps_asg {tg e : Expr} {te : TE} {g : TG} (he : PE X e te) (hg : PG X tg g) (hs : swapsWithSole [tg] e pos.line X.env = pure false := by rfl) (hw : swappedStores [tg] e X.env = pure none := by rfl)
    (h1 : (assignEach [tg] X.env).map (·.2) = [assign tg X.env] := by rfl) : PS X (.Assign [tg] e pos) (tAsg te g) := by
  intro pins s σ H D I h
  refine wpAny_Assign_stores (thn (he pins s σ H _ I h) fun v s1 ⟨x, H1, I1, r1, q1⟩ => ?_) hs hw
  rw [h1]
  exact thn (hg pins s1 σ H1 x v _ I1 r1 q1) fun _ s2 q => q
/-- name = value -/
theorem ps_set {i : Nat} {x : Str} {e : Expr} {te : TE} {pos' : Pos} (hN : X.N.Nodup) (hi : X.N[i]? = some x) (hx : Loc X.env.scope x) (he : PE X e te) (hs : swapsWith e (some (.Name x pos')) pos.line X.env = pure false := by rfl) (hf : X.fn x = true ∨ X.env.scope.names.lookup x = some .local := by first | exact .inl rfl | exact .inr rfl | assumption) :
    PS X (.Assign [.Name x pos'] e pos) (tAsg te (gName i)) := by
  intro pins s σ H D I h
  refine wpAny_Assign_Name (thn (he pins s σ H _ I h) fun v s1 ⟨y, H1, I1, r1, q1⟩ => ?_) hs
  exact store_ok I1 hN hi hx r1 (fun s2 I2 => ⟨_, H1, I2, q1⟩) hf
/-- a, b = x, y with plain local names: stored from the right; the pair itself is not tracked (the opening rows as in PyProof/Rows/TupAssign.lean:23) -/
def tPar (i j : Nat) (ta : TA) : TS := fun D σ H => ta σ H fun vs H1 => ∃ v w, vs = [v, w] ∧ D.nx ((σ.set i (some v)).set j (some w)) H1
/-- name op= e -/
def tAug (i : Nat) (te : TE) (ti : TIp) : TS := fun D σ H => ∃ x, σ[i]? = some (some x) ∧ te σ H fun y H1 => ti x y H1 fun z H2 => D.nx (σ.set i (some z)) H2
/-- o[i] op= e -/
def tAugS (to ti te : TE) (tget : V → V → Hp → VK → Prop) (tip : TIp) (tset : TSet) : TS := fun D σ H => to σ H fun o H1 => ti σ H1 fun i H2 => tget o i H2 fun x H3 => te σ H3 fun y H4 => tip x y H4 fun z H5 => tset o i z H5 fun H6 => D.nx σ H6
/-- o[i], by values -/
def PGet (X : Cx) (t : V → V → Hp → VK → Prop) : Prop :=
  ∀ (pins : List (Addr × Obj)) (s : Shared) (σ : St) (H : Hp) (o i : V) (ov iv : Value) (Q : VK), Inv X pins σ H s → RelV o ov → RelV i iv → t o i H Q →
    wpAny (model X.prog X.w) X.A (getItem ov iv) (EP X pins σ Q) X.xe s
/-- ints -/
def ipI (f : Int → Int → Int) : TIp := fun x y H Q => ∃ i j, x = .int i ∧ y = .int j ∧ Q (.int (f i j)) H
end

/-! ### while -/
section
variable {X : Cx} {pos : Pos}
/-- the invariant W with its measure -/
def tWhile (c : TT) (tb : TS) : TS := fun D σ H => ∃ W : Nat → St → Hp → Prop, (∃ m, W m σ H) ∧ ∀ m σ H, W m σ H →
  c σ H fun b H1 => if b = true then ∃ N : St → Hp → Prop, (∀ σ' H', N σ' H' → ∃ m', m' < m ∧ W m' σ' H') ∧ tb { D with nx := N, ct := N, bk := D.nx } σ H1 else D.nx σ H1
end

/-! ### what a loop or a comprehension walks -/
/-- at turn i: it yields x (the heap may grow), or it stops -/
structure It where
  go : Nat → Hp → Prop
  yld : Nat → Hp → V → Hp → Prop
  stop : Nat → Hp → Prop
/-- the iterator's own objects may turn: they are not the frame's, not pinned, younger than the entry (or a comprehension's own) -/
def FpOk (X : Cx) (pins : List (Addr × Obj)) (H : Hp) (b : Addr) : Prop :=
  H b = none ∧ b ≠ X.env.locals ∧ b ∉ X.fs ∧ (b ∈ X.ex ∨ X.s₀.heap.objs.size ≤ b) ∧ (∀ x c, X.env.cells.lookup x = some c → c ≠ b) ∧ ∀ p ∈ X.pn ++ pins, p.1 ≠ b
theorem Inv.fpOk {X : Cx} {pins : List (Addr × Obj)} {σ : St} {H H' : Hp} {s : Shared} {b : Addr} (I : Inv X pins σ H s) (hb : s.heap.objs.size ≤ b) (hn : H' b = none) : FpOk X pins H' b := by
  refine ⟨hn, Nat.ne_of_gt (Nat.lt_of_lt_of_le I.lt hb), I.nofs hb, .inr (Nat.le_trans I.sz hb), fun x c e z => ?_, fun p hp z => ?_⟩
  · obtain ⟨v, q⟩ := I.cell x c e
    exact absurd (Nat.lt_of_lt_of_le q.lt (by rw [z]; exact hb)) (Nat.lt_irrefl _)
  · exact absurd (Nat.lt_of_lt_of_le (Heap.lt_size (I.pin p hp).1) (by rw [z]; exact hb)) (Nat.lt_irrefl _)
structure Turn (P : Program) (w : World) (K : PySem.W.Frag) (tg : Expr) (J : It) (fp : List Addr) (it : Addr) (tn : Nat → Heap → Prop) : Prop where
  mem : it ∈ fp
  obj : ∀ i h, tn i h → ∀ b ∈ fp, ∃ o, h.get? b = some o ∧ ∀ v, o.data ≠ .cell v
  keep : ∀ i h h', tn i h → (∀ b ∈ fp, ∀ o, h.get? b = some o → h'.get? b = some o) → tn i h'
  item : ∀ (X : Cx), X.prog = P → X.w = w → X.K = K → X.calm = true → ∀ (i : Nat) (pins : List (Addr × Obj)) (s : Shared) (σ : St) (H : Hp) (E : Value → Shared → Prop), Inv X pins σ H s → (∀ b ∈ fp, FpOk X pins H b) → tn i s.heap → J.go i H →
    wpAny (model P w) X.A (pyNext (.ref it)) (fun r s1 => ∃ u, r = some u ∧
      wpAny (model P w) X.A (letOwnedTupleGo tg (.ref it) u) (fun _ s2 => ∃ x H', Inv X pins σ H' s2 ∧ RelV x u ∧ J.yld i H x H' ∧ tn (i + 1) s2.heap ∧ ∀ b ∈ fp, H' b = none) E s1) E s
  done : ∀ (X : Cx), X.prog = P → X.w = w → X.K = K → X.calm = true → ∀ (i : Nat) (pins : List (Addr × Obj)) (s : Shared) (σ : St) (H : Hp) (E : Value → Shared → Prop), Inv X pins σ H s → (∀ b ∈ fp, FpOk X pins H b) → tn i s.heap → J.stop i H →
    wpAny (model P w) X.A (pyNext (.ref it)) (fun r s1 => r = none ∧ Inv X pins σ H s1) E s
  self : ∀ (A : Around) (i : Nat) (s : Shared) (Q : Value → Shared → Prop) (E : Value → Shared → Prop), tn i s.heap → Q (.ref it) s → wpAny (model P w) A (pyIter (.ref it)) Q E s
abbrev TI := St → Hp → (It → Hp → Prop) → Prop
/-- an iterator has come -/
def PIE (X : Cx) (pins : List (Addr × Obj)) (σ : St) (tg : Expr) (R : It → Hp → Prop) (itv : Value) (s2 : Shared) : Prop :=
  ∃ (it : Addr) (fp : List Addr) (tn : Nat → Heap → Prop) (J : It) (H' : Hp), itv = .ref it ∧ Inv X pins σ H' s2 ∧ Turn X.prog X.w X.K tg J fp it tn ∧ tn 0 s2.heap ∧ (∀ b ∈ fp, FpOk X pins H' b) ∧ R J H'
def PI (X : Cx) (tg iter : Expr) (wi : TI) : Prop :=
  ∀ (pins : List (Addr × Obj)) (s : Shared) (σ : St) (H : Hp) (R : It → Hp → Prop), Inv X pins σ H s → wi σ H R →
    wpAny (model X.prog X.w) X.A (eval iter X.env) (fun v s1 => wpAny (model X.prog X.w) X.A (pyIter v) (PIE X pins σ tg R) X.xe s1) X.xe s

/-- the step ahead of the store is nothing for an iterator that keeps no tuple -/
theorem go_of {M : Model} {A : Around} {E : Value → Shared → Prop} {s : Shared} {tg : Expr} {it : Addr} {u : Value} {o : Obj} {n : String} {vs : Array Value} {Q : Unit → Shared → Prop} (ho : s.heap.get? it = some o) (hc : o.cls = .type n) (hd : o.data = .fields vs)
    (hn : ["enumerate", "zip", "dict_itemiterator", "dict_reverseitemiterator", "odict_iterator", "itertools.zip_longest", "itertools.pairwise"].contains n = false) (hQ : Q () s) : wpAny M A (letOwnedTupleGo tg (.ref it) u) Q E s := by
  unfold letOwnedTupleGo
  cases tg <;> first
    | exact wpAny_pure hQ
    | (cases u <;> first
        | exact wpAny_pure hQ
        | (refine wpAny_bind (wpAny_load ho ?_)
           rw [hc, hd]
           show wpAny M A (if (["enumerate", "zip", "dict_itemiterator", "dict_reverseitemiterator", "odict_iterator", "itertools.zip_longest", "itertools.pairwise"].contains n && vs[0]? == some (rawInt _)) = true then _ else _) Q E s
           rw [if_neg (by intro h; rw [hn, Bool.false_and] at h; cases h)]
           exact wpAny_pure hQ))

/-- the list at a, as it stands at each turn (a loop may append to it) -/
def Itl (K : PySem.W.Frag) (a : Addr) : It :=
  ⟨fun i H => ∃ xs x, SqL K H a xs ∧ xs[i]? = some x, fun i H x H' => H' = H ∧ ∀ xs, SqL K H a xs → xs[i]? = some x, fun i H => ∃ xs, SqL K H a xs ∧ xs.length ≤ i⟩
def Itt (K : PySem.W.Frag) (a : Addr) : It :=
  ⟨fun i H => ∃ xs x, SqT K H a xs ∧ xs[i]? = some x, fun i H x H' => H' = H ∧ ∀ xs, SqT K H a xs → xs[i]? = some x, fun i H => ∃ xs, SqT K H a xs ∧ xs.length ≤ i⟩
/-- lo, lo + 1, .. (n of them) -/
def Itr (lo : Int) (n : Nat) : It := ⟨fun i _ => i < n, fun i H x H' => H' = H ∧ x = .int (lo + i), fun i _ => n ≤ i⟩
theorem turn_list {P : Program} {w : World} {K : PySem.W.Frag} {tg : Expr} (a it : Addr) : Turn P w K tg (Itl K a) [it] it (fun i h => h.IsListIter it a i) where
  mem := by simp
  obj := fun i h st b hb => by
    have e : b = it := by simpa using hb
    subst e
    obtain ⟨o, e, c, d⟩ := st
    exact ⟨o, e, fun v z => by rw [d] at z; cases z⟩
  keep := fun i h h' st k => st.at fun o e => k it (by simp) o e
  item := by
    intro X hP hw hK hc i pins s σ H E I hf st hg
    subst hP hw hK
    obtain ⟨xs, x, hq, hx⟩ := hg
    obtain ⟨its, rv, p, hz⟩ := I.list hq
    obtain ⟨u, hu, ru⟩ := rv.get hx
    obtain ⟨f0, f1, f2, f3, f4, f5⟩ := hf it (by simp)
    refine wpAny_pyNext_list_item st p.isList (x := u) (by simpa using hu) fun h' st' sb => ?_
    have I1 : Inv X pins σ H { s with heap := h' } := I.turned (t' := s.toks) (fun b o hb e => (sb.2 b hb).trans e) f0 f1 f3 f4 f5
    obtain ⟨o, e, c, d⟩ := id st'
    exact ⟨u, rfl, go_of (s := { s with heap := h' }) e c d (by decide) ⟨x, H, I1, ru, ⟨rfl, fun ys hy => by rw [I.list_inj hy hq]; exact hx⟩, st', fun b hb => (hf b hb).1⟩⟩
  done := by
    intro X hP hw hK hc i pins s σ H E I hf st hg
    subst hP hw hK
    obtain ⟨xs, hq, hx⟩ := hg
    obtain ⟨its, rv, p, hz⟩ := I.list hq
    obtain ⟨f0, f1, f2, f3, f4, f5⟩ := hf it (by simp)
    have hl := rv.length
    exact wpAny_pyNext_list_end (I.ok.hd hc) st p.isList (by simp; omega) fun h' eb => ⟨rfl, I.turned (t' := s.toks) (fun b o hb e => eb b o hb e) f0 f1 f3 f4 f5⟩
  self := fun _ _ _ _ _ st h => wpAny_pyIter_listiter st h
theorem turn_tuple {P : Program} {w : World} {K : PySem.W.Frag} {tg : Expr} (a it : Addr) : Turn P w K tg (Itt K a) [it] it (fun i h => h.IsTupleIter it a i) where
  mem := by simp
  obj := fun i h st b hb => by
    have e : b = it := by simpa using hb
    subst e
    obtain ⟨o, e, c, d⟩ := st
    exact ⟨o, e, fun v z => by rw [d] at z; cases z⟩
  keep := fun i h h' st k => st.at fun o e => k it (by simp) o e
  item := by
    intro X hP hw hK hc i pins s σ H E I hf st hg
    subst hP hw hK
    obtain ⟨xs, x, hq, hx⟩ := hg
    obtain ⟨its, rv, p, hz⟩ := I.tuple hq
    obtain ⟨u, hu, ru⟩ := rv.get hx
    obtain ⟨f0, f1, f2, f3, f4, f5⟩ := hf it (by simp)
    refine wpAny_pyNext_tuple_item st (show s.heap.IsTuple a its.toArray from p) (x := u) (by simpa using hu) fun h' st' sb => ?_
    have I1 : Inv X pins σ H { s with heap := h' } := I.turned (t' := s.toks) (fun b o hb e => (sb.2 b hb).trans e) f0 f1 f3 f4 f5
    obtain ⟨o, e, c, d⟩ := id st'
    exact ⟨u, rfl, go_of (s := { s with heap := h' }) e c d (by decide) ⟨x, H, I1, ru, ⟨rfl, fun ys hy => by rw [I.tuple_inj hy hq]; exact hx⟩, st', fun b hb => (hf b hb).1⟩⟩
  done := by
    intro X hP hw hK hc i pins s σ H E I hf st hg
    subst hP hw hK
    obtain ⟨xs, hq, hx⟩ := hg
    obtain ⟨its, rv, p, hz⟩ := I.tuple hq
    obtain ⟨f0, f1, f2, f3, f4, f5⟩ := hf it (by simp)
    have hl := rv.length
    exact wpAny_pyNext_tuple_end (I.ok.hd hc) st (show s.heap.IsTuple a its.toArray from p) (by simp; omega) fun h' eb => ⟨rfl, I.turned (t' := s.toks) (fun b o hb e => eb b o hb e) f0 f1 f3 f4 f5⟩
  self := fun _ _ _ _ _ st h => wpAny_pyIter_tupleiter st h
theorem turn_range {P : Program} {w : World} {K : PySem.W.Frag} {tg : Expr} (it : Addr) (lo : Int) (n : Nat) : Turn P w K tg (Itr lo n) [it] it (fun i h => IsRangeIter h it (lo + (i : Nat) * 1) ((n : Int) - (i : Nat)) 1) where
  mem := by simp
  obj := fun i h st b hb => by
    have e : b = it := by simpa using hb
    subst e
    exact ⟨_, st, fun v z => by
      have z' : Data.fields _ = Data.cell v := z
      cases z'⟩
  keep := fun i h h' st k => k it (by simp) _ st
  item := by
    intro X hP hw hK hc i pins s σ H E I hf st hg
    subst hP hw hK
    obtain ⟨f0, f1, f2, f3, f4, f5⟩ := hf it (by simp)
    have W := Walks.range (prog := X.prog) (w := X.w) (I.ok.hd hc) it lo 1 n
    refine W.item i s _ _ hg st fun v h' tk hv st' kk => ?_
    obtain ⟨t, rfl⟩ := hv
    have I1 : Inv X pins σ H { s with heap := h', toks := tk } := I.turned (fun b o hb e => kk b o (by simpa using hb) e) f0 f1 f3 f4 f5
    refine ⟨_, rfl, go_of (s := { s with heap := h', toks := tk }) (n := "range_iterator") st' rfl rfl (by decide) ⟨.int (lo + i), H, I1, ⟨t, ?_⟩, ⟨rfl, rfl⟩, st', fun b hb => (hf b hb).1⟩⟩
    rw [Int.mul_one]
  done := by
    intro X hP hw hK hc i pins s σ H E I hf st hg
    subst hP hw hK
    obtain ⟨f0, f1, f2, f3, f4, f5⟩ := hf it (by simp)
    exact wpAny_pyNext_range_end (I.ok.hd hc) st (by have : n ≤ i := hg; omega) fun h' eb => ⟨rfl, I.turned (t' := s.toks) (fun b o hb e => eb b o hb e) f0 f1 f3 f4 f5⟩
  self := fun _ _ _ _ _ st h => wpAny_pyIter_rangeiter st h
end L2

namespace L2
open PySem PySem.Spec PyProof.Rows
section
variable {X : Cx} {tg : Expr}
def iList (K : PySem.W.Frag) (tl : TE) : TI := fun σ H R => tl σ H fun x H1 => ∃ a, x = .ref a ∧ (∃ xs, SqL K H1 a xs) ∧ R (Itl K a) H1
def iTup (K : PySem.W.Frag) (tl : TE) : TI := fun σ H R => tl σ H fun x H1 => ∃ a, x = .ref a ∧ (∃ xs, SqT K H1 a xs) ∧ R (Itt K a) H1
theorem pi_list {l : Expr} {tl : TE} (hl : PE X l tl) : PI X tg l (iList X.K tl) := by
  intro pins s σ H R I h
  refine thn (hl pins s σ H _ I h) fun v s1 ⟨x, H1, I1, r1, q1⟩ => ?_
  obtain ⟨a, e, ⟨xs, hq⟩, q⟩ := q1
  subst e
  cases r1
  obtain ⟨its, rv, p, hz⟩ := I1.list hq
  refine wpAny_pyIter_list p.isList ?_
  refine ⟨s1.heap.objs.size, [s1.heap.objs.size], _, _, H1, rfl, I1.kept (t' := s1.toks) fun b o e => Heap.get?_push_of_some _ e, turn_list a _, ⟨_, Heap.get?_push_size _ rfl, rfl, rfl⟩, fun b hb => ?_, q⟩
  have e : b = s1.heap.objs.size := by simpa using hb
  subst e
  exact I1.fpOk (Nat.le_refl _) (I1.hok.fresh (Nat.le_refl _))
theorem pi_tup {l : Expr} {tl : TE} (hl : PE X l tl) : PI X tg l (iTup X.K tl) := by
  intro pins s σ H R I h
  refine thn (hl pins s σ H _ I h) fun v s1 ⟨x, H1, I1, r1, q1⟩ => ?_
  obtain ⟨a, e, ⟨xs, hq⟩, q⟩ := q1
  subst e
  cases r1
  obtain ⟨its, rv, p, hz⟩ := I1.tuple hq
  refine wpAny_pyIter_tuple (show s1.heap.IsTuple a its.toArray from p) ?_
  refine ⟨s1.heap.objs.size, [s1.heap.objs.size], _, _, H1, rfl, I1.kept (t' := s1.toks) fun b o e => Heap.get?_push_of_some _ e, turn_tuple a _, ⟨_, Heap.get?_push_size _ rfl, rfl, rfl⟩, fun b hb => ?_, q⟩
  have e : b = s1.heap.objs.size := by simpa using hb
  subst e
  exact I1.fpOk (Nat.le_refl _) (I1.hok.fresh (Nat.le_refl _))
/-- a range object just made, walked -/
theorem range_it {pins : List (Addr × Obj)} {σ : St} {H : Hp} {s : Shared} {R : It → Hp → Prop} {E : Value → Shared → Prop} {lo hi : Int} {t u v : Tok} {tk : Nat} (I : Inv X pins σ H s) (h1 : -(2 ^ 62) ≤ lo) (h2 : lo < 2 ^ 62) (h3 : -(2 ^ 62) ≤ hi) (h4 : hi < 2 ^ 62)
    (q : R (Itr lo (hi - lo).toNat) H) : wpAny (model X.prog X.w) X.A (pyIter (.ref s.heap.objs.size)) (PIE X pins σ tg R) E { s with heap := s.heap.push { cls := .type "range", data := .fields #[.int lo t, .int hi u, .int 1 v] }, toks := tk } := by
  refine wpAny_pyIter_range (IsRange.new ..) (small_one h1 h2 h3 h4) ?_
  have I1 : Inv X pins σ H { s with heap := s.heap.push { cls := .type "range", data := .fields #[.int lo t, .int hi u, .int 1 v] }, toks := tk } := I.kept fun b o e => Heap.get?_push_of_some _ e
  refine ⟨(s.heap.push { cls := .type "range", data := .fields #[.int lo t, .int hi u, .int 1 v] }).objs.size, [(s.heap.push { cls := .type "range", data := .fields #[.int lo t, .int hi u, .int 1 v] }).objs.size], _, _, H, rfl,
    I1.kept (t' := tk) fun b o e => Heap.get?_push_of_some _ e, turn_range _ lo (hi - lo).toNat, ?_, fun b hb => ?_, q⟩
  · have e1 : lo + ((0 : Nat) : Int) * 1 = lo := by simp
    have e2 : (((hi - lo).toNat : Nat) : Int) - ((0 : Nat) : Int) = Builtin.Range.rangeSize lo hi 1 := by rw [rangeSize_one]; split <;> omega
    show IsRangeIter _ _ (lo + ((0 : Nat) : Int) * 1) ((((hi - lo).toNat : Nat) : Int) - ((0 : Nat) : Int)) 1
    rw [e1, e2]
    exact Heap.get?_push_size _ rfl
  · have e : b = (s.heap.push { cls := .type "range", data := .fields #[.int lo t, .int hi u, .int 1 v] }).objs.size := by simpa using hb
    subst e
    exact I1.fpOk (Nat.le_refl _) (I1.hok.fresh (Nat.le_refl _))
def iRng1 (ta : TA) : TI := fun σ H R => ta σ H fun vs H1 => ∃ j : Int, vs = [.int j] ∧ -(2 ^ 62) ≤ j ∧ j < 2 ^ 62 ∧ R (Itr 0 j.toNat) H1
def iRng2 (ta : TA) : TI := fun σ H R => ta σ H fun vs H1 => ∃ i j : Int, vs = [.int i, .int j] ∧ (-(2 ^ 62) ≤ i ∧ i < 2 ^ 62 ∧ -(2 ^ 62) ≤ j ∧ j < 2 ^ 62) ∧ R (Itr i (j - i).toNat) H1
theorem pi_range1 {a : Expr} {ta : TA} {p pos : Pos} (hg : Gl X "range") (hm : X.mg "range" = none) (ha : PA X [a] ta) (hs : starEach [a] X.env = [(false, eval a X.env)] := by rfl) : PI X tg (.Call (.Name "range" p) [a] [] pos) (iRng1 ta) := by
  intro pins s σ H R I h
  refine Call_ (ld_blt I hg hm boot_range (PyProof.Rows.callWith_type1 (thn (ha pos pins s σ H _ I h) fun us s1 ⟨vs, H1, I1, r1, q1⟩ => ?_) hs rfl))
  obtain ⟨j, e, q1, q2, q⟩ := q1
  subst e
  cases r1 with
  | cons r rr =>
    cases rr
    obtain ⟨t, rfl⟩ := r
    exact call_range_1 (range_it I1 (by omega) (by omega) q1 q2 (by simpa using q))
/-! ### for -/
/-- W: the invariant by the turn and a measure; N: what the body is to reach -/
def tFor (wi : TI) (g : TG) (tb : TS) : TS := fun D σ H => wi σ H fun J H1 => ∃ W : Nat → Nat → St → Hp → Prop, (∃ m, W 0 m σ H1) ∧ ∀ i m σ H, W i m σ H →
  (J.stop i H ∧ D.nx σ H) ∨ (J.go i H ∧ ∃ N : St → Hp → Prop, (∀ σ' H', N σ' H' → ∃ m', m' < m ∧ W (i + 1) m' σ' H') ∧ ∀ x H', J.yld i H x H' → g x σ H' fun σ2 H2 => tb { D with nx := N, ct := N, bk := D.nx } σ2 H2)
/-- the records at fp as they stand -/
def pinsAt (fp : List Addr) (h : Heap) : List (Addr × Obj) := fp.filterMap fun b => (h.get? b).map fun o => (b, o)
theorem mem_pinsAt {fp : List Addr} {h : Heap} {b : Addr} {o : Obj} (hb : b ∈ fp) (e : h.get? b = some o) : (b, o) ∈ pinsAt fp h := List.mem_filterMap.mpr ⟨b, hb, by rw [e]; rfl⟩
theorem of_pinsAt {fp : List Addr} {h : Heap} {p : Addr × Obj} (hp : p ∈ pinsAt fp h) : p.1 ∈ fp ∧ h.get? p.1 = some p.2 := by
  obtain ⟨b, hb, e⟩ := List.mem_filterMap.mp hp
  cases q : h.get? b with
  | none => rw [q] at e; cases e
  | some o =>
    rw [q] at e
    have e' : (b, o) = p := Option.some.inj e
    subst e'
    exact ⟨hb, q⟩
theorem Inv.pinned {pins : List (Addr × Obj)} {σ : St} {H : Hp} {s : Shared} {fp : List Addr} (I : Inv X pins σ H s) (hf : ∀ b ∈ fp, FpOk X pins H b) (ho : ∀ b ∈ fp, ∃ o, s.heap.get? b = some o ∧ ∀ v, o.data ≠ .cell v) : Inv X (pins ++ pinsAt fp s.heap) σ H s :=
  I.pins_of fun p hp => (List.mem_append.mp hp).elim (fun z => I.pin p (List.mem_append_right _ z)) fun z => by
    obtain ⟨hb, e⟩ := of_pinsAt z
    obtain ⟨f0, f1, f2, _⟩ := hf p.1 hb
    obtain ⟨o, e', d⟩ := ho p.1 hb
    rw [e] at e'; cases e'
    exact ⟨e, f0, f1, f2, d⟩
theorem Inv.unpinned {pins pl : List (Addr × Obj)} {σ : St} {H : Hp} {s : Shared} (I : Inv X (pins ++ pl) σ H s) : Inv X pins σ H s := I.pins_of fun p hp => I.pin p (List.mem_append_right _ (List.mem_append_left _ hp))
theorem ps_for {iter : Expr} {body : List Stmt} {wi : TI} {g : TG} {tb : TS} {pos : Pos} (hp : PassesOwn (model X.prog X.w) X.A X.env X.xe) (hc : X.calm = true) (hi : PI X tg iter wi) (hg : PG X tg g) (hb : PSs X body tb)
    (hs : ∀ x, foldedSetIterable iter X.env x = pure x := by intro _; rfl) : PS X (.For tg iter body [] pos) (tFor wi g tb) := by
  intro pins s σ H D I h
  refine wpAny_For (thn (hi pins s σ H _ I h) fun v s1 h1 => thn h1 fun itv s2 h2 => ?_) hs
  obtain ⟨it, fp, tn, J, H2, e, I2, T, st2, f2, W, ⟨m0, w0⟩, turn⟩ := h2
  subst e
  -- what stays true of the iterator's objects through the loop
  have stat : ∀ {H' : Hp}, (∀ b ∈ fp, H' b = none) → ∀ b ∈ fp, FpOk X pins H' b := fun hn b hb => ⟨hn b hb, (f2 b hb).2⟩
  refine codeAny_forLoop_any (fun n s' => ∃ i σ' H', Inv X pins σ' H' s' ∧ tn i s'.heap ∧ (∀ b ∈ fp, H' b = none) ∧ W i n σ' H') ?_ m0 ⟨0, σ, H2, I2, st2, fun b hb => (f2 b hb).1, w0⟩
  rintro n s3 ⟨i, σ3, H3, I3, st3, fr3, w3⟩
  rcases turn i n σ3 H3 w3 with ⟨stop, qn⟩ | ⟨go, N, hN, step⟩
  · refine wpAny_passesOwn hp (thn (T.done X rfl rfl rfl hc i pins s3 σ3 H3 X.xe I3 (stat fr3) st3 stop) fun r s4 ⟨hr, I4⟩ => ?_)
    subst hr
    exact wpAny_execs_nil ⟨σ3, H3, I4, qn⟩
  · refine wpAny_passesOwn hp (thn (T.item X rfl rfl rfl hc i pins s3 σ3 H3 X.xe I3 (stat fr3) st3 go) fun r s4 ⟨u, hr, h4⟩ => ?_)
    subst hr
    refine wpAny_passesOwn hp (thn h4 fun _ s5 ⟨x, H5, I5, r5, y5, st5, fr5⟩ => ?_)
    have I5' := I5.pinned (stat fr5) (T.obj _ _ st5)
    refine wpAny_passesOwn hp (thn (hg _ s5 σ3 H5 x u _ I5' r5 (step x H5 y5)) fun _ s6 ⟨σ6, H6, I6, q6⟩ => ?_)
    refine wpAny_passesOwn hp (thn (hb _ s6 σ6 H6 _ I6 q6) fun f s7 q7 => ?_)
    have again : ∀ {σ7 : St} {H7 : Hp}, Inv X (pins ++ pinsAt fp s5.heap) σ7 H7 s7 → N σ7 H7 → ∃ m, m < n ∧ ∃ i σ' H', Inv X pins σ' H' s7 ∧ tn i s7.heap ∧ (∀ b ∈ fp, H' b = none) ∧ W i m σ' H' := fun {σ7 H7} I7 n7 => by
      obtain ⟨m', hm, w7⟩ := hN σ7 H7 n7
      refine ⟨m', hm, i + 1, σ7, H7, I7.unpinned, T.keep _ _ _ st5 fun b hb o e => (I7.pin (b, o) (List.mem_append_right _ (List.mem_append_right _ (mem_pinsAt hb e)))).1, fun b hb => ?_, w7⟩
      obtain ⟨o, e, d⟩ := T.obj _ _ st5 b hb
      exact (I7.pin (b, o) (List.mem_append_right _ (List.mem_append_right _ (mem_pinsAt hb e)))).2.1
    cases f with
    | next => obtain ⟨σ7, H7, I7, n7⟩ := q7; exact again I7 n7
    | cont => obtain ⟨σ7, H7, I7, n7⟩ := q7; exact again I7 n7
    | brk => obtain ⟨σ7, H7, I7, q7⟩ := q7; exact ⟨σ7, H7, I7.unpinned, q7⟩
    | ret v => obtain ⟨x7, σ7, H7, I7, r7, q7⟩ := q7; exact ⟨x7, σ7, H7, I7.unpinned, r7, q7⟩
end

/-! ### the forms one uses -/
end L2

namespace L2
open PySem PySem.Spec PyProof.Rows

abbrev R2 := V → V → Hp → VK → Prop
/-- a two-place operation on values: f is binaryOp op, inplaceOp op or compareOp op -/
def OpR (X : Cx) (f : Value → Value → Sem Value) (r : R2) : Prop :=
  ∀ (pins : List (Addr × Obj)) (s : Shared) (σ : St) (H : Hp) (x y : V) (v u : Value) (Q : VK), Inv X pins σ H s → RelV x v → RelV y u → r x y H Q →
    wpAny (model X.prog X.w) X.A (f v u) (EP X pins σ Q) X.xe s
/-- a one-place operation -/
def UnR (X : Cx) (f : Value → Sem Value) (r : V → Hp → VK → Prop) : Prop :=
  ∀ (pins : List (Addr × Obj)) (s : Shared) (σ : St) (H : Hp) (x : V) (v : Value) (Q : VK), Inv X pins σ H s → RelV x v → r x H Q →
    wpAny (model X.prog X.w) X.A (f v) (EP X pins σ Q) X.xe s
/-- a call of a value that is known (a builtin, a type) with values -/
def CallR (X : Cx) (f : Value) (r : List V → Hp → VK → Prop) : Prop :=
  ∀ (pins : List (Addr × Obj)) (s : Shared) (σ : St) (H : Hp) (xs : List V) (us : List Value) (Q : VK), Inv X pins σ H s → Vals xs us → r xs H Q →
    wpAny (model X.prog X.w) X.A (call f us) (EP X pins σ Q) X.xe s
/-- a value's truth -/
def TruR (X : Cx) (r : V → Hp → (Bool → Hp → Prop) → Prop) : Prop :=
  ∀ (pins : List (Addr × Obj)) (s : Shared) (σ : St) (H : Hp) (x : V) (v : Value) (Q : Bool → Hp → Prop), Inv X pins σ H s → RelV x v → r x H Q →
    wpAny (model X.prog X.w) X.A (truthy v) (TP X pins σ Q) X.xe s

def tOp (r : R2) (ta tb : TE) : TE := fun σ H Q => ta σ H fun x H1 => tb σ H1 fun y H2 => r x y H2 Q
def tUn (r : V → Hp → VK → Prop) (ta : TE) : TE := fun σ H Q => ta σ H fun x H1 => r x H1 Q
/-- ints in, under C, and a value out -/
def rI (C : Int → Int → Prop) (g : Int → Int → V) : R2 := fun x y H Q => ∃ i j, x = .int i ∧ y = .int j ∧ C i j ∧ Q (g i j) H
def rI0 (g : Int → Int → V) : R2 := fun x y H Q => ∃ i j, x = .int i ∧ y = .int j ∧ Q (g i j) H
def rU (g : Int → V) : V → Hp → VK → Prop := fun x H Q => ∃ i, x = .int i ∧ Q (g i) H

section
variable {X : Cx} {a b c : Expr} {ta tb tc : TE} {pos : Pos}

theorem binT (ha : PE X a ta) (hb : PE X b tb) {pins : List (Addr × Obj)} {s : Shared} {σ : St} {H : Hp} {R : V → V → Hp → Prop} (I : Inv X pins σ H s)
    (h : ta σ H fun x H1 => tb σ H1 fun y H2 => R x y H2) {Q : Value → Shared → Prop} {f : Value → Value → Sem Value}
    (hf : ∀ v u s2 x y H2, Inv X pins σ H2 s2 → RelV x v → RelV y u → R x y H2 → wpAny (model X.prog X.w) X.A (f v u) Q X.xe s2) :
    wpAny (model X.prog X.w) X.A (eval a X.env) (fun v s₁ => wpAny (model X.prog X.w) X.A (eval b X.env) (fun u s₂ => wpAny (model X.prog X.w) X.A (f v u) Q X.xe s₂) X.xe s₁) X.xe s := by
  refine thn (ha pins s σ H _ I h) fun v s1 ⟨x, H1, I1, r1, q1⟩ => ?_
  refine thn (hb pins s1 σ H1 _ I1 q1) fun u s2 ⟨y, H2, I2, r2, q2⟩ => ?_
  exact hf v u s2 x y H2 I2 r1 r2 q2

theorem pe_op {op : Operator} {r : R2} (ho : OpR X (binaryOp op) r) (ha : PE X a ta) (hb : PE X b tb) : PE X (.BinOp a op b pos) (tOp r ta tb) := by
  intro pins s σ H Q I h
  exact wpAny_BinOp (binT ha hb I h fun v u s2 x y H2 I2 rx ry q => ho pins s2 σ H2 x y v u Q I2 rx ry q)
/-! ### ints -/
theorem opI {f : Value → Value → Sem Value} {C : Int → Int → Prop} {g : Int → Int → Int}
    (rule : ∀ (i j : Int) (t u : Tok) (s : Shared) (Q : Value → Shared → Prop) (E : Value → Shared → Prop), C i j → Q (.int (g i j) s.toks) { s with toks := s.toks + 1 } → wpAny (model X.prog X.w) X.A (f (.int i t) (.int j u)) Q E s) :
    OpR X f (rI C fun i j => .int (g i j)) := by
  intro pins s σ H x y v u Q I rx ry h
  obtain ⟨i, j, rfl, rfl, hc, q⟩ := h
  obtain ⟨t, rfl⟩ := rx
  obtain ⟨t', rfl⟩ := ry
  exact rule i j t t' s _ _ hc ⟨.int (g i j), H, I.tok _, ⟨_, rfl⟩, q⟩
theorem opI0 {f : Value → Value → Sem Value} {g : Int → Int → Int}
    (rule : ∀ (i j : Int) (t u : Tok) (s : Shared) (Q : Value → Shared → Prop) (E : Value → Shared → Prop), Q (.int (g i j) s.toks) { s with toks := s.toks + 1 } → wpAny (model X.prog X.w) X.A (f (.int i t) (.int j u)) Q E s) :
    OpR X f (rI0 fun i j => .int (g i j)) := by
  intro pins s σ H x y v u Q I rx ry h
  obtain ⟨i, j, rfl, rfl, q⟩ := h
  obtain ⟨t, rfl⟩ := rx
  obtain ⟨t', rfl⟩ := ry
  exact rule i j t t' s _ _ ⟨.int (g i j), H, I.tok _, ⟨_, rfl⟩, q⟩
theorem opB0 {f : Value → Value → Sem Value} {g : Int → Int → Bool}
    (rule : ∀ (i j : Int) (t u : Tok) (s : Shared) (Q : Value → Shared → Prop) (E : Value → Shared → Prop), Q (.bool (g i j)) s → wpAny (model X.prog X.w) X.A (f (.int i t) (.int j u)) Q E s) :
    OpR X f (rI0 fun i j => .bl (g i j)) := by
  intro pins s σ H x y v u Q I rx ry h
  obtain ⟨i, j, rfl, rfl, q⟩ := h
  obtain ⟨t, rfl⟩ := rx
  obtain ⟨t', rfl⟩ := ry
  exact rule i j t t' s _ _ ⟨.bl (g i j), H, I, rfl, q⟩

def CDiv (i j : Int) : Prop := 0 < j ∧ j < 1073741824
def CDivN (i j : Int) : Prop := j ≠ 0 ∧ j.natAbs < 1073741824
def CPow (i j : Int) : Prop := 0 ≤ j ∧ j ≤ 1000000 ∧ i.natAbs < 2 ^ 64
def CMul (i j : Int) : Prop := (-(2 ^ 64) < i ∧ i < 2 ^ 64) ∨ (-(2 ^ 64) < j ∧ j < 2 ^ 64)
theorem CMul.ok {i j : Int} (h : CMul i j) : IntMulOk i j := by
  rcases h with ⟨h1, h2⟩ | ⟨h1, h2⟩
  · exact .of_left (intBits_le_64 h1 h2)
  · exact .of_right (intBits_le_64 h1 h2)
theorem op_add : OpR X (binaryOp .Add) (rI0 fun i j => .int (i + j)) := opI0 fun _ _ _ _ _ _ _ q => add_int q
theorem op_sub : OpR X (binaryOp .Sub) (rI0 fun i j => .int (i - j)) := opI0 fun _ _ _ _ _ _ _ q => sub_int q
theorem op_mul : OpR X (binaryOp .Mult) (rI CMul fun i j => .int (i * j)) := opI fun _ _ _ _ _ _ _ hc q => mul_int q hc.ok
/-- // by a positive divisor -/
theorem op_fdiv : OpR X (binaryOp .FloorDiv) (rI CDiv fun i j => .int (i / j)) := opI fun i j _ _ _ _ _ hc q => by
  have h1 : (0 : Int) < j := hc.1
  have h2 : j < 1073741824 := hc.2
  exact floordiv_int (by omega) (by rw [Int.fdiv_eq_ediv_of_nonneg i (by omega)]; exact q) (.inl (PyProof.noPylong_small (by omega)))
/-- % by a positive divisor of any size -/
theorem op_mod : OpR X (binaryOp .Mod) (rI (fun _ j => 0 < j) fun i j => .int (i % j)) := opI fun i j _ _ _ _ _ hc q => by
  have h1 : (0 : Int) < j := hc
  exact mod_int' (by omega) (by rw [Int.fmod_eq_emod_of_nonneg i (by omega)]; exact q)
theorem op_pow : OpR X (binaryOp .Pow) (rI CPow fun i j => .int (i ^ j.toNat)) := opI fun _ _ _ _ _ _ _ hc q => pow_int_small hc.1 hc.2.1 hc.2.2 q
/-! ### bools among ints: n += (a < b) -/
end

/-! ### comparisons -/
/-- the scalars that == tells apart as data does -/
def scal : V → V → Bool
  | .non, .non => true | .non, .int _ => true | .int _, .non => true | .non, .bl _ => true | .bl _, .non => true | .non, .str _ => true | .str _, .non => true
  | .int _, .int _ => true | .bl _, .bl _ => true | .str _, .str _ => true | .byt _, .byt _ => true
  | .int _, .str _ => true | .str _, .int _ => true | .bl _, .str _ => true | .str _, .bl _ => true
  | _, _ => false
def rEq : R2 := fun x y H Q => scal x y = true ∧ Q (.bl (decide (x = y))) H
def rNe : R2 := fun x y H Q => scal x y = true ∧ Q (.bl (!decide (x = y))) H

theorem dec_int {i j : Int} : decide (V.int i = V.int j) = (i == j) := by
  rw [Bool.eq_iff_iff]
  simp
theorem dec_bl {i j : Bool} : decide (V.bl i = V.bl j) = (i == j) := by
  rw [Bool.eq_iff_iff]
  simp
theorem dec_str {i j : Str} : decide (V.str i = V.str j) = (i == j) := by
  rw [Bool.eq_iff_iff]
  simp
theorem dec_byt {i j : Array UInt8} : decide (V.byt i = V.byt j) = (i.toList == j.toList) := by
  rw [Bool.eq_iff_iff]
  cases i
  cases j
  simp

section
variable {X : Cx} {a b c : Expr} {ta tb tc : TE} {pos : Pos}
theorem fin_bl {pins : List (Addr × Obj)} {σ : St} {H : Hp} {s : Shared} {Q : VK} {k k' : Bool} (I : Inv X pins σ H s) (q : Q (.bl k) H) (e : k = k') : EP X pins σ Q (.bool k') s := by
  subst e
  exact ⟨.bl k, H, I, rfl, q⟩
theorem op_eq : OpR X (compareOp .Eq) rEq := by
  intro pins s σ H x y v u Q I rx ry h
  obtain ⟨hs, q⟩ := h
  cases x with
  | non =>
    cases rx
    cases y with
    | non => cases ry; exact PySem.EqNone.eq_none_none (fin_bl I q (by simp))
    | bl j => cases ry; exact PySem.EqNone.eq_none_bool (fin_bl I q (by simp))
    | int j => obtain ⟨t', rfl⟩ := ry; exact PySem.EqNone.eq_none_int (fin_bl I q (by simp))
    | str j => obtain ⟨t', rfl⟩ := ry; exact PySem.EqNone.eq_none_str (fin_bl I q (by simp))
    | _ => exact absurd (show false = true from hs) Bool.false_ne_true
  | bl i =>
    cases rx
    cases y with
    | non => cases ry; exact PySem.EqNone.eq_bool_none (fin_bl I q (by simp))
    | bl j => cases ry; exact eq_bool (fin_bl I q dec_bl)
    | str j => obtain ⟨t', rfl⟩ := ry; exact PySem.EqMixed.eq_bool_str (fin_bl I q (by simp))
    | _ => exact absurd (show false = true from hs) Bool.false_ne_true
  | int i =>
    obtain ⟨t, rfl⟩ := rx
    cases y with
    | non => cases ry; exact PySem.EqNone.eq_int_none (fin_bl I q (by simp))
    | int j => obtain ⟨t', rfl⟩ := ry; exact eq_int (fin_bl I q dec_int)
    | str j => obtain ⟨t', rfl⟩ := ry; exact PySem.EqMixed.eq_int_str (fin_bl I q (by simp))
    | _ => exact absurd (show false = true from hs) Bool.false_ne_true
  | str i =>
    obtain ⟨t, rfl⟩ := rx
    cases y with
    | non => cases ry; exact PySem.EqNone.eq_str_none (fin_bl I q (by simp))
    | bl j => cases ry; exact PySem.EqMixed.eq_str_bool (fin_bl I q (by simp))
    | int j => obtain ⟨t', rfl⟩ := ry; exact PySem.EqMixed.eq_str_int (fin_bl I q (by simp))
    | str j => obtain ⟨t', rfl⟩ := ry; exact eq_str (fin_bl I q dec_str)
    | _ => exact absurd (show false = true from hs) Bool.false_ne_true
  | byt i =>
    obtain ⟨t, rfl⟩ := rx
    cases y with
    | byt j => obtain ⟨t', rfl⟩ := ry; exact PySem.W.eq_bytes (fin_bl I q dec_byt)
    | _ => exact absurd (show false = true from hs) Bool.false_ne_true
  | _ => cases y <;> exact absurd (show false = true from hs) Bool.false_ne_true
theorem op_ne : OpR X (compareOp .NotEq) rNe := by
  intro pins s σ H x y v u Q I rx ry h
  obtain ⟨hs, q⟩ := h
  cases x with
  | non =>
    cases rx
    cases y with
    | non => cases ry; exact PySem.EqNone.ne_none_none (fin_bl I q (by simp))
    | bl j => cases ry; exact PySem.EqNone.ne_none_bool (fin_bl I q (by simp))
    | int j => obtain ⟨t', rfl⟩ := ry; exact PySem.EqNone.ne_none_int (fin_bl I q (by simp))
    | str j => obtain ⟨t', rfl⟩ := ry; exact PySem.EqNone.ne_none_str (fin_bl I q (by simp))
    | _ => exact absurd (show false = true from hs) Bool.false_ne_true
  | bl i =>
    cases rx
    cases y with
    | non => cases ry; exact PySem.EqNone.ne_bool_none (fin_bl I q (by simp))
    | bl j => cases ry; exact ne_bool (fin_bl I q (congrArg not dec_bl))
    | str j => obtain ⟨t', rfl⟩ := ry; exact PySem.EqMixed.ne_bool_str (fin_bl I q (by simp))
    | _ => exact absurd (show false = true from hs) Bool.false_ne_true
  | int i =>
    obtain ⟨t, rfl⟩ := rx
    cases y with
    | non => cases ry; exact PySem.EqNone.ne_int_none (fin_bl I q (by simp))
    | int j => obtain ⟨t', rfl⟩ := ry; exact ne_int (fin_bl I q (congrArg not dec_int))
    | str j => obtain ⟨t', rfl⟩ := ry; exact PySem.EqMixed.ne_int_str (fin_bl I q (by simp))
    | _ => exact absurd (show false = true from hs) Bool.false_ne_true
  | str i =>
    obtain ⟨t, rfl⟩ := rx
    cases y with
    | non => cases ry; exact PySem.EqNone.ne_str_none (fin_bl I q (by simp))
    | bl j => cases ry; exact PySem.EqMixed.ne_str_bool (fin_bl I q (by simp))
    | int j => obtain ⟨t', rfl⟩ := ry; exact PySem.EqMixed.ne_str_int (fin_bl I q (by simp))
    | str j => obtain ⟨t', rfl⟩ := ry; exact ne_str (fin_bl I q (congrArg not dec_str))
    | _ => exact absurd (show false = true from hs) Bool.false_ne_true
  | byt i =>
    obtain ⟨t, rfl⟩ := rx
    cases y with
    | byt j => obtain ⟨t', rfl⟩ := ry; exact PySem.W.ne_bytes (fin_bl I q (congrArg not dec_byt))
    | _ => exact absurd (show false = true from hs) Bool.false_ne_true
  | _ => cases y <;> exact absurd (show false = true from hs) Bool.false_ne_true

theorem op_lt : OpR X (compareOp .Lt) (rI0 fun i j => .bl (decide (i < j))) := opB0 fun _ _ _ _ _ _ _ q => lt_int q
theorem op_le : OpR X (compareOp .LtE) (rI0 fun i j => .bl (decide (i ≤ j))) := opB0 fun _ _ _ _ _ _ _ q => le_int q
theorem op_gt : OpR X (compareOp .Gt) (rI0 fun i j => .bl (decide (j < i))) := opB0 fun _ _ _ _ _ _ _ q => gt_int q
theorem op_ge : OpR X (compareOp .GtE) (rI0 fun i j => .bl (decide (j ≤ i))) := opB0 fun _ _ _ _ _ _ _ q => ge_int q
/-- the one string within the other -/
theorem op_in_str : OpR X (compareOp .In) (fun x y H Q => ∃ i j, x = .str i ∧ y = .str j ∧ Q (.bl (!(Builtin.Str.occurrences j i 0 j.length 1).isEmpty)) H) := by
  intro pins s σ H x y v u Q I rx ry h
  obtain ⟨i, j, rfl, rfl, q⟩ := h
  obtain ⟨t, rfl⟩ := rx
  obtain ⟨t', rfl⟩ := ry
  exact in_str (fin_bl I q rfl)

theorem op_notN : OpR X (compareOp .IsNot) (fun x y H Q => y = .non ∧ Q (.bl (!decide (x = .non))) H) := by
  intro pins s σ H x y v u Q I rx ry h
  obtain ⟨rfl, q⟩ := h
  cases ry
  refine isnot_none_gen (fin_bl I q ?_)
  cases x <;> first
    | (cases rx; rfl)
    | (obtain ⟨t, rfl⟩ := rx; rfl)

theorem op_notin_str : OpR X (compareOp .NotIn) (fun x y H Q => ∃ i j, x = .str i ∧ y = .str j ∧ Q (.bl (!(!(Builtin.Str.occurrences j i 0 j.length 1).isEmpty))) H) := by
  intro pins s σ H x y v u Q I rx ry h
  obtain ⟨i, j, rfl, rfl, q⟩ := h
  obtain ⟨t, rfl⟩ := rx
  obtain ⟨t', rfl⟩ := ry
  exact notIn_str (fin_bl I q rfl)
/-- is, is not of two objects that are tracked lists or instances -/
def isObj : HO → Bool
  | .lst _ => true
  | .ins _ _ _ => true
  | _ => false
/-- two rules for one operation: by cases -/
theorem OpR.or {f : Value → Value → Sem Value} {r r' : R2} (h : OpR X f r) (h' : OpR X f r') : OpR X f (fun x y H Q => r x y H Q ∨ r' x y H Q) := by
  intro pins s σ H x y v u Q I rx ry q
  rcases q with q | q
  · exact h pins s σ H x y v u Q I rx ry q
  · exact h' pins s σ H x y v u Q I rx ry q

theorem nomark (b : Expr) {op : CmpOp} (h : op ≠ .In := by decide) (h2 : op ≠ .NotIn := by decide) : behindInMarks op b = false := by
  have e1 : (op == CmpOp.In) = false := by cases op <;> first | rfl | exact absurd rfl h
  have e2 : (op == CmpOp.NotIn) = false := by cases op <;> first | rfl | exact absurd rfl h2
  cases b <;> simp [behindInMarks, e1, e2]
/-- a comparison as a value; hm: nomark b, or (for in, not in) by with_unfolding_all rfl -/
theorem pe_cmpR {op : CmpOp} {r : R2} (ho : OpR X (compareOp op) r) (ha : PE X a ta) (hb : PE X b tb) (hm : behindInMarks op b = false) : PE X (.Compare a [op] [b] pos) (tOp r ta tb) := by
  intro pins s σ H Q I h
  exact wpAny_Compare1 (binT ha hb I h fun v u s2 x y H2 I2 rx ry q => ho pins s2 σ H2 x y v u Q I2 rx ry q) hm
/-- a reading of a value as a test -/
def tTest (t : TE) : TT := fun σ H Q => t σ H fun x H' => ∃ k, x = .bl k ∧ Q k H'
theorem pt_cmpR {op : CmpOp} {r : R2} (ho : OpR X (compareOp op) r) (ha : PE X a ta) (hb : PE X b tb) (hm : behindInMarks op b = false) : PT X (.Compare a [op] [b] pos) (tTest (tOp r ta tb)) := by
  intro pins s σ H Q I h
  refine wpAny_isTrue_Compare1 (thn (ha pins s σ H _ I h) fun v s1 ⟨x, H1, I1, r1, q1⟩ => thn (hb pins s1 σ H1 _ I1 q1) fun u s2 ⟨y, H2, I2, r2, q2⟩ =>
    thn (ho pins s2 σ H2 x y v u _ I2 r1 r2 q2) fun c s3 ⟨z, H3, I3, r3, k, e, q3⟩ => ?_) hm
  subst e
  cases r3
  exact wpAny_truthy_bool ⟨H3, I3, q3⟩
/-- a op1 b op2 c -/
def tChain (r r' : R2) (ta tb tc : TE) : TE := fun σ H Q => ta σ H fun x H1 => tb σ H1 fun y H2 => r x y H2 fun z H3 => ∃ k, z = .bl k ∧
  (if k = true then tc σ H3 fun w' H4 => r' y w' H4 Q else Q (.bl false) H3)
theorem pe_chain {op op' : CmpOp} {r r' : R2} (ho : OpR X (compareOp op) r) (ho' : OpR X (compareOp op') r') (ha : PE X a ta) (hb : PE X b tb) (hc : PE X c tc)
    (hm : lastMarks [op, op'] [b, c] = false := by with_unfolding_all rfl) : PE X (.Compare a [op, op'] [b, c] pos) (tChain r r' ta tb tc) := by
  intro pins s σ H Q I h
  refine Compare_chain (thn (ha pins s σ H _ I h) fun v s1 ⟨x, H1, I1, r1, q1⟩ => chain_link (thn (hb pins s1 σ H1 _ I1 q1) fun u s2 ⟨y, H2, I2, r2, q2⟩ =>
    thn (ho pins s2 σ H2 x y v u _ I2 r1 r2 q2) fun d s3 ⟨z, H3, I3, r3, k, e, q3⟩ => ?_)) hm
  subst e
  cases r3
  refine wpAny_truthy_bool ?_
  cases k with
  | false => exact ite_ff ⟨.bl false, H3, I3, rfl, q3⟩
  | true => exact ite_tt (chain_last (thn (hc pins s3 σ H3 _ I3 q3) fun w' s4 ⟨z', H4, I4, r4, q4⟩ => ho' pins s4 σ H4 y z' u w' Q I4 r2 r4 q4))
theorem pt_chain {op op' : CmpOp} {r r' : R2} (ho : OpR X (compareOp op) r) (ho' : OpR X (compareOp op') r') (ha : PE X a ta) (hb : PE X b tb) (hc : PE X c tc)
    (hm : lastMarks [op, op'] [b, c] = false := by with_unfolding_all rfl) : PT X (.Compare a [op, op'] [b, c] pos) (tTest (tChain r r' ta tb tc)) := by
  intro pins s σ H Q I h
  refine isTrue_chain (thn (ha pins s σ H _ I h) fun v s1 ⟨x, H1, I1, r1, q1⟩ => test_link (thn (hb pins s1 σ H1 _ I1 q1) fun u s2 ⟨y, H2, I2, r2, q2⟩ =>
    thn (ho pins s2 σ H2 x y v u _ I2 r1 r2 q2) fun d s3 ⟨z, H3, I3, r3, k, e, q3⟩ => ?_)) hm
  subst e
  cases r3
  refine wpAny_truthy_bool ?_
  cases k with
  | false =>
    obtain ⟨k', e', q'⟩ := q3
    cases e'
    exact ite_ff ⟨H3, I3, q'⟩
  | true =>
    refine ite_tt (test_last (thn (hc pins s3 σ H3 _ I3 q3) fun w' s4 ⟨z', H4, I4, r4, q4⟩ => thn (ho' pins s4 σ H4 y z' u w' _ I4 r2 r4 q4) fun d' s5 ⟨z2, H5, I5, r5, k2, e2, q5⟩ => ?_))
    subst e2
    cases r5
    exact wpAny_truthy_bool ⟨H5, I5, q5⟩

/-! ### truth -/
/-- a value's truth by the abstract heap -/
def TruV (K : PySem.W.Frag) (x : V) (H : Hp) (k : Bool) : Prop :=
  match x with
  | .non => k = false
  | .bl b => k = b
  | .int i => k = (i != 0)
  | .str y => y.length ≤ sizeLine ∧ k = ((y.length : Int) != 0)
  | .byt y => y.size ≤ sizeLine ∧ k = ((y.size : Int) != 0)
  | .ref p => (∃ xs, SqL K H p xs ∧ k = !xs.isEmpty) ∨ (∃ xs, SqT K H p xs ∧ k = !xs.isEmpty) ∨ ∃ kvs, H p = some (.dK kvs) ∧ k = !kvs.isEmpty
  | _ => False
theorem line63 : (sizeLine : Nat) < 2 ^ 63 := by rw [sizeLine_eq]; decide
/-! ### strs and bytes -/
theorem op_add_str : OpR X (binaryOp .Add) (fun x y H Q => ∃ i j, x = .str i ∧ y = .str j ∧ i.length + j.length ≤ sizeLine ∧ Q (.str (i ++ j)) H) := by
  intro pins s σ H x y v u Q I rx ry h
  obtain ⟨i, j, rfl, rfl, hz, q⟩ := h
  obtain ⟨t, rfl⟩ := rx
  obtain ⟨t', rfl⟩ := ry
  exact add_str (fun t' tk => ⟨.str (i ++ j), H, I.tok _, ⟨_, rfl⟩, q⟩) hz
def PlainIxT (b : Expr) : Prop := ∀ o i, subscripted b false o i = operate [o, i] (getItem o i)
/-! ### scalar builtins, by CallR -/
theorem vals1 {x : V} {us : List Value} (r : Vals [x] us) : ∃ u, us = [u] ∧ RelV x u := by
  cases r with
  | cons r1 r2 => cases r2; exact ⟨_, rfl, r1⟩
theorem vals2 {x y : V} {us : List Value} (r : Vals [x, y] us) : ∃ u w', us = [u, w'] ∧ RelV x u ∧ RelV y w' := by
  cases r with
  | cons r1 r2 =>
    cases r2 with
    | cons r3 r4 => cases r4; exact ⟨_, _, rfl, r1, r3⟩
theorem call_min2 (hc : X.calm = true) : CallR X (.builtin "min") (fun xs H Q => ∃ i j, xs = [.int i, .int j] ∧ Q (.int (if j < i then j else i)) H) := by
  intro pins s σ H xs us Q I r h
  obtain ⟨i, j, rfl, q⟩ := h
  obtain ⟨u, w', rfl, ⟨t, rfl⟩, ⟨t', rfl⟩⟩ := vals2 r
  refine min_two_ints (I.ok.hd hc) fun h' tk k => ⟨_, H, I.kept k, ?_, q⟩
  by_cases hj : j < i
  · rw [if_pos hj, if_pos hj]; exact ⟨_, rfl⟩
  · rw [if_neg hj, if_neg hj]; exact ⟨_, rfl⟩
theorem call_int1 : CallR X (.type "int") (fun xs H Q => (∃ i, xs = [.int i] ∧ Q (.int i) H) ∨ ∃ k, xs = [.bl k] ∧ Q (.int (if k then 1 else 0)) H) := by
  intro pins s σ H xs us Q I r h
  rcases h with ⟨i, rfl, q⟩ | ⟨k, rfl, q⟩
  · obtain ⟨u, rfl, t, rfl⟩ := vals1 r
    exact call_int_int ⟨.int i, H, I, ⟨_, rfl⟩, q⟩
  · obtain ⟨u, rfl, r1⟩ := vals1 r
    cases r1
    exact call_int_bool ⟨.int (if k then 1 else 0), H, I.tok _, ⟨_, rfl⟩, q⟩
theorem call_str_int : CallR X (.type "str") (fun xs H Q => ∃ i, xs = [.int i] ∧ i.natAbs.log2 < 1920 ∧ Q (.str (toString i)) H) := by
  intro pins s σ H xs us Q I r h
  obtain ⟨i, rfl, hz, q⟩ := h
  obtain ⟨u, rfl, t, rfl⟩ := vals1 r
  exact PySem.P.str_of_int hz ⟨.str _, H, I.tok _, ⟨_, rfl⟩, q⟩
/-- len of a str, a bytes, a list, a tuple -/
def LenV (K : PySem.W.Frag) (x : V) (H : Hp) (n : Nat) : Prop :=
  match x with
  | .str y => y.length ≤ sizeLine ∧ n = y.length
  | .byt y => y.size ≤ sizeLine ∧ n = y.size
  | .ref p => (∃ xs, SqL K H p xs ∧ n = xs.length) ∨ ∃ xs, SqT K H p xs ∧ n = xs.length
  | _ => False
end
end L2

namespace L2
open PySem PySem.Spec PyProof.Rows

/-! ### an instance, its attributes a map -/
structure ObjM (h : Heap) (x dx C : Addr) (mA : Str → Option Value) : Prop where
  obj : h.get? x = some (PySem.W.instObj C dx)
  ns : h.Ns1 dx mA
  ne : dx ≠ x

theorem lookIn_ns {h : Heap} {dx : Addr} {mA : Str → Option Value} (n : h.Ns1 dx mA) : ∃ od, h.get? dx = some od ∧ ∀ name, PySem.W.lookIn name od = some (mA name) := by
  obtain ⟨o, es, ep, ho, hd, hk, _, hm⟩ := n
  refine ⟨o, ho, fun name => ?_⟩
  have e := hm name
  unfold nsFind findBy at e
  rw [← Array.find?_toList] at e
  unfold PySem.W.lookIn
  rw [hd]
  dsimp only
  split
  · rename_i y q
    rw [q] at e
    exact congrArg some e
  · rename_i q
    rw [q] at e
    have a : es.toList.any (·.refKey) = false := by
      rw [List.any_eq_false]
      intro y hy
      obtain ⟨z, t, hkey⟩ := hk y (Array.mem_toList_iff.mp hy)
      simp [DictEntry.refKey, hkey]
    have a' : ¬ es.toList.any (·.refKey) = true := by rw [a]; exact Bool.false_ne_true
    rw [if_neg a']
    exact congrArg some e

theorem ObjM.look {h : Heap} {x dx C : Addr} {mA : Str → Option Value} (I : ObjM h x dx C mA) : ∃ od, PySem.W.InstAt h x (PySem.W.instObj C dx) C (some od) ∧ ∀ name, PySem.W.lookIn name od = some (mA name) :=
  let ⟨od, ho, hl⟩ := lookIn_ns I.ns
  ⟨od, ⟨I.obj, rfl, rfl, ho⟩, hl⟩

section
variable {prog : Program} {w : World} {A : Around} {E : Value → Shared → Prop} {s : Shared} {K : PySem.W.Frag} {x dx C f : Addr} {mA : Str → Option Value} {name : Str} {v : Value}

theorem get_map {expr : Bool} {Q : Value → Shared → Prop} (X : K.In s.heap) (I : ObjM s.heap x dx C mA) (hg : PySem.W.plainGet K C name = true) (hh : PySem.W.hasDictIn K C = true)
    (ha : PySem.W.findIn K (.ref C) name = some none) (hv : mA name = some v) (hv' : PySem.W.handedIn v = true) (h : Q v { s with toks := s.toks + 1 }) :
    wpAny (model prog w) A (getAttr (.ref x) name expr) Q E s := by
  obtain ⟨od, J, hl⟩ := I.look
  exact PySem.W.get_value X J (PySem.W.plainGet_of hg).1 (PySem.W.findObj_own hh ha rfl (by rw [hl, hv])) hv' h

theorem get_meth {pl : Sem Bool} {Q : Value × List Value → Shared → Prop} (X : K.In s.heap) (I : ObjM s.heap x dx C mA) (hg : PySem.W.plainGet K C name = true)
    (hf : PySem.W.findIn K (.ref C) name = some (some (.ref f))) (ht : PySem.W.isFn K (.ref f) = true) (hv : mA name = none) (h : Q (.ref f, [.ref x]) s) :
    wpAny (model prog w) A (getMethod (.ref x) name pl) Q E s := by
  obtain ⟨od, J, hl⟩ := I.look
  exact PySem.W.method_fn X J (PySem.W.plainGet_of hg).1 (PySem.W.plainGet_of hg).2 hf (beq_iff_eq.mp ht) (by show (PySem.W.lookIn name od).map (·.isSome) = some false; rw [hl, hv]; rfl) h

theorem set_map {ns : List Str} {Q : Unit → Shared → Prop} (X : K.In s.heap) (I : ObjM s.heap x dx C mA)
    (hs : PySem.W.findIn K (.ref C) "__setattr__" = some (some (.builtin "object.__setattr__"))) (hp : PySem.W.plainOver K C = true) (ht : PySem.W.takerIn K C name = some none) (hh : PySem.W.hasDictIn K C = true)
    (hw : PySem.Within mA ns) (hsz : ns.length ≤ sizeLine)
    (h : ∀ h', ObjM h' x dx C (fun y => if y = name then some v else mA y) → Heap.SameBut dx s.heap h' → Q () { s with heap := h', toks := s.toks + 2 }) :
    wpAny (model prog w) A (setAttr (.ref x) name v) Q E s := by
  obtain ⟨od, J, hl⟩ := I.look
  refine PySem.W.set_plain X J hs (PySem.W.osa_open (s := { s with toks := s.toks + 1 }) (r := none) X J hp ht fun b => ?_)
  obtain ⟨cd, hc, hd'⟩ := PySem.W.any_some hh
  have hx : s.heap.get? x = some ⟨.ref C, some dx, .plain, #[]⟩ := I.obj
  refine wpAny_bind (wpAny_pure (wpAny_bind (wpAny_bind (wpAny_loadPart hx (wpAny_bind (PySem.W.Looks.here (s := { s with toks := s.toks + 1 }) (PySem.W.looks_clsIn X hc) ?_))))))
  rw [hd']
  refine wpAny_pure (a := some dx) (wpAny_bind (wpAny_pure (wpAny_bind ?_)))
  refine wpAny_nsSet1 (s := { s with toks := s.toks + 1 }) I.ns fun h' hn2 hs2 => ?_
  obtain ⟨oD, esD, epD, hoD, hdD, hcD⟩ := hn2.count (PySem.Within.cons name v hw)
  refine wpAny_bind (wpAny_lookBehind hoD (by rw [hdD]; exact pastItsLine_dict (Nat.le_trans hcD (by rw [List.length_cons]; omega))) ?_)
  exact wpAny_pure (h _ ⟨(hs2.2 _ (Ne.symm I.ne)).trans I.obj, hn2, I.ne⟩ hs2)

/-- C(..): the dict at the heap's end, the instance behind it; then its __init__ -/
theorem make_map {R : Result → Shared → Prop} {vs : List Value} {kw : List (Str × Value)} (X : K.In s.heap) (hm : PySem.W.makesIn K C = true)
    (hi : PySem.W.findIn K (.ref C) "__init__" = some (some (.ref f))) (hf : PySem.W.typeIn K (.ref f) = some (.type "function"))
    (h : codeAny (model prog w) (A.under (.builtin "type.__call__" ⟨.ref C :: vs, kw⟩)) (.call (.ref f) ⟨.ref (s.heap.objs.size + 1) :: vs, kw⟩) (PySem.W.InitBack (s.heap.objs.size + 1) R)
      { s with heap := (s.heap.push PySem.W.emptyDict).push (PySem.W.instObj C s.heap.objs.size) }) :
    codeAny (model prog w) A (.call (.ref C) ⟨vs, kw⟩) R s := by
  obtain ⟨hh, g, d, t, os⟩ := s
  exact PySem.W.make_core (PySem.W.makes_of X hm) (PySem.W.looks_findIn X hi) (fun self => PySem.W.bind_fn X self hf) (.inl rfl) h
end

/-! ### the attributes as a list of pairs -/
def putF (f : Str) (v : V) : List (Str × V) → List (Str × V)
  | [] => [(f, v)]
  | (g, x) :: r => if g = f then (g, v) :: r else (g, x) :: putF f v r
theorem lookup_putF (f g : Str) (v : V) : ∀ fs : List (Str × V), (putF f v fs).lookup g = if g = f then some v else fs.lookup g
  | [] => by
    show List.lookup g [(f, v)] = _
    by_cases h : g = f
    · have hb : (g == f) = true := beq_iff_eq.mpr h
      simp only [List.lookup, hb, if_pos h]
    · have hb : (g == f) = false := beq_eq_false_iff_ne.mpr h
      simp only [List.lookup, hb, if_neg h]
  | (k, x) :: r => by
    have ih := lookup_putF f g v r
    rw [show putF f v ((k, x) :: r) = (if k = f then (k, v) :: r else (k, x) :: putF f v r) from rfl]
    by_cases hk : k = f
    · rw [if_pos hk]
      by_cases h : g = k
      · have hb : (g == k) = true := beq_iff_eq.mpr h
        simp only [List.lookup, hb, if_pos (h.trans hk)]
      · have hb : (g == k) = false := beq_eq_false_iff_ne.mpr h
        simp only [List.lookup, hb, if_neg (fun e : g = f => h (e.trans hk.symm))]
    · rw [if_neg hk]
      by_cases h : g = k
      · have hb : (g == k) = true := beq_iff_eq.mpr h
        simp only [List.lookup, hb, if_neg (fun e : g = f => hk (h.symm.trans e))]
      · have hb : (g == k) = false := beq_eq_false_iff_ne.mpr h
        simp only [List.lookup, hb]
        exact ih
theorem keys_putF (f : Str) (v : V) : ∀ fs : List (Str × V), f ∈ (putF f v fs).map (·.1) ∧ ∀ g, g ∈ fs.map (·.1) → g ∈ (putF f v fs).map (·.1)
  | [] => ⟨by simp [putF], fun g h => by simp at h⟩
  | (k, x) :: r => by
    obtain ⟨i1, i2⟩ := keys_putF f v r
    rw [show putF f v ((k, x) :: r) = (if k = f then (k, v) :: r else (k, x) :: putF f v r) from rfl]
    by_cases hk : k = f
    · rw [if_pos hk]
      subst hk
      exact ⟨by simp, fun g h => by simpa using h⟩
    · rw [if_neg hk]
      refine ⟨?_, fun g h => ?_⟩
      · rw [List.map_cons]
        exact List.mem_cons_of_mem _ i1
      · rw [List.map_cons] at h ⊢
        rcases List.mem_cons.mp h with e | e
        · exact List.mem_cons.mpr (.inl e)
        · exact List.mem_cons_of_mem _ (i2 g e)
theorem length_putF (f : Str) (v : V) : ∀ fs : List (Str × V), (putF f v fs).length ≤ fs.length + 1
  | [] => by simp [putF]
  | (k, x) :: r => by
    have ih := length_putF f v r
    rw [show putF f v ((k, x) :: r) = (if k = f then (k, v) :: r else (k, x) :: putF f v r) from rfl]
    by_cases hk : k = f
    · rw [if_pos hk, List.length_cons, List.length_cons]; omega
    · rw [if_neg hk, List.length_cons, List.length_cons]; omega

theorem RelO.some_of {v : V} {o : Option Value} (r : RelO (some v) o) : ∃ u, o = some u ∧ RelV v u := by
  cases o with
  | none => exact (show False from r).elim
  | some u => exact ⟨u, rfl, r⟩
theorem RelO.none_of {o : Option Value} (r : RelO none o) : o = none := by
  cases o with
  | none => rfl
  | some u => exact (show False from r).elim
theorem handed_of {v : V} {u : Value} (r : RelV v u) : PySem.W.handedIn u = true := by
  cases v with
  | non => cases (show u = Value.none from r); rfl
  | bl b => cases (show u = Value.bool b from r); rfl
  | int i => obtain ⟨t, e⟩ := (show ∃ t, u = Value.int i t from r); cases e; rfl
  | str x => obtain ⟨t, e⟩ := (show ∃ t, u = Value.str x t from r); cases e; rfl
  | byt b => obtain ⟨t, e⟩ := (show ∃ t, u = Value.bytes b t from r); cases e; rfl
  | flt b => obtain ⟨t, e⟩ := (show ∃ t, u = Value.float b t from r); cases e; rfl
  | ref a => cases (show u = Value.ref a from r); rfl
  | ty n => cases (show u = Value.type n from r); rfl

section
variable {P : Program} {w : World} {H H' : Hp} {h h' : Heap} {a C dx : Addr} {fs fs' : List (Str × V)}
theorem ins_get (hok : HOk P w H h) (e : H a = some (.ins C dx fs)) : ∃ mA, ObjM h a dx C mA ∧ (∀ f, RelO (fs.lookup f) (mA f)) ∧ PySem.Within mA (fs.map (·.1)) ∧ fs.length ≤ 1000 ∧ H dx = some (.own a) := by
  obtain ⟨d, z, ne, ob, mA, n, r, q⟩ := (show ObjOk P w H h a (.ins C dx fs) from hok a _ e)
  exact ⟨mA, ⟨ob, n, ne⟩, r, q, z, d⟩
end

/-! ### what of the text a class must have -/
structure Cls (K : PySem.W.Frag) (C : Addr) : Prop where
  pg : PySem.W.plainGet K C Str.empty = true
  hd : PySem.W.hasDictIn K C = true
  po : PySem.W.plainOver K C = true
  sa : PySem.W.findIn K (.ref C) "__setattr__" = some (some (.builtin "object.__setattr__"))
theorem Cls.get {K : PySem.W.Frag} {C : Addr} (c : Cls K C) (f : Str) : PySem.W.plainGet K C f = true := c.pg
/-- no class of it has the name -/
def NoAttr (K : PySem.W.Frag) (C : Addr) (f : Str) : Prop := PySem.W.findIn K (.ref C) f = some none
theorem NoAttr.taker {K : PySem.W.Frag} {C : Addr} {f : Str} (n : NoAttr K C f) : PySem.W.takerIn K C f = some none := by
  unfold PySem.W.takerIn
  rw [show PySem.W.findIn K (.ref C) f = some none from n]
  rfl
/-- a constant of the class -/
structure Con (K : PySem.W.Frag) (C : Addr) (f : Str) (v : V) (u : Value) : Prop where
  at_ : PySem.W.findIn K (.ref C) f = some (some u)
  rel : RelV v u
  get : PySem.W.specialIn K u "__get__" = some none
  cp : PySem.W.copiedNames.contains f = false
/-- a method: a plain def of the class or of one above it -/
structure Meth (K : PySem.W.Frag) (C : Addr) (m : Str) (f : Addr) : Prop where
  at_ : PySem.W.findIn K (.ref C) m = some (some (.ref f))
  fn : PySem.W.isFn K (.ref f) = true
  kp : PySem.W.keepIn K (.ref f) = true

section
variable {X : Cx} {pins : List (Addr × Obj)} {σ : St} {H : Hp} {s : Shared} {a C dx : Addr} {fs : List (Str × V)} {f : Str} {v : V} {A : Around} {E : Value → Shared → Prop}

theorem getattr_ok {b : Bool} {Q : Value → Shared → Prop} (I : Inv X pins σ H s) (e : H a = some (.ins C dx fs)) (c : Cls X.K C) (n : NoAttr X.K C f) (l : fs.lookup f = some v)
    (h : ∀ u s', Inv X pins σ H s' → RelV v u → Q u s') : wpAny (model X.prog X.w) A (getAttr (.ref a) f b) Q E s := by
  obtain ⟨mA, O, r, _, _, _⟩ := ins_get I.hok e
  obtain ⟨u, hu, ru⟩ := RelO.some_of (v := v) (o := mA f) (by rw [← l]; exact r f)
  exact get_map I.kIn O (c.get f) c.hd n hu (handed_of ru) (h u _ (I.tok _) ru)

theorem getmeth_ok {m : Str} {g : Addr} {pl : Sem Bool} {Q : Value × List Value → Shared → Prop} (I : Inv X pins σ H s) (e : H a = some (.ins C dx fs)) (c : Cls X.K C) (k : Meth X.K C m g) (l : fs.lookup m = none)
    (h : Q (.ref g, [.ref a]) s) : wpAny (model X.prog X.w) A (getMethod (.ref a) m pl) Q E s := by
  obtain ⟨mA, O, r, _, _, _⟩ := ins_get I.hok e
  have hn : mA m = none := RelO.none_of (by rw [← l]; exact r m)
  exact get_meth I.kIn O (c.get m) k.at_ k.fn hn h

theorem setattr_ok {y : V} {u : Value} {Q : Unit → Shared → Prop} (I : Inv X pins σ H s) (e : H a = some (.ins C dx fs)) (c : Cls X.K C) (n : NoAttr X.K C f) (hl : fs.length < 1000) (ry : RelV y u)
    (h : ∀ s', Inv X pins σ (upd H a (.ins C dx (putF f y fs))) s' → Q () s') : wpAny (model X.prog X.w) A (setAttr (.ref a) f u) Q E s := by
  obtain ⟨mA, O, r, wi, _, ho⟩ := ins_get I.hok e
  have hz : (fs.map (·.1)).length ≤ sizeLine := by rw [List.length_map, sizeLine_eq]; omega
  refine set_map I.kIn O c.sa c.po n.taker c.hd wi hz fun h' O' sb => h _ ?_
  have hd : ∃ o, h'.get? dx = some o := let ⟨o, _, _, e', _⟩ := O'.ns; ⟨o, e'⟩
  refine I.write (x := a) (e := dx) (by rw [e]; exact True.intro) (.inr ho) (fun b q hb z => (sb.2 b hb).trans z) hd ?_
  refine ⟨by rw [upd_ne O.ne]; exact ho, ?_, O.ne, O'.obj, _, O'.ns, fun g => ?_, fun g hg => ?_⟩
  · have := length_putF f y fs; omega
  · show RelO ((putF f y fs).lookup g) (if g = f then some u else mA g)
    rw [lookup_putF]
    by_cases q : g = f
    · rw [if_pos q, if_pos q]; exact ry
    · rw [if_neg q, if_neg q]; exact r g
  · by_cases q : g = f
    · rw [q]; exact (keys_putF f y fs).1
    · refine (keys_putF f y fs).2 g (wi g fun z => hg ?_)
      show (if g = f then some u else mA g) = none
      rw [if_neg q]; exact z

/-- a new instance, tracked, without attributes -/
theorem Inv.made (I : Inv X pins σ H s) : Inv X pins σ (upd (upd H s.heap.objs.size (.own (s.heap.objs.size + 1))) (s.heap.objs.size + 1) (.ins C s.heap.objs.size []))
    { s with heap := (s.heap.push PySem.W.emptyDict).push (PySem.W.instObj C s.heap.objs.size) } := by
  have e1 : (s.heap.push PySem.W.emptyDict).get? s.heap.objs.size = some PySem.W.emptyDict := Heap.get?_push_size s.heap rfl
  have e2 : ((s.heap.push PySem.W.emptyDict).push (PySem.W.instObj C s.heap.objs.size)).get? (s.heap.objs.size + 1) = some (PySem.W.instObj C s.heap.objs.size) := by
    have := Heap.get?_push_size (s.heap.push PySem.W.emptyDict) (o := PySem.W.instObj C s.heap.objs.size) rfl
    rwa [Heap.size_push] at this
  have e3 : (s.heap.push PySem.W.emptyDict).Ns s.heap.objs.size (fun _ => none) := ⟨PySem.W.emptyDict, #[], _, e1, rfl, (fun e he => absurd he (by simp)), fun _ => rfl⟩
  have I1 := I.laid (a := s.heap.objs.size) (o := .own (s.heap.objs.size + 1)) (h' := s.heap.push PySem.W.emptyDict) (t' := s.toks) (fun b u q => Heap.get?_push_of_some _ q) (Nat.le_refl _) ⟨_, e1⟩
  refine I1.laid (a := s.heap.objs.size + 1) (o := .ins C s.heap.objs.size []) (t' := s.toks) (fun b u q => Heap.get?_push_of_some _ q) (Nat.le_of_eq (Heap.size_push _ _)) ?_
  have ne : s.heap.objs.size ≠ s.heap.objs.size + 1 := Nat.ne_of_lt (Nat.lt_succ_self _)
  refine ⟨by rw [upd_ne ne, upd_same], Nat.zero_le _, ne, e2, fun _ => none, (Heap.Ns1.of_empty e3).at fun o q => Heap.get?_push_of_some _ q, fun _ => True.intro, fun y hy => absurd rfl hy⟩

/-- e.f where nothing but the object is asked: through attributeBase (super) and the last hold -/
theorem attr_of {prog : Program} {w : World} {env : Env} {e : Expr} {f : Str} {pos : Pos} {s : Shared} {Q : Value → Shared → Prop} (hb : attributeBase e f env (eval e env) = eval e env)
    (h : wpAny (model prog w) A (eval e env) (fun o s₁ => wpAny (model prog w) A (getAttr o f true) Q E s₁) E s) : wpAny (model prog w) A (eval (.Attribute e f pos) env) Q E s :=
  Attribute_any_ h (by rw [arm_eval_Attribute, hb])
end

/-! ### readings and rules -/
/-- e.f, an attribute of the instance -/
def tFld (K : PySem.W.Frag) (ta : TE) (f : Str) : TE := fun σ H Q => ta σ H fun x H1 => ∃ a C dx fs v, x = .ref a ∧ H1 a = some (.ins C dx fs) ∧ Cls K C ∧ NoAttr K C f ∧ fs.lookup f = some v ∧ Q v H1
/-- e.f, a constant of the class -/
def tCon (K : PySem.W.Frag) (ta : TE) (f : Str) : TE := fun σ H Q => ta σ H fun x H1 => ∃ a C dx fs v u, x = .ref a ∧ H1 a = some (.ins C dx fs) ∧ Cls K C ∧ Con K C f v u ∧ fs.lookup f = none ∧ Q v H1
/-- e.f = value -/
def sFld (K : PySem.W.Frag) (ta tv : TE) (f : Str) : TS := fun D σ H => tv σ H fun y H1 => ta σ H1 fun x H2 => ∃ a C dx fs, x = .ref a ∧ H2 a = some (.ins C dx fs) ∧ Cls K C ∧ NoAttr K C f ∧ fs.length < 1000 ∧
  D.nx σ (upd H2 a (.ins C dx (putF f y fs)))
/-- an augmented operator on two values -/
def InOp (X : Cx) (op : Operator) (rd : V → V → Hp → VK → Prop) : Prop :=
  ∀ (pins : List (Addr × Obj)) (s : Shared) (σ : St) (H : Hp) (x y : V) (u v : Value) (Q : VK), Inv X pins σ H s → RelV x u → RelV y v → rd x y H Q → wpAny (model X.prog X.w) X.A (inplaceOp op u v) (EP X pins σ Q) X.xe s
/-- e.f op= value -/
def sFldAug (K : PySem.W.Frag) (ta tv : TE) (rd : V → V → Hp → VK → Prop) (f : Str) : TS := fun D σ H => ta σ H fun x H1 => ∃ a C dx fs v, x = .ref a ∧ H1 a = some (.ins C dx fs) ∧ Cls K C ∧ NoAttr K C f ∧ fs.lookup f = some v ∧
  tv σ H1 fun y H2 => rd v y H2 fun z H3 => ∃ dx' fs', H3 a = some (.ins C dx' fs') ∧ fs'.length < 1000 ∧ D.nx σ (upd H3 a (.ins C dx' (putF f z fs')))

section
variable {X : Cx} {o e value : Expr} {f : Str} {pos pos' tpos : Pos} {ta tv : TE}
theorem pe_fld (he : PE X e ta) (hb : attributeBase e f X.env (eval e X.env) = eval e X.env) : PE X (.Attribute e f pos) (tFld X.K ta f) := by
  intro pins s σ H Q I h
  refine attr_of hb (thn (he pins s σ H _ I h) fun u s1 ⟨x, H1, I1, rx, a, C, dx, fs, v, ex, ea, c, n, l, q⟩ => ?_)
  subst ex
  obtain rfl : u = Value.ref a := rx
  exact getattr_ok I1 ea c n l fun u' s2 I2 ru => ⟨v, H1, I2, ru, q⟩
theorem ps_fld (ha : PE X o ta) (hv : PE X value tv) (hs : swapsWith value (some (.Attribute o f pos')) pos.line X.env = pure false) : PS X (.Assign [.Attribute o f pos'] value pos) (sFld X.K ta tv f) := by
  intro pins s σ H D I h
  refine plainObj_wpAny_Assign_Attribute (thn (hv pins s σ H _ I h) fun u s1 ⟨y, H1, I1, ry, q⟩ => thn (ha pins s1 σ H1 _ I1 q) fun ov s2 ⟨x, H2, I2, rx, a, C, dx, fs, ex, ea, c, n, l, q2⟩ => ?_) hs
  subst ex
  obtain rfl : ov = Value.ref a := rx
  exact setattr_ok I2 ea c n l ry fun s3 I3 => ⟨σ, _, I3, q2⟩
def rAdd : V → V → Hp → VK → Prop := fun x y H Q => ∃ i j, x = .int i ∧ y = .int j ∧ Q (.int (i + j)) H
def rSub : V → V → Hp → VK → Prop := fun x y H Q => ∃ i j, x = .int i ∧ y = .int j ∧ Q (.int (i - j)) H
end

/-! ### isinstance -/
section
variable {X : Cx} {pins : List (Addr × Obj)} {σ : St} {H : Hp} {s : Shared} {A : Around} {E : Value → Shared → Prop} {Q : Value → Shared → Prop} {c : Value} {b : Bool}
/-- the type of a value, as the fragment's deciders take it; for an instance its class -/
inductive TyOf (K : PySem.W.Frag) (H : Hp) : V → Value → Prop where
  | non : TyOf K H .non (.type "NoneType")
  | bl (x : Bool) : TyOf K H (.bl x) (.type "bool")
  | int (i : Int) : TyOf K H (.int i) (.type "int")
  | str (x : Str) : TyOf K H (.str x) (.type "str")
  | flt (x : UInt64) : TyOf K H (.flt x) (.type "float")
  | lst {a : Addr} {xs : List V} (e : H a = some (.lst xs)) : TyOf K H (.ref a) (.type "list")
  | frz {a : Addr} {o : Obj} {xs : List V} (e : H a = some (.frz o (.lst xs))) : TyOf K H (.ref a) (.type "list")
  | tup {a : Addr} {xs : List V} (e : H a = some (.tup xs)) : TyOf K H (.ref a) (.type "tuple")
  | dK {a : Addr} {kvs : List (Key × V)} (e : H a = some (.dK kvs)) : TyOf K H (.ref a) (.type "dict")
  | dT {a : Addr} {kvs : List (List Key × V)} (e : H a = some (.dT kvs)) : TyOf K H (.ref a) (.type "dict")
  | dX {a : Addr} {ep : Nat} {kvs : List (KD × V)} (e : H a = some (.dX ep kvs)) : TyOf K H (.ref a) (.type "dict")
  | ins {a C dx : Addr} {fs : List (Str × V)} (e : H a = some (.ins C dx fs)) (cl : Cls K C) (ha : PySem.W.findIn K (.ref C) "__class__" = some (some (.builtin "object.__class__")))
      (hn : PySem.W.specialIn K (.builtin "object.__class__") "__get__" = some (some (.builtin "getset_descriptor.__get__"))) (htk : PySem.W.takesIn K (.builtin "object.__class__") = some true)
      (hm : PySem.W.mroIn K C (.type "object") = some true) : TyOf K H (.ref a) (.ref C)
/-- isinstance(x, c) for one class c, a built-in or an own one: kitOne's answer -/
theorem isinst_ok {x : V} {u t : Value} (I : Inv X pins σ H s) (rx : RelV x u) (ty : TyOf X.K H x t) (e : PySem.W.kitOne X.K t c = some b) (h : ∀ tk, Q (.bool b) { s with toks := tk }) :
    wpAny (model X.prog X.w) A (call (.builtin "isinstance") [u, c]) Q E s := by
  cases ty with
  | non => cases (show u = Value.none from rx); exact PySem.W.kia_one PySem.W.kitx_none I.kIn True.intro e (fun z => nomatch z) h
  | bl y => cases (show u = Value.bool y from rx); exact PySem.W.kia_one PySem.W.kitx_bool I.kIn True.intro e (fun z => nomatch z) h
  | int i => obtain ⟨t, q⟩ := (show ∃ t, u = Value.int i t from rx); cases q; exact PySem.W.kia_one PySem.W.kitx_int I.kIn True.intro e (fun z => nomatch z) h
  | str y => obtain ⟨t, q⟩ := (show ∃ t, u = Value.str y t from rx); cases q; exact PySem.W.kia_one PySem.W.kitx_str I.kIn True.intro e (fun z => nomatch z) h
  | flt y => obtain ⟨t, q⟩ := (show ∃ t, u = Value.float y t from rx); cases q; exact PySem.W.kia_one PySem.W.kitx_float I.kIn True.intro e (fun z => nomatch z) h
  | @lst a xs ea =>
    cases (show u = Value.ref a from rx)
    obtain ⟨_, _, n, _, h1⟩ := (show ObjOk X.prog X.w H s.heap a (.lst xs) from I.hok a _ ea)
    exact PySem.W.kia_one PySem.W.kitx_list I.kIn ⟨_, h1, rfl⟩ e (fun z => nomatch z) h
  | @frz a ob xs ea =>
    cases (show u = Value.ref a from rx)
    obtain ⟨_, _, _, n, _, h1⟩ := (show ObjOk X.prog X.w H s.heap a (.frz ob (.lst xs)) from I.hok a _ ea)
    exact PySem.W.kia_one PySem.W.kitx_list I.kIn ⟨_, h1, rfl⟩ e (fun z => nomatch z) h
  | @tup a xs ea =>
    cases (show u = Value.ref a from rx)
    obtain ⟨_, _, _, p⟩ := (show ObjOk X.prog X.w H s.heap a (.tup xs) from I.hok a _ ea)
    obtain ⟨o, h1, h2, _⟩ := p
    exact PySem.W.kia_one PySem.W.kitx_tuple I.kIn ⟨o, h1, h2⟩ e (fun z => nomatch z) h
  | @dK a kvs ea =>
    cases (show u = Value.ref a from rx)
    obtain ⟨_, _, vs, _, p⟩ := (show ObjOk X.prog X.w H s.heap a (.dK kvs) from I.hok a _ ea)
    obtain ⟨o, es, ep, h1, h2, _⟩ := p
    exact PySem.W.kia_one PySem.W.kitx_dict I.kIn ⟨o, h1, h2.1⟩ e (fun z => nomatch z) h
  | @dT a kvs ea =>
    cases (show u = Value.ref a from rx)
    obtain ⟨_, _, xs, _, o, es, ep, h1, h2, _⟩ := (show ObjOk X.prog X.w H s.heap a (.dT kvs) from I.hok a _ ea)
    exact PySem.W.kia_one PySem.W.kitx_dict I.kIn ⟨o, h1, h2.1⟩ e (fun z => nomatch z) h
  | @dX a ep kvs ea =>
    cases (show u = Value.ref a from rx)
    obtain ⟨_, _, xs, _, o, es, h1, h2, _⟩ := (show ObjOk X.prog X.w H s.heap a (.dX ep kvs) from I.hok a _ ea)
    exact PySem.W.kia_one PySem.W.kitx_dict I.kIn ⟨o, h1, h2.1⟩ e (fun z => nomatch z) h
  | @ins a C dx fs ea cl ha hn htk hm =>
    cases (show u = Value.ref a from rx)
    obtain ⟨mA, O, _⟩ := ins_get I.hok ea
    obtain ⟨od, J, _⟩ := O.look
    exact PySem.W.kia_one (PySem.W.kitx_own (cl.get _) cl.hd ha hn htk hm) I.kIn J e (fun z => nomatch z) h
end
end L2

namespace L2
open PySem PySem.Spec PyProof.Rows

/-! ### room -/
structure Room (k : Nat) (A : Around) : Prop where
  hd : A.handled = none
  dp : A.depth + 3 * k + 5 < recursionLimit
  un : A.units + 16 * k + 200 < cLine
theorem Room.mono {j k : Nat} {A : Around} (r : Room k A) (h : j ≤ k) : Room j A := ⟨r.hd, by have := r.dp; omega, by have := r.un; omega⟩
theorem Room.deeper {k : Nat} {A : Around} (r : Room (k + 1) A) (env : Env) : Room k (A.deeper env) :=
  ⟨r.hd, by have := r.dp; show A.depth + 1 + 3 * k + 5 < _; omega, by have := r.un; show A.units + 3 + 16 * k + 200 < _; omega⟩
theorem Room.in1 {k : Nat} {A : Around} (r : Room (k + 1) A) : Room k A.in1 :=
  ⟨r.hd, by have := r.dp; show A.depth + 3 * k + 5 < _; omega, by have := r.un; show A.units + 1 + 16 * k + 200 < _; omega⟩
theorem make_depth {A : Around} {C : Addr} {us : List Value} {kw : List (Str × Value)} : (A.under (.builtin "type.__call__" ⟨.ref C :: us, kw⟩)).depth = A.depth + 1 := by
  first | rfl | simp [Around.under, Code.weight, Code.isCreation, Code.isGuard, Code.isCaller, Code.frames, Code.isFrame, guardIds]
theorem make_units {A : Around} {C : Addr} {us : List Value} {kw : List (Str × Value)} : (A.under (.builtin "type.__call__" ⟨.ref C :: us, kw⟩)).units = A.units + 1 := by
  first | rfl | simp [Around.under, Code.cUnits, Code.frames, Code.isFrame]
theorem Room.make {k : Nat} {A : Around} (r : Room (k + 1) A) (C : Addr) (us : List Value) (kw : List (Str × Value)) : Room k (A.under (.builtin "type.__call__" ⟨.ref C :: us, kw⟩)) :=
  ⟨r.hd, by have := r.dp; rw [make_depth]; omega, by have := r.un; rw [make_units]; omega⟩
theorem Room.depth {k : Nat} {A : Around} (r : Room k A) : A.depth < recursionLimit := by have := r.dp; omega
theorem Room.units {k : Nat} {A : Around} (r : Room k A) : A.units + 64 < cLine := by have := r.un; omega
/-! ### argument lists and displays -/
def tNil : TA := fun _ H Q => Q [] H
def tCons (ta : TE) (tr : TA) : TA := fun σ H Q => ta σ H fun x H1 => tr σ H1 fun xs H2 => Q (x :: xs) H2
section
variable {X : Cx} {e : Expr} {es : List Expr} {te : TE} {t : TA} {pos : Pos}
theorem pa_nil : PA X [] tNil := fun _ _ _ _ H Q I h => Calls.spliced_nil ⟨[], H, I, .nil, h⟩
theorem pa_cons (ha : PE X e te) (hr : PA X es t) (hs : starEach (e :: es) X.env = (false, eval e X.env) :: starEach es X.env := by rfl) : PA X (e :: es) (tCons te t) := by
  intro pos pins s σ H Q I h
  rw [hs]
  show wpAny _ _ (spliced ((false, eval e X.env) :: backTo pos (starEach es X.env))) _ _ s
  refine Calls.spliced_cons (thn (ha pins s σ H _ I h) fun u s1 ⟨x, H1, I1, r1, q1⟩ => ?_)
  exact thn (hr pos pins s1 σ H1 _ I1 q1) fun us s2 ⟨xs, H2, I2, r2, q2⟩ => ⟨x :: xs, H2, I2, .cons r1 r2, q2⟩

/-- a tuple, a list of written items -/
def tTup (t : TA) : TE := fun σ H Q => t σ H fun xs H1 => xs.length ≤ sizeLine ∧ ∀ p, H1 p = none → Q (.ref p) (upd H1 p (.tup xs))
def tLst (t : TA) : TE := fun σ H Q => t σ H fun xs H1 => xs.length ≤ sizeLine ∧ ∀ p, H1 p = none → Q (.ref p) (upd H1 p (.lst xs))
theorem pe_tup {x1} (h : PA X es t) : PE X (.Tuple es x1 pos) (tTup t) := by
  intro pins s σ H Q I hq
  refine wpAny_Tuple_spliced (thn (h pos pins s σ H _ I hq) fun us s1 ⟨xs, H1, I1, r, z, q⟩ => ⟨by rw [← r.length]; exact z, ?_⟩)
  have hf : H1 s1.heap.objs.size = none := I1.hok.fresh (Nat.le_refl _)
  refine ⟨.ref s1.heap.objs.size, upd H1 s1.heap.objs.size (.tup xs), I1.laid (t' := s1.toks) (fun b u e => Heap.get?_push_of_some _ e) (Nat.le_refl _) ?_, rfl, q _ hf⟩
  exact ⟨z, us, r, ⟨_, Heap.get?_push_size _ rfl, rfl, _, rfl⟩⟩
theorem pe_lst (h : PA X es t) : PE X (.List es pos) (tLst t) := by
  intro pins s σ H Q I hq
  refine wpAny_List_spliced (thn (h pos pins s σ H _ I hq) fun us s1 ⟨xs, H1, I1, r, z, q⟩ => ⟨by rw [← r.length]; exact z, ?_⟩)
  have hf : H1 s1.heap.objs.size = none := I1.hok.fresh (Nat.le_refl _)
  refine ⟨.ref s1.heap.objs.size, upd H1 s1.heap.objs.size (.lst xs), I1.laid (t' := s1.toks) (fun b u e => Heap.get?_push_of_some _ e) (Nat.le_refl _) ?_, rfl, q _ hf⟩
  exact ⟨z, us, 0, r, Heap.get?_push_size _ rfl⟩
end

/-! ### what a def promises -/
/-- a def's promise: the bound arguments in the parameters' order, the heap, the wanted end, the wanted exception -/
abbrev Sp := List V → Hp → VK → XK → Prop
/-- how an exception lies behind a call (file 08 gives it): the callers' frames, abstract heap and state ahead of the call, the wish, the exception, the state -/
abbrev CXT := List Env → Hp → Shared → XK → Value → Shared → Prop

/-- the state at a call -/
structure Env0 (P : Program) (w : World) (K : PySem.W.Frag) (mg : Str → Option Value) (base : Heap) (A : Around) (outer : List Env) (s : Shared) (H : Hp) : Prop where
  frames : A.frames = some outer
  mod : Mod K mg base
  bs : ∀ b o, base.get? b = some o → s.heap.get? b = some o ∧ H b = none
  bsz : base.objs.size ≤ s.heap.objs.size
  funs : s.heap.FunFrames base outer
  frf : ∀ b ∈ frs outer, H b = none
  hok : HOk P w H s.heap
  bare : AllBare s.gens
/-- a call's end -/
def CE (outer : List Env) (P : Program) (w : World) (H : Hp) (s : Shared) (Q : VK) (u : Value) (s' : Shared) : Prop :=
  ∃ v H', s'.os = s.os ∧ AllBare s'.gens ∧ Un (frs outer) [] H H' s.heap s'.heap ∧ HOk P w H' s'.heap ∧ RelV v u ∧ Q v H'
def CR (CX : CXT) (outer : List Env) (P : Program) (w : World) (H : Hp) (s : Shared) (Q : VK) (E : XK) (r : Result) (s' : Shared) : Prop :=
  match r with
  | .ok (.ret u) => CE outer P w H s Q u s'
  | .ok _ => False
  | .error e => CX outer H s E e s'
structure FnOk (P : Program) (w : World) (K : PySem.W.Frag) (mg : Str → Option Value) (base : Heap) (CX : CXT) (k : Nat) (f : Addr) (fd : FuncData) (ps : List Str) (sp : Sp) : Prop where
  len : ∀ vs H Q E, sp vs H Q E → vs.length = ps.length
  run : ∀ (A : Around) (outer : List Env) (s : Shared) (H : Hp) (args : Args) (us : List Value) (vs : List V) (Q : VK) (E : XK), Room k A → Env0 P w K mg base A outer s H → BindsTo s fd args (ps.zip us) → Vals vs us → sp vs H Q E →
    codeAny (model P w) A (.call (.ref f) args) (CR CX outer P w H s Q E) s
theorem FnOk.mono {P : Program} {w : World} {K : PySem.W.Frag} {mg : Str → Option Value} {base : Heap} {CX : CXT} {j k : Nat} {f : Addr} {fd : FuncData} {ps : List Str} {sp : Sp} (F : FnOk P w K mg base CX j f fd ps sp) (h : j ≤ k) :
    FnOk P w K mg base CX k f fd ps sp := ⟨F.len, fun A outer s H args us vs Q E hr => F.run A outer s H args us vs Q E (hr.mono h)⟩
/-- a weaker promise -/
theorem FnOk.imp {P : Program} {w : World} {K : PySem.W.Frag} {mg : Str → Option Value} {base : Heap} {CX : CXT} {k : Nat} {f : Addr} {fd : FuncData} {ps : List Str} {sp sp' : Sp} (F : FnOk P w K mg base CX k f fd ps sp)
    (h : ∀ vs H Q E, sp' vs H Q E → sp vs H Q E) : FnOk P w K mg base CX k f fd ps sp' :=
  ⟨fun vs H Q E q => F.len vs H Q E (h _ _ _ _ q), fun A outer s H args us vs Q E hr he hb hv hs => F.run A outer s H args us vs Q E hr he hb hv (h _ _ _ _ hs)⟩

theorem Env0.make {P : Program} {w : World} {K : PySem.W.Frag} {mg : Str → Option Value} {base : Heap} {A : Around} {outer : List Env} {s : Shared} {H : Hp} (e : Env0 P w K mg base A outer s H) (C : Addr) (us : List Value) (kw : List (Str × Value)) :
    Env0 P w K mg base (A.under (.builtin "type.__call__" ⟨.ref C :: us, kw⟩)) outer s H := ⟨by first | exact e.frames | (simpa [Around.under, Code.envs, Code.isFrame, pushEnvs] using e.frames), e.mod, e.bs, e.bsz, e.funs, e.frf, e.hok, e.bare⟩
theorem Env0.in1 {P : Program} {w : World} {K : PySem.W.Frag} {mg : Str → Option Value} {base : Heap} {A : Around} {outer : List Env} {s : Shared} {H : Hp} (e : Env0 P w K mg base A outer s H) :
    Env0 P w K mg base A.in1 outer s H := ⟨e.frames, e.mod, e.bs, e.bsz, e.funs, e.frf, e.hok, e.bare⟩

section
variable {X : Cx} {pins : List (Addr × Obj)} {σ : St} {H : Hp} {s s' : Shared}
/-- from a body: what a callee wants -/
theorem Inv.env0 (I : Inv X pins σ H s) : Env0 X.prog X.w X.K X.mg X.base X.A X.stack s H :=
  ⟨I.ok.frames, I.ok.mod, I.bs, Nat.le_trans I.ok.bsz I.sz, I.stack, I.stkFree, I.hok, I.bare⟩
/-- behind a call -/
theorem Inv.after {Q : VK} {u : Value} (I : Inv X pins σ H s) (h : CE X.stack X.prog X.w H s Q u s') : EP X pins σ Q u s' := by
  obtain ⟨v, H', os, bare, un, hok, r, q⟩ := h
  obtain ⟨hh, g, d, t, os'⟩ := s'
  obtain rfl : os' = s.os := os
  exact ⟨v, H', I.call (h' := hh) (g' := g) (d' := d) (t' := t) (ch := []) un hok bare (fun b z => absurd z (by simp)), r, q⟩
end

/-! ### calls -/
/-- f(..): the written arguments, then the defaults dvs; E: what is wanted of an exception -/
def tCall (sp : Sp) (dvs : List V) (E : XK) (t : TA) : TE := fun σ H Q => t σ H fun vs H1 => sp (vs ++ dvs) H1 Q E
/-- o.m(..) of an instance of the class at C -/
def tMeth (C : Addr) (m : Str) (sp : Sp) (dvs : List V) (E : XK) (ta : TE) (t : TA) : TE := fun σ H Q => ta σ H fun x H1 => ∃ a dx fs, x = .ref a ∧ H1 a = some (.ins C dx fs) ∧ fs.lookup m = none ∧
  t σ H1 fun vs H2 => sp (x :: (vs ++ dvs)) H2 Q E
/-- C(..): a new instance and its dict, then __init__ -/
def tMake (C : Addr) (sp : Sp) (dvs : List V) (E : XK) (t : TA) : TE := fun σ H Q => t σ H fun vs H1 => ∀ x dx, H1 x = none → H1 dx = none → dx ≠ x →
  sp (.ref x :: (vs ++ dvs)) (upd (upd H1 dx (.own x)) x (.ins C dx [])) (fun v H2 => v = .non ∧ Q (.ref x) H2) E

/-- how the parameters are bound: us the positional arguments, kw the keywords' values by name, ds the defaults that fill up -/
def Binds (K : PySem.W.Frag) (fd : FuncData) (ps : List Str) (ds : List Value) : Prop :=
  ∀ (s : Shared) (us : List Value), K.In s.heap → (us ++ ds).length = ps.length → BindsTo s fd ⟨us, []⟩ (ps.zip (us ++ ds))
/-- every parameter is given -/
theorem Binds.all {K : PySem.W.Frag} {fd : FuncData} {ps : List Str} (h : ∀ us : List Value, us.length = ps.length → bindArgs fd ⟨us, []⟩ = pure (ps.zip us)) : Binds K fd ps [] := fun s us _ hl => by
  rw [List.append_nil] at hl ⊢
  exact .of_eq (h us hl)

/-- an exception of a callee reaches what this body wants of exceptions -/
def Passes (CX : CXT) (X : Cx) (E : XK) : Prop := ∀ (pins : List (Addr × Obj)) (σ : St) (H : Hp) (s : Shared) (e : Value) (s' : Shared), Inv X pins σ H s → CX X.stack H s E e s' → X.xe e s'

section
variable {X : Cx} {CX : CXT} {k : Nat} {f C : Addr} {fd : FuncData} {ps : List Str} {sp : Sp} {dvs : List V} {ds : List Value} {E : XK} {x m : Str} {p pos apos : Pos} {e o : Expr} {es : List Expr} {ta : TE} {t : TA}

/-- the callee runs -/
theorem run_fn {pins : List (Addr × Obj)} {σ : St} {H : Hp} {s : Shared} {Q : VK} {us : List Value} {vs : List V} (F : FnOk X.prog X.w X.K X.mg X.base CX k f fd ps sp) (hr : Room k X.A) (hb : Binds X.K fd ps ds) (hd : Vals dvs ds) (hx : Passes CX X E)
    (I : Inv X pins σ H s) (r : Vals vs us) (h : sp (vs ++ dvs) H Q E) : wpAny (model X.prog X.w) X.A (call (.ref f) us) (EP X pins σ Q) X.xe s := by
  have r2 : Vals (vs ++ dvs) (us ++ ds) := r.append hd
  have hl : (us ++ ds).length = ps.length := by rw [← r2.length]; exact F.len _ _ _ _ h
  refine wpAny_call (codeAny_mono (F.run X.A X.stack s H ⟨us, []⟩ (us ++ ds) (vs ++ dvs) Q E hr I.env0 (hb s us I.kIn hl) r2 h) fun r s' hq => ?_)
  cases r with
  | error e => exact hx pins σ H s e s' I hq
  | ok fl =>
    cases fl with
    | ret u => exact I.after hq
    | next => exact False.elim hq
    | brk => exact False.elim hq
    | cont => exact False.elim hq

theorem pe_call (F : FnOk X.prog X.w X.K X.mg X.base CX k f fd ps sp) (hr : Room k X.A) (hg : Gl X x) (hm : X.mg x = some (.ref f)) (hk : PySem.W.keepIn X.K (.ref f) = true) (hb : Binds X.K fd ps ds) (hd : Vals dvs ds) (hx : Passes CX X E)
    (ha : PA X (e :: es) t) (hdb : (x == ("__debug__" : Str)) = false := by decide) (he : starEach (e :: es) X.env = (false, eval e X.env) :: starEach es X.env := by rfl) (hpl : (backTo pos (starEach es X.env)).any (·.1) = false := by rfl) :
    PE X (.Call (.Name x p) (e :: es) [] pos) (tCall sp dvs E t) := by
  intro pins s σ H Q I h
  refine wpAny_Call_Name_kw (ld_glob I hg hm ?_ hdb)
  refine PySem.W.callWith_K (h₀ := X.base) I.ok.mod.kin hk (thn (ha pos pins s σ H _ I h) fun us s1 ⟨vs, H1, I1, r, q⟩ => ⟨I1.kIn, ?_⟩) he hpl
  exact run_fn F hr hb hd hx I1 r q
/-- what a class must have to be made -/
structure Mk (K : PySem.W.Frag) (C f : Addr) : Prop where
  makes : PySem.W.makesIn K C = true
  init : PySem.W.findIn K (.ref C) "__init__" = some (some (.ref f))
  fn : PySem.W.isFn K (.ref f) = true
  kp : PySem.W.keepIn K (.ref C) = true

theorem run_make {pins : List (Addr × Obj)} {σ : St} {H : Hp} {s : Shared} {Q : VK} {us : List Value} {vs : List V} (M : Mk X.K C f) (F : FnOk X.prog X.w X.K X.mg X.base CX k f fd ps sp) (hr : Room (k + 1) X.A) (hb : Binds X.K fd ps ds) (hd : Vals dvs ds)
    (hx : Passes CX X E) (I : Inv X pins σ H s) (r : Vals vs us)
    (h : ∀ x dx, H x = none → H dx = none → dx ≠ x → sp (.ref x :: (vs ++ dvs)) (upd (upd H dx (.own x)) x (.ins C dx [])) (fun v H2 => v = .non ∧ Q (.ref x) H2) E) :
    wpAny (model X.prog X.w) X.A (call (.ref C) us) (EP X pins σ Q) X.xe s := by
  have hq := h (s.heap.objs.size + 1) s.heap.objs.size (I.hok.fresh (Nat.le_succ _)) (I.hok.fresh (Nat.le_refl _)) (Nat.ne_of_lt (Nat.lt_succ_self _))
  have I2 := Inv.made (C := C) I
  have r2 : Vals (V.ref (s.heap.objs.size + 1) :: (vs ++ dvs)) (Value.ref (s.heap.objs.size + 1) :: (us ++ ds)) := .cons rfl (r.append hd)
  have hl : (Value.ref (s.heap.objs.size + 1) :: us ++ ds).length = ps.length := by
    have e := r2.length
    rw [F.len _ _ _ _ hq] at e
    exact e.symm
  refine wpAny_call (make_map (f := f) I.kIn M.makes M.init (beq_iff_eq.mp M.fn) (codeAny_mono (F.run _ X.stack _ _ ⟨Value.ref (s.heap.objs.size + 1) :: us, []⟩ (Value.ref (s.heap.objs.size + 1) :: (us ++ ds)) _ _ E (hr.make C us [])
    (I2.env0.make C us []) (hb _ (Value.ref (s.heap.objs.size + 1) :: us) I2.kIn hl) r2 hq) fun r s' hq' => ?_))
  cases r with
  | error e => exact hx pins σ _ _ e s' I2 hq'
  | ok fl =>
    cases fl with
    | ret u =>
      obtain ⟨v, H', I3, rv, ev, q3⟩ := I2.after hq'
      subst ev
      exact ⟨rv, ⟨V.ref (s.heap.objs.size + 1), H', I3, rfl, q3⟩⟩
    | next => exact False.elim hq'
    | brk => exact False.elim hq'
    | cont => exact False.elim hq'
theorem pe_make (M : Mk X.K C f) (F : FnOk X.prog X.w X.K X.mg X.base CX k f fd ps sp) (hr : Room (k + 1) X.A) (hg : Gl X x) (hm : X.mg x = some (.ref C)) (hb : Binds X.K fd ps ds) (hd : Vals dvs ds) (hx : Passes CX X E)
    (ha : PA X (e :: es) t) (hdb : (x == ("__debug__" : Str)) = false := by decide) (he : starEach (e :: es) X.env = (false, eval e X.env) :: starEach es X.env := by rfl) (hpl : (backTo pos (starEach es X.env)).any (·.1) = false := by rfl) :
    PE X (.Call (.Name x p) (e :: es) [] pos) (tMake C sp dvs E t) := by
  intro pins s σ H Q I h
  refine wpAny_Call_Name_kw (ld_glob I hg hm ?_ hdb)
  refine PySem.W.callWith_K (h₀ := X.base) I.ok.mod.kin M.kp (thn (ha pos pins s σ H _ I h) fun us s1 ⟨vs, H1, I1, r, q⟩ => ⟨I1.kIn, ?_⟩) he hpl
  exact run_make M F hr hb hd hx I1 r q
end

/-! ### keywords -/
/-- the values of the keywords, from the left -/
def PK (X : Cx) (kws : List Keyword) (t : TA) : Prop :=
  ∀ (pos : Pos) (pins : List (Addr × Obj)) (s : Shared) (σ : St) (H : Hp) (Q : List V → Hp → Prop), Inv X pins σ H s → t σ H Q → wpAny (model X.prog X.w) X.A (evalAll ((backToKw pos (keywordEach kws X.env)).map (·.2))) (AP X pins σ Q) X.xe s
section
variable {X : Cx} {CX : CXT} {k : Nat} {f C : Addr} {fd : FuncData} {ps ks : List Str} {sp : Sp} {E : XK} {x m : Str} {p pos apos kpos : Pos} {e o : Expr} {es : List Expr} {kws : List Keyword} {te ta : TE} {t tk : TA} {nm : Option Str}
/-- how a call with keywords binds: g puts the positional values us and the keywords' values ws (names ks) in the parameters' order, defaults among them -/
structure KBinds (K : PySem.W.Frag) (fd : FuncData) (ps ks : List Str) (g : List Value → List Value → List Value) (gV : List V → List V → List V) : Prop where
  to : ∀ (s : Shared) (us ws : List Value), K.In s.heap → (g us ws).length = ps.length → BindsTo s fd ⟨us, ks.zip ws⟩ (ps.zip (g us ws))
  rel : ∀ {vs : List V} {us : List Value} {zs : List V} {ws : List Value}, Vals vs us → Vals zs ws → Vals (gV vs zs) (g us ws)
def tCallK (sp : Sp) (gV : List V → List V → List V) (E : XK) (t tk : TA) : TE := fun σ H Q => t σ H fun vs H1 => tk σ H1 fun zs H2 => sp (gV vs zs) H2 Q E
variable {g : List Value → List Value → List Value} {gV : List V → List V → List V}
end

/-! ### a def's body keeps its promise -/
/-- names: the parameters first -/
structure FnScope (N P : List Str) (sc : Scope) : Prop where
  kind : sc.kind = .function
  co : sc.isCoroutine = false
  gen : sc.isGenerator = false
  nd : N.Nodup
  pre : N.take P.length = P
  par : ∀ x ∈ P, sc.names.lookup x = some .local ∨ sc.names.lookup x = some .cell
  nofree : ∀ y ∈ sc.names, y.2 ≠ .free

theorem bindL_out {kindOf : Str → Option NameKind} {x : Str} : ∀ {binds : List (Str × Value)} {m : Str → Option Value}, (∀ v, (x, v) ∉ binds) → bindL kindOf binds m x = m x
  | [], _, _ => rfl
  | (n, v) :: r, m, h => by
    unfold bindL
    rw [bindL_out fun w hw => h w (List.mem_cons_of_mem _ hw)]
    split
    · have : x ≠ n := by rintro rfl; exact h v List.mem_cons_self
      simp [this]
    · rfl
theorem bindC_out {kindOf : Str → Option NameKind} {x : Str} : ∀ {binds : List (Str × Value)} {m : Str → Option Value}, (∀ v, (x, v) ∉ binds) → bindC kindOf binds m x = m x
  | [], _, _ => rfl
  | (n, v) :: r, m, h => by
    unfold bindC
    rw [bindC_out fun w hw => h w (List.mem_cons_of_mem _ hw)]
    split
    · rfl
    · have : x ≠ n := by rintro rfl; exact h v List.mem_cons_self
      simp [this]
theorem bindL_get {kindOf : Str → Option NameKind} {x : Str} {v : Value} : ∀ {P : List Str} {vs : List Value} {i : Nat} {m : Str → Option Value}, P.Nodup → P[i]? = some x → vs[i]? = some v → kindOf x = some .local →
    bindL kindOf (P.zip vs) m x = some v
  | [], _, _, _, _, h, _, _ => by simp at h
  | _ :: _, [], _, _, _, _, h, _ => by simp at h
  | p :: P, w :: vs, 0, m, nd, h1, h2, hk => by
    simp at h1 h2; subst h1; subst h2
    show bindL kindOf ((p, w) :: P.zip vs) m p = _
    unfold bindL
    rw [bindL_out fun v hv => (List.nodup_cons.mp nd).1 (List.of_mem_zip hv).1, if_pos hk]
    simp
  | p :: P, w :: vs, i + 1, m, nd, h1, h2, hk => by
    show bindL kindOf ((p, w) :: P.zip vs) m x = _
    unfold bindL
    exact bindL_get (i := i) (List.nodup_cons.mp nd).2 (by simpa using h1) (by simpa using h2) hk
theorem bindC_get {kindOf : Str → Option NameKind} {x : Str} {v : Value} : ∀ {P : List Str} {vs : List Value} {i : Nat} {m : Str → Option Value}, P.Nodup → P[i]? = some x → vs[i]? = some v → kindOf x ≠ some .local →
    bindC kindOf (P.zip vs) m x = some v
  | [], _, _, _, _, h, _, _ => by simp at h
  | _ :: _, [], _, _, _, _, h, _ => by simp at h
  | p :: P, w :: vs, 0, m, nd, h1, h2, hk => by
    simp at h1 h2; subst h1; subst h2
    show bindC kindOf ((p, w) :: P.zip vs) m p = _
    unfold bindC
    rw [bindC_out fun v hv => (List.nodup_cons.mp nd).1 (List.of_mem_zip hv).1, if_neg hk]
    simp
  | p :: P, w :: vs, i + 1, m, nd, h1, h2, hk => by
    show bindC kindOf ((p, w) :: P.zip vs) m x = _
    unfold bindC
    exact bindC_get (i := i) (List.nodup_cons.mp nd).2 (by simpa using h1) (by simpa using h2) hk

/-- the names' values at the entry -/
def start (N : List Str) (vs : List V) : St := vs.map some ++ List.replicate (N.length - vs.length) none

/-- the context of a def's body, at its entry; an exception leaves the frame, then lies as CX says -/
def cxOf (CX : CXT) (P : Program) (w : World) (K : PySem.W.Frag) (mg : Str → Option Value) (base : Heap) (N : List Str) (qual : Str) (scope : Scope) (f : Addr) (cd : Value) (A : Around) (outer : List Env) (s : Shared) (H : Hp) (E : XK) : Cx where
  prog := P
  w := w
  K := K
  mg := mg
  base := base
  A := A.deeper (envOfC qual scope s.heap.objs.size f cd)
  N := N
  s₀ := s
  H₀ := H
  env := envOfC qual scope s.heap.objs.size f cd
  outer := outer
  stack := envOfC qual scope s.heap.objs.size f cd :: outer
  ex := []
  calm := true
  fn := fun _ => true
  pn := []
  xe := fun e s' => wpAny (model P w) (A.deeper (envOfC qual scope s.heap.objs.size f cd)) (leaving (envOfC qual scope s.heap.objs.size f cd) e) (fun _ s'' => CX outer H s E e s'') (fun e' s'' => CX outer H s E e' s'') s'

theorem cell_has {sc : Scope} {n : Nat} {x : Str} (h : sc.names.lookup x = some .cell) : ∃ c, (cellsFrom n sc.names []).lookup x = some c := by
  have q := PySem.W.cellsFrom_some sc.names n [] (.inl h)
  exact Option.isSome_iff_exists.mp q

theorem inv_start {CX : CXT} {P : Program} {w : World} {K : PySem.W.Frag} {mg : Str → Option Value} {base : Heap} {N ps : List Str} {qual : Str} {scope : Scope} {f : Addr} {cd : Value} {A : Around} {outer : List Env} {s s1 : Shared} {H : Hp} {E : XK} {us : List Value} {vs : List V}
    (S : FnScope N ps scope) (hd : A.handled = none) (e0 : Env0 P w K mg base A outer s H) (hl : vs.length = ps.length) (r : Vals vs us)
    (x : InCallC s s.heap.objs.size (bindL (envOfC qual scope s.heap.objs.size f cd).kindOf (ps.zip us) fun _ => none) (cellsFrom (s.heap.objs.size + 1) scope.names []) (bindC (envOfC qual scope s.heap.objs.size f cd).kindOf (ps.zip us) fun _ => none) s1) :
    Inv (cxOf CX P w K mg base N qual scope f cd A outer s H E) [] (start N vs) H s1 := by
  have hpl : ps.length ≤ N.length := by have := congrArg List.length S.pre; rw [List.length_take] at this; omega
  obtain ⟨h1, tk, rfl, hk⟩ := x.done
  have noA : ∀ b : Addr, b ∉ (cxOf CX P w K mg base N qual scope f cd A outer s H E).ex := fun b z => absurd (show b ∈ ([] : List Addr) from z) (by simp)
  refine ⟨⟨e0.mod, S.kind, rfl, rfl, Nat.le_refl _, fun y z c h1 h2 => ?_, fun y hy => ?_, fun y c _ h => ?_, fun _ => hd, Around.frames_deeper e0.frames, .inr ⟨rfl, rfl⟩, fun b z => absurd z (noA b), e0.bs, e0.bsz, fun b _ _ => noA b, fun b z => absurd z (noA b), e0.funs, e0.frf⟩,
    rfl, e0.bare, Un.kept hk, ⟨_, x.toInCall.ns, fun i y v h1 h2 h3 => ?_⟩, fun y c h => ⟨_, x.cell y c h⟩, e0.hok.fresh (Nat.le_refl _), fun y c h => ?_, fun p hp => absurd (show p ∈ ([] : List (Addr × Obj)) from hp) (by simp), e0.hok.kept hk, ?_⟩
  · exact name_of_addr x.apart (PySem.mem_of_lookup h1) (PySem.mem_of_lookup h2)
  · have hy : scope.names.lookup y = some .cell ∨ scope.names.lookup y = some .free := hy
    rcases hy with hy | hy
    · exact cell_has hy
    · exact absurd rfl (S.nofree _ (PySem.mem_of_lookup hy))
  · exact Nat.le_of_lt (x.above y c (PySem.mem_of_lookup h))
  · have hi : i < vs.length := by
      unfold start at h2
      by_cases hi : i < vs.length
      · exact hi
      · rw [List.getElem?_append_right (by simpa using hi)] at h2
        rw [List.getElem?_replicate] at h2
        split at h2 <;> cases h2
    have ha : vs[i]? = some v := by
      unfold start at h2
      rw [List.getElem?_append_left (by simpa using hi), List.getElem?_map] at h2
      cases e : vs[i]? with
      | none => rw [e] at h2; cases h2
      | some a => rw [e] at h2; cases h2; rfl
    obtain ⟨u, hu, rv⟩ := r.get ha
    have hp : ps[i]? = some y := by
      rw [← S.pre, List.getElem?_take_of_lt (by omega)]; exact h1
    have ndP : ps.Nodup := by rw [← S.pre]; exact S.nd.sublist (List.take_sublist _ _)
    refine ⟨u, rv, ?_⟩
    rcases S.par y (List.mem_of_getElem? hp) with k | k
    · exact .inl ⟨k, bindL_get ndP hp hu k⟩
    · obtain ⟨c, e⟩ := cell_has (n := s.heap.objs.size + 1) k
      refine .inr ⟨.inl k, c, e, ?_⟩
      have q := x.cell y c e
      rw [bindC_get ndP hp hu (by show scope.names.lookup y ≠ _; rw [k]; decide)] at q
      exact q
  · exact e0.hok.fresh (Nat.le_of_lt (x.above y c (PySem.mem_of_lookup h)))
  · unfold start
    show _ = N.length
    rw [List.length_append, List.length_map, List.length_replicate]
    omega

/-- THE RULE: a def (or a method) of the text, by its body. The body's reading t is chosen for each entry; it is run at the parameters' values -/
theorem fn_of {CX : CXT} {P : Program} {w : World} {K : PySem.W.Frag} {mg : Str → Option Value} {base : Heap} {k : Nat} {f : Addr} {name qual : Str} {params : Arguments} {body : List Stmt} {scope : Scope} {dV kV doc pm cdv ct oc : Value} {an od : Option Addr}
    {osl : Array (Option Value)} {N ps : List Str} {sp : Sp} (lk : K.lookup f = some ⟨oc, od, .func (PySem.W.fnOf name qual params body scope dV kV doc pm an cdv ct), osl⟩) (hcd : PySem.W.codeIn K cdv qual = true) (S : FnScope N ps scope)
    (len : ∀ vs H Q E, sp vs H Q E → vs.length = ps.length)
    (hbody : ∀ (A : Around) (outer : List Env) (s : Shared) (H : Hp) (vs : List V) (Q : VK) (E : XK), Room k (A.deeper (envOfC qual scope s.heap.objs.size f cdv)) → sp vs H Q E →
      ∃ t, PSs (cxOf CX P w K mg base N qual scope f cdv A outer s H E) body t ∧ t { nx := fun _ H' => Q .non H', rt := Q } (start N vs) H) :
    FnOk P w K mg base CX (k + 1) f (PySem.W.fnOf name qual params body scope dV kV doc pm an cdv ct) ps sp := by
  refine ⟨len, fun A outer s H args us vs Q E hr e0 hb r hsp => ?_⟩
  have hl := len _ _ _ _ hsp
  have KX : K.In s.heap := e0.mod.kin.keeps fun b o e => (e0.bs b o e).1
  have lim : s.heap.NoLimit := e0.mod.nolimit.keeps fun b o e => (e0.bs b o e).1
  have hkind : ∀ y ∈ ps.zip us, scope.names.lookup y.1 = some .local ∨ (scope.names.lookup y.1 = some .cell ∧ ((cellsFrom (s.heap.objs.size + 1) scope.names []).lookup y.1).isSome = true) := fun ⟨n, v⟩ hy => by
    rcases S.par n (List.of_mem_zip hy).1 with q | q
    · exact .inl q
    · exact .inr ⟨q, PySem.W.cellsFrom_some _ _ _ (.inl q)⟩
  refine codeAny_call_function hr.depth (KX _ _ lk) rfl S.co S.gen rfl (PySem.W.codeRec_of KX hcd) (hb _ _ _ _ ?_)
  refine wpAny_newFunctionEnv_cells S.kind hkind fun env he s1 x => ?_
  subst he
  refine ⟨lim.keeps x.toInCall.keep, codeAny_func ?_⟩
  obtain ⟨t, ht, hq⟩ := hbody A outer s H vs Q E (hr.deeper _) hsp
  have I : Inv (cxOf CX P w K mg base N qual scope f cdv A outer s H E) [] (start N vs) H s1 := inv_start S hr.hd e0 hl r x
  refine wpAny_mono (ht [] s1 (start N vs) H _ I hq) (fun fl s' hs => ?_) fun e s' hs => hs
  have fin : ∀ {σ' : St} {H' : Hp} {v : V} {u : Value}, Inv (cxOf CX P w K mg base N qual scope f cdv A outer s H E) [] σ' H' s' → RelV v u → Q v H' → CE outer P w H s Q u s' :=
    fun {σ' H' v u} J rv q => ⟨v, H', J.os, J.bare, J.base, J.hok, rv, q⟩
  cases fl with
  | ret u =>
    obtain ⟨v, σ', H', J, rv, q⟩ := hs
    exact fin J rv q
  | next =>
    obtain ⟨σ', H', J, q⟩ := hs
    exact fin (v := V.non) (u := Value.none) J rfl q
  | brk =>
    obtain ⟨_, _, _, q⟩ := hs
    exact False.elim q
  | cont =>
    obtain ⟨_, _, _, q⟩ := hs
    exact False.elim q
end L2

namespace L2
open PySem PySem.Spec PyProof.Rows
section
variable {X : Cx} {x : Str} {p pos : Pos} {e : Expr} {es : List Expr} {t : TA} {id T : String} {r : List V → Hp → VK → Prop}

def tCB (r : List V → Hp → VK → Prop) (t : TA) : TE := fun σ H Q => t σ H fun vs H1 => r vs H1 Q
/-- f(e, ..), f a built-in function -/
theorem pe_callB (hc : CallR X (.builtin id) r) (hg : Gl X x) (hm : X.mg x = none) (hv : bootBuiltins x = some (.builtin id)) (ha : PA X (e :: es) t) (hn : x ≠ "__name__" := by decide) (hdb : (x == ("__debug__" : Str)) = false := by decide)
    (he : starEach (e :: es) X.env = (false, eval e X.env) :: starEach es X.env := by rfl) (hpl : (backTo pos (starEach es X.env)).any (·.1) = false := by rfl) : PE X (.Call (.Name x p) (e :: es) [] pos) (tCB r t) := by
  intro pins s σ H Q I h
  refine wpAny_Call_Name_kw (ld_blt I hg hm hv ?_ hn hdb)
  exact PyProof.Rows.callWith_builtin1 (thn (ha pos pins s σ H _ I h) fun us s1 ⟨vs, H1, I1, r1, q1⟩ => hc pins s1 σ H1 vs us Q I1 r1 q1) he hpl
/-- T(e, ..), T a built-in type -/
theorem pe_callTy (hc : CallR X (.type T) r) (hg : Gl X x) (hm : X.mg x = none) (hv : bootBuiltins x = some (.type T)) (ha : PA X (e :: es) t) (hn : x ≠ "__name__" := by decide) (hdb : (x == ("__debug__" : Str)) = false := by decide)
    (he : starEach (e :: es) X.env = (false, eval e X.env) :: starEach es X.env := by rfl) (hpl : (backTo pos (starEach es X.env)).any (·.1) = false := by rfl) : PE X (.Call (.Name x p) (e :: es) [] pos) (tCB r t) := by
  intro pins s σ H Q I h
  refine wpAny_Call_Name_kw (ld_blt I hg hm hv ?_ hn hdb)
  exact PyProof.Rows.callWith_type1 (thn (ha pos pins s σ H _ I h) fun us s1 ⟨vs, H1, I1, r1, q1⟩ => hc pins s1 σ H1 vs us Q I1 r1 q1) he hpl
end
end L2

namespace HT
open PySem PyProof.Rows

/-- t < u of tuples of ints -/
def lexLt : List Int → List Int → Bool
  | [], [] => false
  | [], _ :: _ => true
  | _ :: _, [] => false
  | x :: xs, y :: ys => if x = y then lexLt xs ys else decide (x < y)
section
open PySem.SeqAt
open PySem.AutoSeq1 (wpAny_loadPart')
open PySem.MeetsSeq PySem.MeetsSeq2 PySem.MeetsSeq3

end

section
variable {prog : Program} {w : World} {A : Around} {E : Value → Shared → Prop} {s : Shared}

/-! ### t[a:b], not the whole -/
/-- a slice's bound as a place among n (d where it is left out) -/
def sIx (n d : Nat) : Option Int → Nat
  | none => d
  | some v => if v < 0 then (v + (n : Int)).toNat else min v.toNat n
theorem sIx_none (n d : Nat) : sIx n d none = d := rfl
theorem sIx_nat (n d k : Nat) : sIx n d (some (k : Int)) = min k n := by
  show (if (k : Int) < 0 then ((k : Int) + (n : Int)).toNat else min (k : Int).toNat n) = min k n
  rw [if_neg (by omega), Int.toNat_natCast]
theorem sIx_le (n d : Nat) (hd : d ≤ n) (o : Option Int) : sIx n d o ≤ n := by
  cases o with
  | none => exact hd
  | some v =>
    show (if v < 0 then (v + (n : Int)).toNat else min v.toNat n) ≤ n
    by_cases hv : v < 0
    · rw [if_pos hv]; omega
    · rw [if_neg hv]; exact Nat.min_le_right _ _
theorem clip_eq (v : Int) (n d : Nat) : (if v < 0 then max (v + (n : Int)) 0 else min v (n : Int)) = ((sIx n d (some v) : Nat) : Int) := by
  show (if v < 0 then max (v + (n : Int)) 0 else min v (n : Int)) = (((if v < 0 then (v + (n : Int)).toNat else min v.toNat n) : Nat) : Int)
  by_cases hv : v < 0
  · simp only [if_pos hv]; omega
  · simp only [if_neg hv]; omega
theorem adjust_gen (lo hi : Option Int) (n : Nat) : Builtin.Slice.sliceAdjust lo hi 1 (n : Int) = (((sIx n 0 lo : Nat) : Int), ((sIx n n hi : Nat) : Int)) := by
  have h1 : ¬ ((1 : Int) < 0) := by omega
  unfold Builtin.Slice.sliceAdjust
  simp only [h1, if_false]
  refine Prod.ext ?_ ?_
  · cases lo with
    | none => rfl
    | some v => exact clip_eq v n 0
  · cases hi with
    | none => rfl
    | some v => exact clip_eq v n n
theorem places_gen (i j : Nat) : Builtin.Slice.slicePlaces (i : Int) (j : Int) 1 = j - i := by
  unfold Builtin.Slice.slicePlaces
  have h1 : (1 : Int) > 0 := by omega
  simp only [h1, if_true, Int.ediv_one]
  split <;> omega
theorem slicePart_ {v : Value} {o : Option Int} {Q : Option Int → Shared → Prop} (p : IsPart v o) (h : Q o s) : wpAny (model prog w) A (Builtin.Slice.slicePartIndex v) Q E s := by
  cases p with
  | none => exact slicePart_none h
  | int i t => exact slicePart_int h
theorem sliceApplied_gen {sl : Addr} {vl vu : Value} {lo hi : Option Int} {n : Nat} {Q : Int × Int × Nat → Shared → Prop} (hs : s.heap.IsSliceOf sl vl vu .none) (pl : IsPart vl lo) (pu : IsPart vu hi)
    (h : Q (((sIx n 0 lo : Nat) : Int), 1, sIx n n hi - sIx n 0 lo) s) : wpAny (model prog w) A (Builtin.Slice.sliceApplied (.ref sl) (pure (n : Int))) Q E s := by
  obtain ⟨os, hos, hcs, hds⟩ := id hs
  unfold Builtin.Slice.sliceApplied Builtin.Slice.sliceFields
  refine wpAny_bind (wpAny_bind (wpAny_field hos hds (x := vl) rfl (wpAny_bind (wpAny_field hos hds (x := vu) rfl (wpAny_bind (wpAny_field hos hds (x := .none) rfl (wpAny_pure ?_)))))))
  refine wpAny_bind (slicePart_none ?_)
  show wpAny _ _ (if ((1 : Int) == 0) = true then _ else _) _ _ s
  rw [if_neg (by decide)]
  refine wpAny_bind (slicePart_ pl (wpAny_bind (slicePart_ pu (wpAny_bind (wpAny_pure ?_)))))
  show wpAny _ _ (match Builtin.Slice.sliceAdjust lo hi 1 (n : Int) with | (lo, hi) => pure (lo, (1 : Int), Builtin.Slice.slicePlaces lo hi 1)) _ _ s
  rw [adjust_gen lo hi n]
  show wpAny _ _ (pure (((sIx n 0 lo : Nat) : Int), (1 : Int), Builtin.Slice.slicePlaces ((sIx n 0 lo : Nat) : Int) ((sIx n n hi : Nat) : Int) 1)) _ _ s
  rw [places_gen]
  exact wpAny_pure h
theorem pick_gen (xs : Array Value) (i k : Nat) : ((List.range k).filterMap fun (m : Nat) => xs[((i : Int) + (m : Int) * 1).toNat]?).toArray = ((xs.toList.drop i).take k).toArray := by
  have e : (fun (m : Nat) => xs[((i : Int) + (m : Int) * 1).toNat]?) = fun m => xs[i + m]? := by
    funext m
    have : ((i : Int) + (m : Int) * 1).toNat = i + m := by omega
    rw [this]
  rw [e]
  have := pick_run xs i k
  rw [List.filterMap_map] at this
  have e2 : ((fun x => xs[x]?) ∘ fun x => i + x) = fun m => xs[i + m]? := rfl
  rw [e2] at this
  rw [this]

theorem getItem_tuple_cut {t sl : Addr} {items : Array Value} {vl vu : Value} {lo hi : Option Int} {Q : Value → Shared → Prop} (ht : IsTup s.heap t items) (hs : s.heap.IsSliceOf sl vl vu .none) (pl : IsPart vl lo) (pu : IsPart vu hi)
    (hw : ¬ (sIx items.size 0 lo = 0 ∧ sIx items.size items.size hi = items.size))
    (h : Q (.ref s.heap.objs.size) { s with heap := s.heap.push { cls := .type "tuple", data := .seq ((items.toList.drop (sIx items.size 0 lo)).take (sIx items.size items.size hi - sIx items.size 0 lo)).toArray } })
    (hsz : items.size ≤ sizeLine) : wpAny (model prog w) A (getItem (.ref t) (.ref sl)) Q E s := by
  have htake : sizeOk (.seq ((items.toList.drop (sIx items.size 0 lo)).take (sIx items.size items.size hi - sIx items.size 0 lo)).toArray) := by
    show ((items.toList.drop (sIx items.size 0 lo)).take (sIx items.size items.size hi - sIx items.size 0 lo)).toArray.size ≤ sizeLine
    rw [List.size_toArray, List.length_take, List.length_drop, Array.length_toList]
    omega
  have hj : sIx items.size items.size hi ≤ items.size := sIx_le _ _ (Nat.le_refl _) hi
  obtain ⟨os, hos, hcs, hds⟩ := id hs
  have hTs : s.TypeIs (.ref sl) "slice" := ⟨os, hos, hcs⟩
  unfold getItem
  try with_reducible refine wpAny_holding ?_
  first | refine wpAny_bind (wpAny_pure ?_) | skip
  refine wpAny_bind (wpAny_sequenceKey ht.typeIs (by decide) ?_)
  refine wpAny_bind (wpAny_callSpecial?_slot (name := Str.ofString "__getitem__") ht.typeIs PyProof.Rows.slot_tuple_getitem
    (wpAny_call_entry PyProof.Rows.slot_tuple_getitem ht.typeIs entry_tuple_getitem ?_ (args_tuple_getitem _ _)))
  show wpAny _ _ (Builtin.Tuple.tupleItemsOf (.ref t) >>= _) _ _ s
  refine wpAny_bind (tupleItemsOf_ ht ?_)
  refine wpAny_bind (wpAny_typeOf hTs ?_)
  rw [if_pos (by decide)]
  refine wpAny_bind (sliceApplied_gen hs pl pu ?_)
  have hno : ¬ ((((sIx items.size 0 lo : Nat) : Int) == 0 && (1 : Int) == 1 && (sIx items.size items.size hi - sIx items.size 0 lo) == items.size) = true) := by
    intro q
    rw [Bool.and_eq_true, Bool.and_eq_true] at q
    have q1 : ((sIx items.size 0 lo : Nat) : Int) = 0 := eq_of_beq q.1.1
    have q2 : sIx items.size items.size hi - sIx items.size 0 lo = items.size := eq_of_beq q.2
    exact hw ⟨by omega, by omega⟩
  show wpAny _ _ (if (((sIx items.size 0 lo : Nat) : Int) == 0 && (1 : Int) == 1 && (sIx items.size items.size hi - sIx items.size 0 lo) == items.size) = true then _ else _) _ _ s
  rw [if_neg hno, pick_gen]
  first
    | exact wpAny_bind (m := Builtin.Tuple.tupleExact _) (wpAny_newObj_type (wpAny_pure ⟨_, rfl, wpAny_pure h⟩) htake)
    | exact wpAny_bind (m := Builtin.Tuple.tupleExact _) (wpAny_newObj_type (wpAny_bind (wpAny_pure (wpAny_pure ⟨_, rfl, wpAny_pure h⟩))) htake)
    | exact wpAny_bind (wpAny_bind (m := Builtin.Tuple.tupleExact _) (wpAny_newObj_type (wpAny_pure (wpAny_pure ⟨_, rfl, wpAny_pure h⟩)) htake))
    | exact wpAny_bind (wpAny_bind (m := Builtin.Tuple.tupleExact _) (wpAny_newObj_type (wpAny_pure ⟨_, rfl, wpAny_pure h⟩) htake))
end
end HT

namespace L2
open PySem PySem.Spec PyProof.Rows

/-! ### the parts of a slice -/
abbrev TO := St → Hp → (Option Int → Hp → Prop) → Prop
/-- a slice's part (left out, or an int) -/
def PO (X : Cx) (e : Option Expr) (t : TO) : Prop :=
  ∀ (pins : List (Addr × Obj)) (s : Shared) (σ : St) (H : Hp) (Q : Option Int → Hp → Prop), Inv X pins σ H s → t σ H Q →
    wpAny (model X.prog X.w) X.A (evalPart e X.env) (fun u s' => ∃ o H', Inv X pins σ H' s' ∧ IsPart u o ∧ Q o H') X.xe s
def tNoPart : TO := fun _ H Q => Q none H
def tPart (t : TE) : TO := fun σ H Q => t σ H fun x H1 => ∃ i, x = .int i ∧ Q (some i) H1

section
variable {X : Cx} {e : Expr} {te : TE} {lo hi : Option Expr} {tl th : TO} {pos p2 : Pos}

theorem po_none : PO X none tNoPart := by
  intro pins s σ H Q I h
  rw [evalPart_none]
  exact wpAny_pure ⟨none, H, I, .none, h⟩
theorem po_some (h : PE X e te) : PO X (some e) (tPart te) := by
  intro pins s σ H Q I hw
  rw [evalPart_some]
  refine thn (h pins s σ H _ I hw) fun u s1 ⟨x, H1, I1, r1, q1⟩ => ?_
  obtain ⟨i, rfl, q⟩ := q1
  obtain ⟨t, rfl⟩ := r1
  exact ⟨some i, H1, I1, .int i t, q⟩

/-- what a slice of a value is, by values: the slice object stands at sl -/
def SlR (X : Cx) (r : V → Option Int → Option Int → Hp → VK → Prop) : Prop :=
  ∀ (pins : List (Addr × Obj)) (s : Shared) (σ : St) (H : Hp) (x : V) (v vl vu : Value) (lo hi : Option Int) (sl : Addr) (Q : VK), Inv X pins σ H s → RelV x v → s.heap.IsSliceOf sl vl vu .none → IsPart vl lo → IsPart vu hi → r x lo hi H Q →
    ∃ T id, typeLookup (.type T) "__getitem__" = pure (some (.builtin id)) ∧ s.TypeIs v T ∧ wpAny (model X.prog X.w) X.A (getItem v (.ref sl)) (EP X pins σ Q) X.xe s
theorem SlR.or {r r' : V → Option Int → Option Int → Hp → VK → Prop} (h : SlR X r) (h' : SlR X r') : SlR X (fun x lo hi H Q => r x lo hi H Q ∨ r' x lo hi H Q) := by
  intro pins s σ H x v vl vu lo hi sl Q I rx hs pl pu q
  rcases q with q | q
  · exact h pins s σ H x v vl vu lo hi sl Q I rx hs pl pu q
  · exact h' pins s σ H x v vl vu lo hi sl Q I rx hs pl pu q
def tSl (r : V → Option Int → Option Int → Hp → VK → Prop) (te : TE) (tl th : TO) : TE := fun σ H Q => te σ H fun x H1 => tl σ H1 fun l H2 => th σ H2 fun u H3 => r x l u H3 Q
/-- a[lo:hi], any a -/
theorem pe_slice {r : V → Option Int → Option Int → Hp → VK → Prop} (hr : SlR X r) (he : PE X e te) (hl : PO X lo tl) (hu : PO X hi th) : PE X (.Subscript e (.Slice lo hi none p2) pos) (tSl r te tl th) := by
  intro pins s σ H Q I h
  refine Subscript_ (thn (he pins s σ H _ I h) fun v s1 ⟨x, H1, I1, r1, q1⟩ => ?_)
  refine wpAny_Slice (thn (hl pins s1 σ H1 _ I1 q1) fun vl s2 ⟨l, H2, I2, pl, q2⟩ => thn (hu pins s2 σ H2 _ I2 q2) fun vu s3 ⟨u, H3, I3, pu, q3⟩ => ?_)
  rw [evalPart_none]
  refine wpAny_pure ?_
  have I4 : Inv X pins σ H3 { s3 with heap := s3.heap.push { cls := .type "slice", data := .fields #[vl, vu, .none] } } := I3.kept (t' := s3.toks) fun b ob q => Heap.get?_push_of_some _ q
  obtain ⟨T, id, hT, ht, hg⟩ := hr pins { s3 with heap := s3.heap.push { cls := .type "slice", data := .fields #[vl, vu, .none] } } σ H3 x v vl vu l u s3.heap.objs.size Q I4 r1 (Heap.IsSliceOf.new ..) pl pu q3
  show wpAny (model X.prog X.w) X.A (subscriptTail e (.Slice lo hi none p2) v (.ref s3.heap.objs.size)) (EP X pins σ Q) X.xe { s3 with heap := s3.heap.push { cls := .type "slice", data := .fields #[vl, vu, .none] } }
  exact tail_any (ops := [.ref s3.heap.objs.size, v]) ht hT hg (by with_unfolding_all rfl)

/-- the items of xs[lo:hi] -/
def cutV (xs : List V) (lo hi : Option Int) : List V := (xs.drop (HT.sIx xs.length 0 lo)).take (HT.sIx xs.length xs.length hi - HT.sIx xs.length 0 lo)
theorem cutV_length (xs : List V) (lo hi : Option Int) : (cutV xs lo hi).length ≤ xs.length := by
  unfold cutV
  rw [List.length_take, List.length_drop]
  omega
/-- t[lo:hi], not the whole of it (the whole would be t itself) -/
def rSlT (K : PySem.W.Frag) : V → Option Int → Option Int → Hp → VK → Prop := fun x lo hi H Q => ∃ a xs, x = .ref a ∧ SqT K H a xs ∧
  ¬ (HT.sIx xs.length 0 lo = 0 ∧ HT.sIx xs.length xs.length hi = xs.length) ∧ ∀ p, H p = none → Q (.ref p) (upd H p (.tup (cutV xs lo hi)))
theorem sl_tup : SlR X (rSlT X.K) := by
  intro pins s σ H x v vl vu lo hi sl Q I rx hs pl pu h
  obtain ⟨a, xs, rfl, hx, hw, q⟩ := h
  cases rx
  obtain ⟨its, r, ht, hz⟩ := I.tuple hx
  have hlen : its.toArray.size = xs.length := by rw [List.size_toArray]; exact r.length.symm
  refine ⟨"tuple", _, PyProof.Rows.slot_tuple_getitem.lookup, ht.typeIs, ?_⟩
  refine HT.getItem_tuple_cut ht hs pl pu (by rw [hlen]; exact hw) ?_ (by rw [hlen]; exact hz)
  rw [hlen]
  refine ⟨.ref s.heap.objs.size, _, I.laid (t' := s.toks) (o := .tup (cutV xs lo hi)) (fun b ob q => Heap.get?_push_of_some _ q) (Nat.le_refl _) ?_, rfl, q _ (I.hok.fresh (Nat.le_refl _))⟩
  exact ⟨Nat.le_trans (cutV_length xs lo hi) hz, _, (r.drop (HT.sIx xs.length 0 lo)).take (HT.sIx xs.length xs.length hi - HT.sIx xs.length 0 lo), IsTup.new _ _⟩

/-! ### t < u, t + u -/
def rLtT (K : PySem.W.Frag) : R2 := fun x y H Q => ∃ a b ns ms, x = .ref a ∧ y = .ref b ∧ SqT K H a (ns.map V.int) ∧ SqT K H b (ms.map V.int) ∧ Q (.bl (HT.lexLt ns ms)) H
/-- t + u, t not empty: u empty gives t itself -/
def rCatT (K : PySem.W.Frag) : R2 := fun x y H Q => ∃ a b xs ys, x = .ref a ∧ y = .ref b ∧ SqT K H a xs ∧ SqT K H b ys ∧ xs ≠ [] ∧ xs.length + ys.length ≤ sizeLine ∧
  (ys = [] → Q (.ref a) H) ∧ (ys ≠ [] → ∀ p, H p = none → Q (.ref p) (upd H p (.tup (xs ++ ys))))
end
end L2

namespace L2
open PySem PySem.Spec PyProof.Rows

/-! ### places -/
/-- the place that an index of any sign means -/
def ixN (n : Nat) (i : Int) : Option Nat := if 0 ≤ i then (if i < n then some i.toNat else none) else if -(n : Int) ≤ i then some (i + n).toNat else none
def atI {α : Type} (xs : List α) (i : Int) : Option α := (ixN xs.length i).bind fun j => xs[j]?
theorem ixN_seq {n : Nat} {i : Int} {j : Nat} (h : ixN n i = some j) : seqIndex? i n = some j ∧ j < n ∧ -(n : Int) ≤ i ∧ i < n := by
  unfold ixN at h
  by_cases h0 : 0 ≤ i
  · rw [if_pos h0] at h
    by_cases h1 : i < n
    · rw [if_pos h1] at h
      have e : i.toNat = j := Option.some.inj h
      exact ⟨by rw [seqIndex_of h0 h1, e], by omega, by omega, h1⟩
    · rw [if_neg h1] at h; cases h
  · rw [if_neg h0] at h
    by_cases h1 : -(n : Int) ≤ i
    · rw [if_pos h1] at h
      have e : (i + n).toNat = j := Option.some.inj h
      exact ⟨by rw [seqIndex_neg (by omega) h1, e], by omega, h1, by omega⟩
    · rw [if_neg h1] at h; cases h
theorem atI_get {α : Type} {xs : List α} {i : Int} {v : α} (h : atI xs i = some v) : ∃ j, seqIndex? i xs.length = some j ∧ xs[j]? = some v ∧ j < xs.length ∧ -(xs.length : Int) ≤ i ∧ i < xs.length := by
  unfold atI at h
  cases e : ixN xs.length i with
  | none => rw [e] at h; cases h
  | some j =>
    rw [e] at h
    obtain ⟨h1, h2, h3, h4⟩ := ixN_seq e
    exact ⟨j, h1, h, h2, h3, h4⟩
theorem atI_nat {α : Type} {xs : List α} {j : Nat} {v : α} (h : xs[j]? = some v) : atI xs (j : Int) = some v := by
  have hj : j < xs.length := (List.getElem?_eq_some_iff.mp h).1
  have e : ixN xs.length (j : Int) = some j := by
    unfold ixN
    rw [if_pos (by omega), if_pos (by omega)]; simp
  unfold atI; rw [e]; exact h
/-! ### what may be subscripted -/
/-- what stands as an index of a plain subscript -/
def PlainIx (b : Expr) : Prop := ∀ o i, subscripted b false o i = operate [o, i] (getItem o i)
/-- a subscript by values -/
def IxR (X : Cx) (r : R2) : Prop :=
  ∀ (value slice : Expr) (pins : List (Addr × Obj)) (s : Shared) (σ : St) (H : Hp) (x y : V) (v u : Value) (Q : VK), Inv X pins σ H s → RelV x v → RelV y u → r x y H Q →
    subscripted slice false v u = operate [v, u] (getItem v u) → wpAny (model X.prog X.w) X.A (subscriptTail value slice v u) (EP X pins σ Q) X.xe s
/-- a call of a builtin's method by values: the receiver, the arguments -/
def MtR (X : Cx) (id : String) (r : V → List V → Hp → VK → Prop) : Prop :=
  ∀ (pins : List (Addr × Obj)) (s : Shared) (σ : St) (H : Hp) (x : V) (xs : List V) (v : Value) (us : List Value) (Q : VK), Inv X pins σ H s → RelV x v → Vals xs us → r x xs H Q →
    wpAny (model X.prog X.w) X.A (call (.builtin id) (v :: us)) (EP X pins σ Q) X.xe s
section
variable {X : Cx} {a b : Expr} {ta tb : TE} {pos : Pos}
theorem IxR.or {r r' : R2} (h : IxR X r) (h' : IxR X r') : IxR X (fun x y H Q => r x y H Q ∨ r' x y H Q) := by
  intro value slice pins s σ H x y v u Q I rx ry q hs
  rcases q with q | q
  · exact h value slice pins s σ H x y v u Q I rx ry q hs
  · exact h' value slice pins s σ H x y v u Q I rx ry q hs
theorem MtR.or {id : String} {r r' : V → List V → Hp → VK → Prop} (h : MtR X id r) (h' : MtR X id r') : MtR X id (fun x xs H Q => r x xs H Q ∨ r' x xs H Q) := by
  intro pins s σ H x xs v us Q I rx rs q
  rcases q with q | q
  · exact h pins s σ H x xs v us Q I rx rs q
  · exact h' pins s σ H x xs v us Q I rx rs q
/-- a[b] -/
theorem pe_ix {r : R2} (hr : IxR X r) (ha : PE X a ta) (hb : PE X b tb) (hs : PlainIx b) : PE X (.Subscript a b pos) (tOp r ta tb) := by
  intro pins s σ H Q I h
  exact Subscript_ (binT ha hb I h fun v u s2 x y H2 I2 rx ry q => hr a b pins s2 σ H2 x y v u Q I2 rx ry q (hs _ _))

def rIxL (K : PySem.W.Frag) : R2 := fun x y H Q => ∃ p xs i v, x = .ref p ∧ y = .int i ∧ SqL K H p xs ∧ atI xs i = some v ∧ Q v H
def rIxT (K : PySem.W.Frag) : R2 := fun x y H Q => ∃ p xs i v, x = .ref p ∧ y = .int i ∧ SqT K H p xs ∧ atI xs i = some v ∧ Q v H
def rIxS : R2 := fun x y H Q => ∃ z i c, x = .str z ∧ y = .int i ∧ z.length ≤ sizeLine ∧ atI z.cps.toList i = some c ∧ Q (.str ⟨#[c]⟩) H
theorem ix_list : IxR X (rIxL X.K) := by
  intro value slice pins s σ H x y v u Q I rx ry h hs
  obtain ⟨p, xs, i, z, rfl, rfl, hq, he, q⟩ := h
  cases rx
  obtain ⟨t, rfl⟩ := ry
  obtain ⟨its, r, pl, hz⟩ := I.list hq
  obtain ⟨j, h1, h2, h3, h4, h5⟩ := atI_get he
  obtain ⟨w, ew, rw'⟩ := r.get h2
  have hl := r.length
  have hn := line63
  have fin : EP X pins σ Q w s := ⟨z, H, I, rw', q⟩
  by_cases h0 : 0 ≤ i
  · have hj : i.toNat = j := by
      rw [seqIndex_of h0 h5] at h1
      exact Option.some.inj h1
    exact item_listR pl.isList h0 (by omega) (by rw [hj]; simpa using ew) fin hs
  · have hj : (i + (its.toArray.size : Int)).toNat = j := by
      rw [seqIndex_neg (by omega) h4] at h1
      rw [List.size_toArray, ← hl]
      exact Option.some.inj h1
    exact subscriptTail_builtinR (x := w) pl.isList.typeIs slot_list_getitem.lookup
      (wpAny_getItem_list_neg (Q := fun r s' => r = w ∧ EP X pins σ Q r s') pl.isList (by omega) (by rw [List.size_toArray] <;> omega) (by omega) (by rw [hj]; simpa using ew) ⟨rfl, fin⟩) hs
theorem ix_tup : IxR X (rIxT X.K) := by
  intro value slice pins s σ H x y v u Q I rx ry h hs
  obtain ⟨p, xs, i, z, rfl, rfl, hq, he, q⟩ := h
  cases rx
  obtain ⟨t, rfl⟩ := ry
  obtain ⟨its, r, pl, hz⟩ := I.tuple hq
  obtain ⟨j, h1, h2, h3, h4, h5⟩ := atI_get he
  obtain ⟨w, ew, rw'⟩ := r.get h2
  have hl := r.length
  have hn := line63
  have fin : EP X pins σ Q w s := ⟨z, H, I, rw', q⟩
  exact subscriptTail_builtinR (x := w) pl.typeIs slot_tuple_getitem.lookup
    (getItem_tuple (j := j) (Q := fun r s' => r = w ∧ EP X pins σ Q r s') pl (by omega) (by omega) (by rw [List.size_toArray, ← hl]; exact h1) (by simpa using ew) ⟨rfl, fin⟩) hs
theorem ix_str : IxR X rIxS := by
  intro value slice pins s σ H x y v u Q I rx ry h hs
  obtain ⟨z, i, c, rfl, rfl, hz, he, q⟩ := h
  obtain ⟨t, rfl⟩ := rx
  obtain ⟨t', rfl⟩ := ry
  obtain ⟨j, h1, h2, h3, h4, h5⟩ := atI_get he
  have hl : z.cps.toList.length = z.length := by simp [Str.length]
  rw [hl] at h1 h4 h5
  have hn := line63
  exact tail_any (typeIs_str s z t) slot_str_getitem.lookup (getItem_str (c := c) (by
    have e1 : decide (i < -(2 ^ 63 : Int)) = false := decide_eq_false (by omega)
    have e2 : decide (i ≥ 2 ^ 63) = false := decide_eq_false (by omega)
    rw [e1, e2, Bool.or_false]) (by rw [h1]; simpa using h2) ⟨.str ⟨#[c]⟩, H, I.tok _, ⟨_, rfl⟩, q⟩) hs
/-- list, tuple or str -/
def rIx (K : PySem.W.Frag) : R2 := fun x y H Q => rIxL K x y H Q ∨ rIxT K x y H Q ∨ rIxS x y H Q
/-! ### xs[i] = v, any sign -/
/-- the list's object behind a store -/
theorem mapSeq_set (its : List Value) (n j : Nat) (u : Value) : Obj.mapSeq (·.setIfInBounds j u) { cls := .type "list", data := .seq its.toArray n } = { cls := .type "list", data := .seq (its.set j u).toArray n } := by
  simp [Obj.mapSeq]
theorem Inv.lst {pins : List (Addr × Obj)} {σ : St} {H : Hp} {s : Shared} {p : Addr} {xs : List V} (I : Inv X pins σ H s) (h : H p = some (.lst xs)) :
    ∃ (its : List Value) (n : Nat), Vals xs its ∧ s.heap.get? p = some { cls := .type "list", data := .seq its.toArray n } ∧ xs.length ≤ sizeLine := by
  obtain ⟨z, its, n, r, e⟩ := I.hok p _ h
  exact ⟨its, n, r, e, z⟩
/-- the list at p is written by an update of its object -/
theorem Inv.lstUpd {pins : List (Addr × Obj)} {σ : St} {H : Hp} {s : Shared} {p : Addr} {xs ys : List V} {its its' : List Value} {n n' : Nat} {f : Obj → Obj} (I : Inv X pins σ H s) (h : H p = some (.lst xs))
    (ho : s.heap.get? p = some { cls := .type "list", data := .seq its.toArray n }) (hf : f { cls := .type "list", data := .seq its.toArray n } = { cls := .type "list", data := .seq its'.toArray n' }) (r : Vals ys its') (hz : ys.length ≤ sizeLine) (t : Nat) :
    Inv X pins σ (upd H p (.lst ys)) { s with heap := s.heap.update p f, toks := t } := by
  have e : (s.heap.update p f).get? p = some { cls := .type "list", data := .seq its'.toArray n' } := by
    rw [Heap.get?_update_self f ho (by rw [hf] <;> rfl), hf]
  refine I.write (x := p) (e := p) (by rw [h]; trivial) (.inl rfl) (fun b u hb q => (Heap.get?_update_other _ _ (Ne.symm hb)).trans q) ⟨_, e⟩ ?_
  exact ⟨hz, its', n', r, e⟩
def rSetL : V → V → V → Hp → (Hp → Prop) → Prop := fun o i v H Q => ∃ p xs k j, o = .ref p ∧ i = .int k ∧ H p = some (.lst xs) ∧ ixN xs.length k = some j ∧ Q (upd H p (.lst (xs.set j v)))
theorem set_list : PSet X rSetL := by
  intro pins s σ H o i v ov iv u Q I ro ri rv h
  obtain ⟨p, xs, k, j, rfl, rfl, hp, hj, q⟩ := h
  cases ro
  obtain ⟨t, rfl⟩ := ri
  obtain ⟨its, n, r, ho, hz⟩ := I.lst hp
  obtain ⟨h1, h2, h3, h4⟩ := ixN_seq hj
  have hl := r.length
  have hn := line63
  have I' : Inv X pins σ (upd H p (.lst (xs.set j v))) { s with heap := s.heap.update p (Obj.mapSeq (·.setIfInBounds j u)) } :=
    I.lstUpd hp ho (mapSeq_set its n j u) (r.set rv j) (by rw [List.length_set]; exact hz) s.toks
  by_cases h0 : 0 ≤ k
  · have hk : k.toNat = j := by
      rw [seqIndex_of h0 h4] at h1
      exact Option.some.inj h1
    exact PySem.W.ki_setAt ho h0 (by omega) (by rw [List.size_toArray, ← hl]; exact h4) (by rw [hk]; exact ⟨_, I', q⟩)
  · have hk : (k + (its.toArray.size : Int)).toNat = j := by
      rw [seqIndex_neg (by omega) h3] at h1
      rw [List.size_toArray, ← hl]
      exact Option.some.inj h1
    exact PySem.W.ki_setBack ho (by omega) (by rw [List.size_toArray, ← hl]; exact h3) (by omega) (by rw [hk]; exact ⟨_, I', q⟩)

/-! ### slices -/
theorem slice_bounds (lo hi : Option Int) (n : Nat) : (sliceBounds lo hi none n).1 = ((HT.sIx n 0 lo : Nat) : Int) ∧ (sliceBounds lo hi none n).2.1 = ((HT.sIx n n hi : Nat) : Int) ∧ (sliceBounds lo hi none n).2.2 = 1 := by
  refine ⟨?_, ?_, rfl⟩
  · cases lo with
    | none => simp [sliceBounds, HT.sIx]
    | some i =>
      simp only [sliceBounds, HT.sIx, Option.getD_none, show (1 : Int) > 0 by decide, if_true]
      by_cases h : i < 0
      · simp only [h, if_true] <;> omega
      · simp only [h, if_false] <;> omega
  · cases hi with
    | none => simp [sliceBounds, HT.sIx]
    | some i =>
      simp only [sliceBounds, HT.sIx, Option.getD_none, show (1 : Int) > 0 by decide, if_true]
      by_cases h : i < 0
      · simp only [h, if_true] <;> omega
      · simp only [h, if_false] <;> omega
theorem slicePick_cut (its : List Value) (lo hi : Option Int) : slicePick its.toArray lo hi none = ((its.drop (HT.sIx its.length 0 lo)).take (HT.sIx its.length its.length hi - HT.sIx its.length 0 lo)).toArray := by
  obtain ⟨h1, h2, h3⟩ := slice_bounds lo hi its.toArray.size
  unfold slicePick
  rw [h1, h2, h3]
  simp only [sliceRange_one, pick_run, List.size_toArray] <;> rfl
/-- xs[lo:hi] of a list: a new list -/
def rSlL (K : PySem.W.Frag) : V → Option Int → Option Int → Hp → VK → Prop := fun x lo hi H Q => ∃ a xs, x = .ref a ∧ SqL K H a xs ∧ ∀ p, H p = none → Q (.ref p) (upd H p (.lst (cutV xs lo hi)))
theorem sl_list : SlR X (rSlL X.K) := by
  intro pins s σ H x v vl vu lo hi sl Q I rx hs pl pu h
  obtain ⟨a, xs, rfl, hx, q⟩ := h
  cases rx
  obtain ⟨its, r, ht, hz⟩ := I.list hx
  have hlen := r.length
  refine ⟨"list", _, slot_list_getitem.lookup, ht.isList.typeIs, ?_⟩
  refine wpAny_getItem_list_slice ht.isList hs pl pu .none (by simp) ?_ (by rw [List.size_toArray] <;> omega)
  rw [slicePick_cut, ← hlen]
  refine ⟨.ref s.heap.objs.size, _, I.laid (t' := s.toks) (o := .lst (cutV xs lo hi)) (fun b ob q => Heap.get?_push_of_some _ q) (Nat.le_refl _) ?_, rfl, q _ (I.hok.fresh (Nat.le_refl _))⟩
  exact ⟨Nat.le_trans (cutV_length xs lo hi) hz, _, 0, (r.drop (HT.sIx xs.length 0 lo)).take (HT.sIx xs.length xs.length hi - HT.sIx xs.length 0 lo), Heap.get?_push_size _ rfl⟩

/-! ### in, not in: flat items -/
def flatV : V → Bool
  | .non => true
  | .bl _ => true
  | .int _ => true
  | .str _ => true
  | _ => false
/-- == of flat values -/
def eqV : V → V → Bool
  | .non, .non => true
  | .bl a, .bl b => a == b
  | .bl a, .int b => (if a then 1 else 0) == b
  | .int a, .bl b => a == (if b then 1 else 0)
  | .int a, .int b => a == b
  | .str a, .str b => a == b
  | _, _ => false
theorem eqAt_V {A : Around} {s : Shared} {y x : V} {u v : Value} (ry : RelV y u) (rx : RelV x v) (fy : flatV y = true) (fx : flatV x = true) : SeqAt.EqAt A s u v (eqV y x) := by
  cases y with
  | non =>
    cases ry
    cases x with
    | non => cases rx; exact SeqAt.EqAt.same _
    | bl b => cases rx; exact SeqAt.EqAt.none_bool b
    | int b => obtain ⟨t, rfl⟩ := rx; exact SeqAt.EqAt.none_int b t
    | str b => obtain ⟨t, rfl⟩ := rx; exact SeqAt.EqAt.none_str b t
    | _ => exact absurd (show false = true from fx) Bool.false_ne_true
  | bl a =>
    cases ry
    cases x with
    | non => cases rx; exact SeqAt.EqAt.bool_none a
    | bl b => cases rx; exact SeqAt.EqAt.bool_bool a b
    | int b => obtain ⟨t, rfl⟩ := rx; exact SeqAt.EqAt.bool_int a b t
    | str b => obtain ⟨t, rfl⟩ := rx; exact SeqAt.EqAt.bool_str a b t
    | _ => exact absurd (show false = true from fx) Bool.false_ne_true
  | int a =>
    obtain ⟨t', rfl⟩ := ry
    cases x with
    | non => cases rx; exact SeqAt.EqAt.int_none a t'
    | bl b => cases rx; exact SeqAt.EqAt.int_bool a t' b
    | int b => obtain ⟨t, rfl⟩ := rx; exact SeqAt.EqAt.int_int a t' b t
    | str b => obtain ⟨t, rfl⟩ := rx; exact SeqAt.EqAt.int_str a t' b t
    | _ => exact absurd (show false = true from fx) Bool.false_ne_true
  | str a =>
    obtain ⟨t', rfl⟩ := ry
    cases x with
    | non => cases rx; exact SeqAt.EqAt.str_none a t'
    | bl b => cases rx; exact SeqAt.EqAt.str_bool a t' b
    | int b => obtain ⟨t, rfl⟩ := rx; exact SeqAt.EqAt.str_int a t' b t
    | str b => obtain ⟨t, rfl⟩ := rx; exact SeqAt.EqAt.str_str a t' b t
    | _ => exact absurd (show false = true from fx) Bool.false_ne_true
  | _ => exact absurd (show false = true from fy) Bool.false_ne_true
/-- the items' answers, read off the values (a value's own answer does not lean on its token) -/
def eqU (x : V) (u : Value) : Bool := match u with
  | .none => eqV .non x
  | .bool b => eqV (.bl b) x
  | .int i _ => eqV (.int i) x
  | .str z _ => eqV (.str z) x
  | _ => false
theorem eqU_of {x y : V} {u : Value} (r : RelV y u) (f : flatV y = true) : eqU x u = eqV y x := by
  cases y with
  | non => cases r; rfl
  | bl b => cases r; rfl
  | int i => obtain ⟨t, rfl⟩ := r; rfl
  | str z => obtain ⟨t, rfl⟩ := r; rfl
  | _ => exact absurd (show false = true from f) Bool.false_ne_true
theorem any_eqU {x : V} : ∀ {xs : List V} {us : List Value}, Vals xs us → xs.all flatV = true → us.any (eqU x) = xs.any fun y => eqV y x
  | _, _, .nil, _ => rfl
  | y :: xs, u :: us, .cons r t, f => by
    rw [List.all_cons, Bool.and_eq_true] at f
    rw [List.any_cons, List.any_cons, eqU_of r f.1, any_eqU t f.2]
theorem mem_eqAt {A : Around} {s : Shared} {x : V} {v : Value} (rx : RelV x v) (fx : flatV x = true) : ∀ {xs : List V} {us : List Value}, Vals xs us → xs.all flatV = true → ∀ u ∈ us, SeqAt.EqAt A s u v (eqU x u)
  | _, _, .nil, _ => fun u hu => by cases hu
  | y :: xs, u :: us, .cons r t, f => fun u' hu => by
    rw [List.all_cons, Bool.and_eq_true] at f
    rcases List.mem_cons.mp hu with rfl | hu
    · rw [eqU_of r f.1]; exact eqAt_V r rx f.1 fx
    · exact mem_eqAt rx fx t f.2 u' hu
def inV (x : V) (xs : List V) : Bool := xs.any fun y => eqV y x
/-- x in a list or tuple of flat items -/
def rIn (K : PySem.W.Frag) (neg : Bool) : R2 := fun x y H Q => ∃ p xs, y = .ref p ∧ (SqL K H p xs ∨ SqT K H p xs) ∧ flatV x = true ∧ xs.all flatV = true ∧ Q (.bl (if neg then !inV x xs else inV x xs)) H
theorem op_in_seq : OpR X (compareOp .In) (rIn X.K false) := by
  intro pins s σ H x y v u Q I rx ry h
  obtain ⟨p, xs, rfl, hq, fx, fs, q⟩ := h
  cases ry
  rcases hq with hq | hq
  · obtain ⟨its, r, pl, hz⟩ := I.list hq
    refine SeqAt.in_listAt (eqU x) pl.isList (fun w hw => mem_eqAt rx fx r fs w (by simpa using hw)) ⟨.bl _, H, I, rfl, ?_⟩
    rw [show its.toArray.any (eqU x) = its.any (eqU x) by simp, any_eqU r fs]
    exact q
  · obtain ⟨its, r, pl, hz⟩ := I.tuple hq
    refine SeqAt.in_tupleAt (eqU x) pl (fun w hw => mem_eqAt rx fx r fs w (by simpa using hw)) ⟨.bl _, H, I, rfl, ?_⟩
    rw [show its.toArray.any (eqU x) = its.any (eqU x) by simp, any_eqU r fs]
    exact q
/-! ### len, list(x), tuple(x) of any list or tuple that is read -/
theorem call_len_seq : CallR X (.builtin "len") (fun xs H Q => ∃ p ys, xs = [.ref p] ∧ (SqL X.K H p ys ∨ SqT X.K H p ys) ∧ Q (.int ys.length) H) := by
  intro pins s σ H xs us Q I r h
  obtain ⟨p, ys, rfl, hq, q⟩ := h
  obtain ⟨u, rfl, rx⟩ := vals1 r
  cases rx
  have hn := line63
  rcases hq with hq | hq
  · obtain ⟨its, r', pl, hz⟩ := I.list hq
    have hlen := r'.length
    exact Calls.call_len_list pl.isList (by simp only [List.size_toArray] <;> omega) ⟨.int ys.length, H, I.tok _, ⟨s.toks + 1, by rw [List.size_toArray, hlen]⟩, q⟩
  · obtain ⟨its, r', pl, hz⟩ := I.tuple hq
    have hlen := r'.length
    exact len_tuple pl (by simp only [List.size_toArray] <;> omega) ⟨.int ys.length, H, I.tok _, ⟨s.toks + 1, by rw [List.size_toArray, hlen]⟩, q⟩
theorem call_len_str : CallR X (.builtin "len") (fun xs H Q => ∃ z, xs = [.str z] ∧ z.length ≤ sizeLine ∧ Q (.int z.length) H) := by
  intro pins s σ H xs us Q I r h
  obtain ⟨z, rfl, hz, q⟩ := h
  obtain ⟨u, rfl, t, rfl⟩ := vals1 r
  have hn := line63
  exact len_str (by omega) ⟨.int z.length, H, I.tok _, ⟨_, rfl⟩, q⟩
theorem CallR.or {f : Value} {r r' : List V → Hp → VK → Prop} (h : CallR X f r) (h' : CallR X f r') : CallR X f (fun xs H Q => r xs H Q ∨ r' xs H Q) := by
  intro pins s σ H xs us Q I rs q
  rcases q with q | q
  · exact h pins s σ H xs us Q I rs q
  · exact h' pins s σ H xs us Q I rs q
theorem call_list_of : CallR X (.type "list") (fun xs H Q => ∃ p ys, xs = [.ref p] ∧ (SqL X.K H p ys ∨ SqT X.K H p ys) ∧ ∀ l, H l = none → Q (.ref l) (upd H l (.lst ys))) := by
  intro pins s σ H xs us Q I r h
  obtain ⟨p, ys, rfl, hq, q⟩ := h
  obtain ⟨u, rfl, rx⟩ := vals1 r
  cases rx
  have fin : ∀ (its : List Value), Vals ys its → ys.length ≤ sizeLine → ∀ (h' : Heap) (c' : Nat), (∀ b o', s.heap.get? b = some o' → h'.get? b = some o') →
      h'.get? s.heap.objs.size = some { cls := .type "list", dict := none, data := .seq its.toArray c', slots := #[] } → EP X pins σ Q (.ref s.heap.objs.size) { s with heap := h' } := fun its r' hz h' c' kp e =>
    ⟨.ref s.heap.objs.size, _, I.laid (t' := s.toks) kp (Nat.le_refl _) (show ObjOk X.prog X.w _ h' _ (.lst ys) from ⟨hz, its, c', r', e⟩), rfl, q _ (I.hok.fresh (Nat.le_refl _))⟩
  rcases hq with hq | hq
  · obtain ⟨its, r', pl, hz⟩ := I.list hq
    have hlen := r'.length
    obtain ⟨o, ho, hc, n, hd⟩ := pl.isList
    exact call_list_seq p (.inl rfl) ho hc hd (fun h' c' kp e => fin its r' hz h' c' kp e) (by simp only [List.size_toArray] <;> omega)
  · obtain ⟨its, r', pl, hz⟩ := I.tuple hq
    have hlen := r'.length
    obtain ⟨o, ho, hc, n, hd⟩ := pl
    exact call_list_seq p (.inr rfl) ho hc hd (fun h' c' kp e => fin its r' hz h' c' kp e) (by simp only [List.size_toArray] <;> omega)
theorem call_tuple_of : CallR X (.type "tuple") (fun xs H Q => ∃ p ys, xs = [.ref p] ∧ ((SqL X.K H p ys ∧ ∀ l, H l = none → Q (.ref l) (upd H l (.tup ys))) ∨ (SqT X.K H p ys ∧ Q (.ref p) H))) := by
  intro pins s σ H xs us Q I r h
  obtain ⟨p, ys, rfl, h⟩ := h
  obtain ⟨u, rfl, rx⟩ := vals1 r
  cases rx
  rcases h with ⟨hq, q⟩ | ⟨hq, q⟩
  · obtain ⟨its, r', pl, hz⟩ := I.list hq
    have hlen := r'.length
    refine call_tuple_list pl.isList (fun h' kp => ?_) (by simp only [List.size_toArray] <;> omega)
    have I1 : Inv X pins σ H { s with heap := h' } := I.kept (t' := s.toks) kp
    have I2 : Inv X pins σ (upd H h'.objs.size (.tup ys)) { s with heap := h'.push { cls := .type "tuple", data := .seq its.toArray } } :=
      I1.laid (t' := s.toks) (fun b o e => Heap.get?_push_of_some _ e) (Nat.le_refl _) (show ObjOk X.prog X.w _ _ _ (.tup ys) from ⟨hz, its, r', IsTup.new _ _⟩)
    exact ⟨.ref h'.objs.size, _, I2, rfl, q _ (I1.hok.fresh (Nat.le_refl _))⟩
  · obtain ⟨its, r', pl, hz⟩ := I.tuple hq
    exact call_tuple_same pl ⟨.ref p, H, I, rfl, q⟩

/-! ### the call of a builtin's method: o.m(..) -/
/-- the value is of that builtin type -/
def tyV (K : PySem.W.Frag) (T : String) (x : V) (H : Hp) : Prop := match x with
  | .str _ => T = "str"
  | .int _ => T = "int"
  | .ref p => (T = "list" ∧ ∃ xs, SqL K H p xs) ∨ (T = "tuple" ∧ ∃ o, K.lookup p = some o ∧ o.cls = .type "tuple" ∧ o.dict = none) ∨
      (T = "dict" ∧ ((∃ kvs, H p = some (.dK kvs)) ∨ ∃ kvs, H p = some (.dT kvs))) ∨ (T = "dict" ∧ ∃ ep kvs, H p = some (.dX ep kvs)) ∨ (T = "set" ∧ ∃ S n, H p = some (.set S n))
  | _ => False
theorem tyV_is {pins : List (Addr × Obj)} {σ : St} {H : Hp} {s : Shared} {T : String} {x : V} {v : Value} (I : Inv X pins σ H s) (r : RelV x v) (ty : tyV X.K T x H) :
    s.TypeIs v T ∧ ∀ a, v = .ref a → ∃ ob, s.heap.get? a = some ob ∧ ob.dict = none := by
  cases x with
  | str z =>
    obtain ⟨t, rfl⟩ := r
    cases (show T = "str" from ty)
    exact ⟨typeIs_str s z t, fun _ e => nomatch e⟩
  | int i =>
    obtain ⟨t, rfl⟩ := r
    cases (show T = "int" from ty)
    exact ⟨typeIs_int s i t, fun _ e => nomatch e⟩
  | ref p =>
    cases r
    rcases ty with ⟨rfl, xs, hq⟩ | ⟨rfl, o, hk, hc, hd⟩ | ⟨rfl, hk⟩ | ⟨rfl, ep, kvs, hk⟩ | ⟨rfl, S, n, hk⟩
    · obtain ⟨its, _, pl, _⟩ := I.list hq
      refine ⟨pl.isList.typeIs, fun a e => ?_⟩
      cases e
      obtain ⟨o, n, e, c, hd, _⟩ := pl
      exact ⟨o, e, hd⟩
    · refine ⟨⟨o, I.kIn p o hk, hc⟩, fun a e => ?_⟩
      cases e
      exact ⟨o, I.kIn _ o hk, hd⟩
    · have z : ∃ o, s.heap.get? p = some o ∧ o.ExactDict := by
        rcases hk with ⟨kvs, hk⟩ | ⟨kvs, hk⟩
        · obtain ⟨_, _, _, _, o, _, _, e, ex, _⟩ := I.hok p _ hk
          exact ⟨o, e, ex⟩
        · obtain ⟨_, _, _, _, o, _, _, e, ex, _⟩ := I.hok p _ hk
          exact ⟨o, e, ex⟩
      obtain ⟨o, e, ex⟩ := z
      refine ⟨⟨o, e, ex.1⟩, fun a e2 => ?_⟩
      cases e2
      exact ⟨o, e, ex.2.1⟩
    · obtain ⟨_, _, _, _, o, _, e, ex, _⟩ := I.hok p _ hk
      refine ⟨⟨o, e, ex.1⟩, fun a e2 => ?_⟩
      cases e2
      exact ⟨o, e, ex.2.1⟩
    · obtain ⟨o, _, _, _, e, ex, _⟩ := I.hok p _ hk
      refine ⟨⟨o, e, ex.1⟩, fun a e2 => ?_⟩
      cases e2
      exact ⟨o, e, ex.2.1⟩
  | _ => exact False.elim ty
def tBM0 (K : PySem.W.Frag) (T : String) (r : V → List V → Hp → VK → Prop) (to : TE) : TE := fun σ H Q => to σ H fun x H1 => tyV K T x H1 ∧ r x [] H1 Q
def tBM (K : PySem.W.Frag) (T : String) (r : V → List V → Hp → VK → Prop) (to : TE) (t : TA) : TE := fun σ H Q => to σ H fun x H1 => tyV K T x H1 ∧ t σ H1 fun xs H2 => r x xs H2 Q
variable {o e : Expr} {es : List Expr} {to : TE} {t : TA} {name : Str} {apos cpos : Pos} {T id : String} {r : V → List V → Hp → VK → Prop}
theorem pe_bm0 (pa : PlainAttrs T) (slot : Slot T name id) (hty : typeOf (.builtin id) = pure (.type "method_descriptor")) (hm : MtR X id r) (ho : PE X o to)
    (hbase : attributeBase o name X.env (eval o X.env) = eval o X.env := by rfl) (hline : (apos.endLine == cpos.line) = true := by rfl) : PE X (.Call (.Attribute o name apos) [] [] cpos) (tBM0 X.K T r to) := by
  intro pins s σ H Q I h
  refine wpAny_Call_method0_late hbase hline (thn (ho pins s σ H _ I h) fun v s1 ⟨x, H1, I1, r1, ty, q1⟩ => ?_)
  obtain ⟨h1, h2⟩ := tyV_is I1 r1 ty
  exact ⟨T, id, pa, slot, hty, h1, h2, Calls.callWith_builtin rfl (PySem.evalArgs_none (hm pins s1 σ H1 x [] v [] Q I1 r1 .nil q1))⟩
theorem pe_bm (pa : PlainAttrs T) (slot : Slot T name id) (hty : typeOf (.builtin id) = pure (.type "method_descriptor")) (hm : MtR X id r) (ho : PE X o to) (ha : PA X (e :: es) t)
    (hbase : attributeBase o name X.env (eval o X.env) = eval o X.env := by rfl)
    (hfew : ((backTo cpos (starEach (e :: es) X.env)).all (fun x => !x.1) && (backToKw cpos (keywordEach [] X.env)).all (fun x => x.1.isSome)
      && decide ((e :: es).length + ([] : List Keyword).length + (if ([] : List Keyword).isEmpty then 0 else 1) < 30)) = true := by rfl)
    (hline : (apos.endLine == cpos.line) = true := by rfl) (hs : starEach (e :: es) X.env = (false, eval e X.env) :: starEach es X.env := by rfl) (hplain : (backTo cpos (starEach es X.env)).any (·.1) = false := by rfl) :
    PE X (.Call (.Attribute o name apos) (e :: es) [] cpos) (tBM X.K T r to t) := by
  intro pins s σ H Q I h
  refine wpAny_Call_method_late hbase hfew hline rfl (thn (ho pins s σ H _ I h) fun v s1 ⟨x, H1, I1, r1, ty, q1⟩ => ?_)
  obtain ⟨h1, h2⟩ := tyV_is I1 r1 ty
  refine ⟨T, id, pa, slot, hty, h1, h2, ?_⟩
  have hA := ha cpos pins s1 σ H1 _ I1 q1
  rw [hs] at hA ⊢
  refine Calls.callWith_builtin (by show (false || (backTo cpos (starEach es X.env)).any (·.1)) = false; rw [hplain] <;> rfl) (Calls.evalArgs_plain ?_)
  exact thn hA fun us s2 ⟨vs, H2, I2, r2, q2⟩ => hm pins s2 σ H2 x vs v us Q I2 r1 r2 q2
/- xs.append(e), list.index on a module's tuple .. are MtR facts of 06m -/
end
end L2

namespace L2
open PySem PySem.Spec PyProof.Rows

def MtM (X : Cx) (id : String) (r : V → List V → Hp → VK → Prop) : Prop :=
  ∀ (pins : List (Addr × Obj)) (s : Shared) (σ : St) (H : Hp) (x : V) (xs : List V) (v : Value) (us : List Value) (Q : VK), Inv X pins σ H s → RelV x v → Vals xs us → r x xs H Q →
    wpAny (model X.prog X.w) X.A (call (.builtin id) (v :: us)) (EP X pins σ Q) X.xe s

/-! ### lists of values -/
theorem Vals.one : ∀ {x : V} {us : List Value}, Vals [x] us → ∃ u, us = [u] ∧ RelV x u
  | _, _, .cons r .nil => ⟨_, rfl, r⟩
theorem Vals.two : ∀ {x y : V} {us : List Value}, Vals [x, y] us → ∃ u v, us = [u, v] ∧ RelV x u ∧ RelV y v
  | _, _, _, .cons r (.cons q .nil) => ⟨_, _, rfl, r, q⟩
theorem Vals.zero : ∀ {us : List Value}, Vals [] us → us = []
  | _, .nil => rfl
theorem Vals.dropLast {xs : List V} {us : List Value} (h : Vals xs us) : Vals xs.dropLast us.dropLast := by
  induction h with
  | nil => exact .nil
  | cons r t ih =>
    cases t with
    | nil => exact .nil
    | cons q t' => exact .cons r ih
theorem Vals.eraseIdx : ∀ {xs : List V} {us : List Value} (i : Nat), Vals xs us → Vals (xs.eraseIdx i) (us.eraseIdx i)
  | _, _, _, .nil => .nil
  | _, _, 0, .cons _ t => t
  | _, _, i + 1, .cons r t => .cons r (Vals.eraseIdx i t)
theorem Vals.reverse {xs : List V} {us : List Value} (h : Vals xs us) : Vals xs.reverse us.reverse := by
  induction h with
  | nil => exact .nil
  | cons r t ih => rw [List.reverse_cons, List.reverse_cons]; exact Vals.append ih (.cons r .nil)
theorem Vals.rep {xs : List V} {us : List Value} (h : Vals xs us) : ∀ k : Nat, Vals (List.replicate k xs).flatten (List.replicate k us).flatten
  | 0 => .nil
  | k + 1 => by
    rw [List.replicate_succ, List.replicate_succ, List.flatten_cons, List.flatten_cons]
    exact Vals.append h (Vals.rep h k)
section
variable {X : Cx} {pins : List (Addr × Obj)} {σ : St} {H : Hp} {s : Shared} {l b : Addr} {xs ys zs : List V}

/-! ### the two steps: a tracked list is rewritten, a new list is laid -/
theorem Inv.lset {its its' : List Value} {n : Nat} {f : Array Value → Array Value} {t' : Nat} (I : Inv X pins σ H s) (hH : H l = some (.lst xs))
    (e : s.heap.get? l = some { cls := .type "list", data := .seq its.toArray n }) (hf : f its.toArray = its'.toArray) (hv : Vals ys its') (hz : ys.length ≤ sizeLine) :
    Inv X pins σ (upd H l (.lst ys)) { s with heap := s.heap.update l (Obj.mapSeq f), toks := t' } := by
  have q := PySem.IsL.update e f
  rw [hf] at q
  refine I.write (x := l) (e := l) (by rw [hH]; exact trivial) (.inl rfl) (fun b' u hb hu => (Heap.get?_update_other s.heap (Obj.mapSeq f) (Ne.symm hb)).trans hu) ⟨_, q⟩ ?_
  exact ⟨hz, its', _, hv, q⟩
theorem Inv.lnew {its : List Value} {t' : Nat} (I : Inv X pins σ H s) (hv : Vals ys its) (hz : ys.length ≤ sizeLine) :
    Inv X pins σ (upd H s.heap.objs.size (.lst ys)) { s with heap := s.heap.push { cls := .type "list", data := .seq its.toArray }, toks := t' } :=
  I.laid (fun _ _ q => Heap.get?_push_of_some _ q) (Nat.le_refl _) ⟨hz, its, 0, hv, Heap.get?_push_size _ rfl⟩
theorem Inv.fresh (I : Inv X pins σ H s) : H s.heap.objs.size = none := I.hok.fresh (Nat.le_refl _)
theorem Inv.lstM (I : Inv X pins σ H s) (hH : H l = some (.lst xs)) : xs.length ≤ sizeLine ∧ ∃ (its : List Value) (n : Nat), Vals xs its ∧ xs.length = its.length ∧ s.heap.get? l = some { cls := .type "list", data := .seq its.toArray n } := by
  obtain ⟨z, its, n, r, e⟩ := I.hok l _ hH
  exact ⟨z, its, n, r, r.length, e⟩

theorem notLongL {n : Nat} (h : n ≤ sizeLine) : Builtin.List.listTooLong n = false := by
  unfold Builtin.List.listTooLong
  exact decide_eq_false (by omega)
end

section
variable {X : Cx}

/-! ### methods -/
def rAppend : V → List V → Hp → VK → Prop := fun x vs H Q => ∃ l xs y, x = .ref l ∧ vs = [y] ∧ H l = some (.lst xs) ∧ xs.length < sizeLine ∧ Q .non (upd H l (.lst (xs ++ [y])))
def rExtend : V → List V → Hp → VK → Prop := fun x vs H Q => ∃ l b xs zs, x = .ref l ∧ vs = [.ref b] ∧ H l = some (.lst xs) ∧ H b = some (.lst zs) ∧ xs.length + zs.length ≤ sizeLine ∧ Q .non (upd H l (.lst (xs ++ zs)))
theorem mt_extend : MtM X "list.extend" rExtend := by
  intro pins s σ H x vs v us Q I rx rv h
  obtain ⟨l, b, xs, zs, rfl, rfl, hH, hB, hz, q⟩ := h
  cases rx
  obtain ⟨u, rfl, ru⟩ := rv.one
  cases ru
  obtain ⟨z, its, n, r, hl, e⟩ := I.lstM hH
  obtain ⟨z2, its2, n2, r2, hl2, e2⟩ := I.lstM hB
  have hsz : its.toArray.size + its2.toArray.size ≤ sizeLine := by rw [List.size_toArray, List.size_toArray]; omega
  have hlong : ¬ (!its.toArray.isEmpty && Builtin.List.listTooLong (its.toArray.size + its2.toArray.size)) = true := by
    rw [notLongL hsz, Bool.and_false]
    exact Bool.false_ne_true
  refine call_meets F.slot_list_extend ⟨_, e, rfl⟩ F.entry_list_extend (F.args_list_extend_2 _ _)
    (AutoSeq1.list_extend_list_list_0 l its.toArray n b its2.toArray n2 hlong (by rw [List.size_toArray]; omega) (by omega)) ⟨e, e2, ?_⟩
  refine ⟨.non, _, I.lset (its' := its ++ its2) hH e (by simp) (r.append r2) ?_, rfl, q⟩
  rw [List.length_append]
  omega

def rPop : V → List V → Hp → VK → Prop := fun x vs H Q => ∃ l xs y, x = .ref l ∧ vs = [] ∧ H l = some (.lst xs) ∧ xs[xs.length - 1]? = some y ∧ Q y (upd H l (.lst xs.dropLast))
def rPopAt : V → List V → Hp → VK → Prop := fun x vs H Q => ∃ l xs i k y, x = .ref l ∧ vs = [.int i] ∧ H l = some (.lst xs) ∧ -(2 ^ 63) ≤ i ∧ i < 2 ^ 63 ∧ seqIndex? i xs.length = some k ∧ xs[k]? = some y ∧ Q y (upd H l (.lst (xs.eraseIdx k)))
def rReverse : V → List V → Hp → VK → Prop := fun x vs H Q => ∃ l xs, x = .ref l ∧ vs = [] ∧ H l = some (.lst xs) ∧ Q .non (upd H l (.lst xs.reverse))
def rClear : V → List V → Hp → VK → Prop := fun x vs H Q => ∃ l xs, x = .ref l ∧ vs = [] ∧ H l = some (.lst xs) ∧ Q .non (upd H l (.lst []))
/-! ### list + list, list += list, list * int -/
def rCat : R2 := fun x y H Q => ∃ l b xs zs, x = .ref l ∧ y = .ref b ∧ H l = some (.lst xs) ∧ H b = some (.lst zs) ∧ xs.length + zs.length ≤ sizeLine ∧ ∀ p, H p = none → Q (.ref p) (upd H p (.lst (xs ++ zs)))
theorem op_cat : OpR X (binaryOp .Add) rCat := by
  intro pins s σ H x y v u Q I rx ry h
  obtain ⟨l, b, xs, zs, rfl, rfl, hH, hB, hz, q⟩ := h
  cases rx
  cases ry
  obtain ⟨z, its, n, r, hl, e⟩ := I.lstM hH
  obtain ⟨z2, its2, n2, r2, hl2, e2⟩ := I.lstM hB
  refine PySem.P.add_list e e2 ?_ (by rw [List.size_toArray, List.size_toArray]; omega)
  have ea : its.toArray ++ its2.toArray = (its ++ its2).toArray := by simp
  rw [ea]
  exact ⟨.ref _, _, I.lnew (t' := s.toks) (r.append r2) (by rw [List.length_append]; omega), rfl, q _ I.fresh⟩
/-- a list times an int (a negative one is nothing) -/
def rRep : R2 := fun x y H Q => ∃ l k xs, x = .ref l ∧ y = .int k ∧ H l = some (.lst xs) ∧ -(2 ^ 63) ≤ k ∧ k < 2 ^ 63 ∧ xs.length * k.toNat ≤ sizeLine ∧
  ∀ p, H p = none → Q (.ref p) (upd H p (.lst (List.replicate k.toNat xs).flatten))
/-! ### del xs[i] -/
end

/-! ### xs[a:b] = ys -/
section
variable {prog : Program} {w : World} {A : Around} {E : Value → Shared → Prop} {s : Shared}
end

section
variable {X : Cx}
end
end L2

namespace Att
open PySem PySem.W PySem.Calls PyProof.Rows

/-! ### the script -/
theorem ints_of_wellAll {P : Params} {h : Heap} : ∀ (ns : List Int) (vs : List Value), WellAll P h vs (ns.map WData.int) → IntsAre vs ns := by
  intro ns
  induction ns with
  | nil =>
    intro vs w
    rw [List.map_nil] at w
    cases w
    exact .nil
  | cons n ns ih =>
    intro vs w
    rw [List.map_cons] at w
    cases w with
    | cons a b =>
      cases a
      exact .cons _ _ (ih _ b)

theorem script_of {l : OpenLaw} {n : Nat} (hn : l.most = some n) {P : Params} {h : Heap} {args : List WData} {vals : List Value}
    (hpre : l.row.toRowW.claim.pre args = true) (hwl : WellAll P h vals args) :
    ∃ a vs ns, vals = [Value.ref a] ∧ args = [WData.list (ns.map WData.int)] ∧ h.get? a = some { cls := .type "list", data := .seq vs.toArray } ∧ IntsAre vs ns ∧ ns.length ≤ n := by
  have hsh : WShape.hasAll [] args [.list .int] = true := (pre_splitW hpre).1
  have hc : l.pre.holds [] { args := args } = true := (pre_splitW hpre).2
  obtain ⟨d, r, rfl, h1, h2⟩ := hasAllW_cons hsh
  obtain rfl := hasAllW_nil h2
  obtain ⟨xs, rfl, h3⟩ := hasW_list h1
  obtain ⟨ns, rfl⟩ := items_int h3
  have hlen : ns.length ≤ n := by
    unfold OpenLaw.pre at hc
    have h4 : (WTm.not (.lt (.lit (.int (n : Int))) (.len (.arg 0)))).holds [] { args := [.list (ns.map .int)] } = true := by
      have h4 := (holds_andW hc).1
      rw [hn] at h4
      exact h4
    have h5 := condW_of h4 (w_not (w_lt w_lit (w_len_list (w_arg rfl))))
    rw [List.length_map] at h5
    refine Nat.le_of_not_lt fun q => ?_
    have q' : (n : Int) < ((ns.length : Nat) : Int) := by omega
    first
      | (rw [decide_eq_true q'] at h5; exact absurd h5 (by decide))
      | (simp at h5; omega)
  cases hwl with
  | cons w1 w2 =>
    cases w2
    cases w1 with
    | list ho hall => exact ⟨_, _, ns, rfl, rfl, ho, ints_of_wellAll ns _ hall, hlen⟩

theorem post_true (l : OpenLaw) (args : List WData) : l.row.toRowW.claim.post args (.bool true) args = true :=
  postW_of (r := l.row.toRowW) (X := (true == true))
    (show WShape.has [] (.bool true) .bool = true by first | rfl | decide | simp [WShape.has, WShape.arms, WShape.armsAll])
    (show (WTm.eq .res (.lit (.bool true))).value [] { args := args, res := some (.bool true), after := args } = some (.bool (true == true)) from w_eq_bool (w_res rfl) w_lit) rfl

/-! ### the attachment: holds_open's last premise (the goal 'hc' behind k_head) from a wpAny of the law's body -/
/-- the same from a codeAny of the CALL (for a layer whose function contracts speak of calls) -/
theorem attach_call {l : OpenLaw} {n : Nat} {q : Program} {loose : List Str} {XP : (Str → Option Value) → Heap → Prop} {YP : World → Heap → Prop} {d : DefRec}
    (hn : l.most = some n) (hdf : d.params.defaults = [])
    (call : ∀ (w : World) (s₀ s₁ : Shared) (mg mb : Str → Option Value) (fa : Addr) (o : Obj) (pm cd doc : Value) (a : Addr) (vs : List Value) (ns : List Int),
      Ground q loose [] XP w s₀ mg mb s₁.heap → YP w s₁.heap →
      s₁.heap.get? fa = some o → o.data = .func (docDef d.name d.params d.body d.scope pm cd doc) → s₁.heap.CodeRec cd d.name → mg d.name = some (.ref fa) →
      s₁.heap.get? a = some { cls := .type "list", data := .seq vs.toArray } → IntsAre vs ns → ns.length ≤ n → s₁.gens = #[] →
      codeAny (model l.prog w) callerA (.call (.ref fa) ⟨[.ref a], []⟩) (fun r s' => r = .ok (.ret (.bool true)) ∧ OldK s₁.heap s'.heap ∧ s'.os = s₁.os ∧ AllBare s'.gens) s₁) :
    WalkO q loose XP YP l.row.toRowW d [] (fun f vs => PySem.call f vs) := by
  intro w s₀ s₁ mg mb G Y fa o pm cd doc dV kV ho hd hcd hD hmg hg args vals as hpre hlay hrd hwl hlo
  obtain rfl : dV = .none := Dflts.none hD hdf
  obtain rfl : kV = .none := Dflts.noKw hD
  obtain ⟨a, vs, ns, rfl, rfl, hobj, hints, hlen⟩ := script_of hn hpre hwl
  refine enter_call (codeAny_mono (call w s₀ s₁ mg mb fa o pm cd doc a vs ns G Y ho (fd_plain hd) hcd hmg hobj hints hlen hg) fun r s' hq => ?_)
  obtain ⟨rfl, h2, h3, h4⟩ := hq
  exact ⟨.inl ⟨.bool true, .bool true, [], rfl, fun _ => rfl, .bool true, post_true l _, fun _ => ⟨List.Pairwise.nil, fun _ hm => (nomatch hm)⟩⟩, h2, h3, h4⟩

/-! ### rules over ANY heap (no ledger) from facts about the written part K: the library's own take a ledger (News) for what they write -/
section
variable {prog : Program} {w : World} {A : Around} {E : Value → Shared → Prop} {s : Shared} {K : Frag}

/-! the whole heap as the ledger: makes every rule that writes through a ledger a rule over any heap -/
def noObjs (h : Heap) : Heap := { h with objs := #[] }
def ledger (h : Heap) (L d : Addr) : List (Addr × Obj) := (List.range h.objs.size).filterMap fun a => if a = L ∨ a = d then none else (h.get? a).map fun o => (a, o)
end
end Att

namespace L2
open PySem PySem.Spec PyProof.Rows

theorem vals_ints : ∀ {vs : List Value} {ns : List Int}, IntsAre vs ns → Vals (ns.map V.int) vs
  | _, _, .nil => .nil
  | _, _, .cons n t h => .cons ⟨t, rfl⟩ (vals_ints h)

/-- nothing is tracked but the script, known to the object (or it is an object of the module) -/
def Only (H : Hp) : Prop := ∀ b, H b = none ∨ ∃ o xs, H b = some (.frz o (.lst xs))

/-- THE HEAD: the law's promise, at the heap behind the top. F, the promise of the law's def, may use that base is part of the heap (so K.In base, base.Ns mainGlobals mg stand in Mod) -/
theorem law_call {P : Program} {w : World} {K : PySem.W.Frag} {mg mb : Str → Option Value} {CX : CXT} {k : Nat} {fa a : Addr} {fd : FuncData} {x : Str} {sp : Sp} {s₁ : Shared} {vs : List Value} {ns : List Int}
    (KX : K.In s₁.heap) (hns : s₁.heap.Ns mainGlobals mg) (hb : s₁.heap.Ns builtinsNs mb) (hbb : ∀ x : Str, x ≠ "__name__" → mb x = bootBuiltins x) (hlim : s₁.heap.NoLimit) (hg : s₁.gens = #[])
    (ha : s₁.heap.get? a = some { cls := .type "list", data := .seq vs.toArray }) (hi : IntsAre vs ns) (hl : ns.length ≤ sizeLine) (hr : Room k callerA)
    (F : ∀ base : Heap, K.In base → base.Ns mainGlobals mg → FnOk P w K mg base CX k fa fd [x] sp) (hbind : ∀ (s : Shared) (u : Value), BindsTo s fd ⟨[u], []⟩ [(x, u)])
    (hsp : ∀ H : Hp, Only H → SqL K H a (ns.map V.int) → sp [.ref a] H (fun v _ => v = .bl true) fun _ _ _ => False)
    (hCX : ∀ H e s', CX [] H s₁ (fun _ _ _ => False) e s' → False) :
    codeAny (model P w) callerA (.call (.ref fa) ⟨[.ref a], []⟩) (fun r s' => r = .ok (.ret (.bool true)) ∧ OldK s₁.heap s'.heap ∧ s'.os = s₁.os ∧ AllBare s'.gens) s₁ := by
  have rv := vals_ints hi
  have lenV := hi.length
  -- from an abstract heap in which nothing but the script may be tracked
  have core : ∀ H : Hp, Only H → SqL K H a (ns.map V.int) → HOk P w H s₁.heap → (∀ b, H b ≠ none → b = a) → (H a ≠ none → K.lookup a = none) →
      codeAny (model P w) callerA (.call (.ref fa) ⟨[.ref a], []⟩) (fun r s' => r = .ok (.ret (.bool true)) ∧ OldK s₁.heap s'.heap ∧ s'.os = s₁.os ∧ AllBare s'.gens) s₁ := by
    intro H hO hS hok hA hK
    have base_of : ∀ {b : Addr} {o : Obj}, s₁.heap.get? b = some o → H b = none → (hidT s₁.heap H).get? b = some o := fun e n => hidT_get e n
    have noA : ∀ {b : Addr} {o : Obj} {es : Array DictEntry} {ep : Nat}, s₁.heap.get? b = some o → o.data = .dict es ep → H b = none := fun {b o es ep} e d => by
      cases q : H b with
      | none => rfl
      | some u =>
        have e' : b = a := hA b (by rw [q]; simp)
        subst e'
        rw [ha] at e; cases e
        have d' : Data.seq vs.toArray _ = Data.dict es ep := d
        cases d'
    have nsK : ∀ {b : Addr} {m : Str → Option Value}, s₁.heap.Ns b m → (hidT s₁.heap H).Ns b m := fun {b m} ⟨o, es, ep, e, d, r⟩ => ⟨o, es, ep, base_of e (noA e d), d, r⟩
    have hKb : K.In (hidT s₁.heap H) := fun b o e => base_of (KX b o e) (by
      cases q : H b with
      | none => rfl
      | some u =>
        have e' : b = a := hA b (by rw [q]; simp)
        subst e'
        rw [hK (by rw [q]; simp)] at e; cases e)
    have hM : Mod K mg (hidT s₁.heap H) := ⟨hKb, nsK hns, ⟨mb, nsK hb, hbb⟩, let ⟨mc, h1, h2⟩ := hlim; ⟨mc, nsK h1, h2⟩⟩
    have e0 : Env0 P w K mg (hidT s₁.heap H) callerA [] s₁ H := ⟨rfl, hM, fun b o e => of_hidT e, Nat.le_of_eq (hidT_size _ _), trivial, fun b hb => absurd (show b ∈ ([] : List Addr) from hb) (by simp), hok, .of_eq hg⟩
    refine codeAny_mono ((F _ hKb (nsK hns)).run callerA [] s₁ H ⟨[.ref a], []⟩ [.ref a] [.ref a] _ _ hr e0 (hbind s₁ (.ref a)) (.cons rfl .nil) (hsp H hO hS)) fun r s' h => ?_
    cases r with
    | error e => exact (hCX H e s' h).elim
    | ok fl =>
      cases fl with
      | next => exact False.elim h
      | brk => exact False.elim h
      | cont => exact False.elim h
      | ret u =>
        obtain ⟨v, H', os, bare, un, hok', r', q⟩ := h
        have q' : v = .bl true := q
        subst q'
        obtain rfl : u = Value.bool true := r'
        refine ⟨rfl, OldK.of_keep fun b o e => ?_, os, bare⟩
        cases q : H b with
        | none => exact un.keep b o e q (by intro z; exact absurd (show b ∈ ([] : List Addr) from z) (by simp)) (by simp)
        | some u =>
          rcases hO b with z | ⟨ob, xs, z⟩
          · rw [q] at z; cases z
          · have z2 := un.frzs b ob _ z
            obtain ⟨e1, _⟩ := hok b _ z
            obtain ⟨e2, _⟩ := hok' b _ z2
            rw [e] at e1; cases e1
            exact e2
  cases hk : K.lookup a with
  | some o =>
    -- the script is one of the module's own objects
    have e := KX a o hk
    rw [ha] at e
    cases e
    refine core (fun _ => none) (fun _ => .inl rfl) (.inr ⟨_, vs.toArray, _, hk, rfl, rfl, rfl, by rw [List.size_toArray, lenV]; exact hl, by simpa using rv⟩) (fun b u z => by have z' : (none : Option HO) = some u := z; cases z') (fun b z => absurd rfl z) fun z => absurd rfl z
  | none =>
    refine core (fun b => if b = a then some (.frz { cls := .type "list", data := .seq vs.toArray } (.lst (ns.map V.int))) else none) (fun b => ?_) (.inl (.inr ⟨{ cls := .type "list", data := .seq vs.toArray }, if_pos rfl⟩)) (fun b u z => ?_) (fun b z => ?_) fun _ => hk
    · by_cases hb : b = a
      · exact .inr ⟨_, _, if_pos hb⟩
      · exact .inl (if_neg hb)
    · by_cases hb : b = a
      · have z' := (if_pos hb).symm.trans z
        cases z'
        subst hb
        exact ⟨ha, by rw [List.length_map]; exact hl, vs, _, rv, ha⟩
      · have z' := (if_neg hb).symm.trans z
        cases z'
    · by_cases hb : b = a
      · exact hb
      · exact absurd (if_neg hb) z
end L2

namespace L2
open PySem PySem.Spec PyProof.Rows

abbrev KOf {K : PySem.W.Frag} {h : Heap} (_ : K.In h) : PySem.W.Frag := K

/-- the goal that k_head leaves (case hc), from the law's promise. F gives the function object fd (K's own) once, then the promise over every base -/
theorem walk_of {l : PySem.W.OpenLaw} {n k : Nat} {q : Program} {loose : List Str} {XP : (Str → Option Value) → Heap → Prop} {YP : World → Heap → Prop} {d : DefRec} {K : Params → PySem.W.Frag} {CX : World → CXT} {sp : World → Sp} {x : Str}
    (hn : l.most = some n) (hn2 : n ≤ sizeLine) (hdf : d.params.defaults = []) (hr : Room k callerA)
    (hY : ∀ (w : World) (h : Heap), YP w h → (K w.params).In h)
    (F : ∀ (w : World) (mg : Str → Option Value) (fa : Addr) (h : Heap), (K w.params).In h → h.Ns mainGlobals mg → mg d.name = some (.ref fa) →
      ∃ fd : FuncData, (∀ (s : Shared) (u : Value), BindsTo s fd ⟨[u], []⟩ [(x, u)]) ∧
        ∀ base : Heap, (K w.params).In base → base.Ns mainGlobals mg → FnOk l.prog w (K w.params) mg base (CX w) k fa fd [x] (sp w))
    (hsp : ∀ (w : World) (H : Hp) (a : Addr) (ns : List Int), ns.length ≤ n → Only H → SqL (K w.params) H a (ns.map V.int) → sp w [.ref a] H (fun v _ => v = .bl true) fun _ _ _ => False)
    (hCX : ∀ (w : World) (H : Hp) (s : Shared) (e : Value) (s' : Shared), CX w [] H s (fun _ _ _ => False) e s' → False) :
    PySem.W.WalkO q loose XP YP l.row.toRowW d [] (fun f vs => PySem.call f vs) := by
  refine Att.attach_call hn hdf fun w s₀ s₁ mg mb fa o pm cd doc a vs ns G Y ho hd hcd hmg hobj hints hlen hg => ?_
  have KX := hY w _ Y
  obtain ⟨fd, hb, hF⟩ := F w mg fa _ KX G.T.g hmg
  exact law_call KX G.T.g G.T.b G.T.builtins G.T.nolimit hg hobj hints (Nat.le_trans hlen hn2) hr hF hb (fun H hO hS => hsp w H a ns hlen hO hS) fun H e s' => hCX w H s₁ e s'
end L2

/-! SHORT WORDS over the layer: a def of the text, its body, what a loop and a test want. -/
namespace L2
open PySem PySem.Spec PyProof.Rows

/-! ### the text by places -/
/-- the j-th statement of a class's body -/
def inClass (s : Stmt) (j : Nat) : Stmt := match s with
  | .ClassDef _ _ _ body _ _ _ _ _ _ _ => body.getD j (.Pass ⟨0, 0, 0, 0⟩)
  | _ => .Pass ⟨0, 0, 0, 0⟩
def defArgs (s : Stmt) : Arguments := match s with
  | .FunctionDef _ a _ _ _ _ _ _ _ _ => a
  | _ => { posonlyargs := [], args := [], vararg := none, kwonlyargs := [], kw_defaults := [], kwarg := none, defaults := [] }
def defBody (s : Stmt) : List Stmt := match s with
  | .FunctionDef _ _ b _ _ _ _ _ _ _ => b
  | _ => []
def defScope (s : Stmt) : Scope := match s with
  | .FunctionDef _ _ _ _ _ _ sc _ _ _ => sc
  | _ => { kind := .function, names := [], isGenerator := false, isCoroutine := false }

/-! ### no exception leaves a def -/
abbrev CX0 : CXT := fun _ _ _ _ _ _ => False
abbrev E0 : XK := fun _ _ _ => False
theorem pass0 {X : Cx} : Passes CX0 X E0 := fun _ _ _ _ _ _ _ h => h.elim

/-! ### a def (or method) of the text as it stands behind the top -/
structure Fun (K : PySem.W.Frag) (x qual : Str) (st : Stmt) (f : Addr) (fd : FuncData) : Prop where
  ex : ∃ (oc : Value) (od : Option Addr) (kV doc pm : Value) (an : Option Addr) (cdv ct : Value) (osl : Array (Option Value)),
    fd = PySem.W.fnOf x qual (defArgs st) (defBody st) (defScope st) .none kV doc pm an cdv ct ∧ K.lookup f = some ⟨oc, od, .func fd, osl⟩ ∧ PySem.W.codeIn K cdv qual = true
  kp : PySem.W.keepIn K (.ref f) = true
section
variable {P : Program} {w : World} {K : PySem.W.Frag} {mg : Str → Option Value} {base : Heap}
/-- THE RULE for a def: its body as a term of rules, and the reading of that term -/
theorem Fun.ok {x qual : Str} {st : Stmt} {f : Addr} {fd : FuncData} {N ps : List Str} {k : Nat} {sp : Sp} (F : Fun K x qual st f fd) (S : FnScope N ps (defScope st)) (len : ∀ vs H Q E, sp vs H Q E → vs.length = ps.length)
    (hbody : ∀ (cdv : Value) (A : Around) (outer : List Env) (s : Shared) (H : Hp) (vs : List V) (Q : VK) (E : XK), Room k (A.deeper (envOfC qual (defScope st) s.heap.objs.size f cdv)) → sp vs H Q E →
      ∃ t, PSs (cxOf CX0 P w K mg base N qual (defScope st) f cdv A outer s H E).nox (defBody st) t ∧ t { nx := fun _ H' => Q .non H', rt := Q } (start N vs) H) : FnOk P w K mg base CX0 (k + 1) f fd ps sp := by
  obtain ⟨oc, od, kV, doc, pm, an, cdv, ct, osl, rfl, lk, hcd⟩ := F.ex
  refine fn_of lk hcd S len fun A outer s H vs Q E hr hsp => ?_
  obtain ⟨t, h, q⟩ := hbody cdv A outer s H vs Q E hr hsp
  exact ⟨t, h.nox, q⟩
/-- how its arguments bind (no defaults): h is «fun _ _ _ _ _ _ us hl => match us, hl with | [_, _], _ => rfl», one _ a parameter -/
theorem Fun.binds {x qual : Str} {st : Stmt} {f : Addr} {fd : FuncData} {ps : List Str} (F : Fun K x qual st f fd)
    (h : ∀ (kV doc pm : Value) (an : Option Addr) (cdv ct : Value) (us : List Value), us.length = ps.length → bindArgs (PySem.W.fnOf x qual (defArgs st) (defBody st) (defScope st) .none kV doc pm an cdv ct) ⟨us, []⟩ = pure (ps.zip us)) : Binds K fd ps [] := by
  obtain ⟨oc, od, kV, doc, pm, an, cdv, ct, osl, rfl, lk, hcd⟩ := F.ex
  exact .all (h kV doc pm an cdv ct)
theorem fun_mk {x qual : Str} {st : Stmt} {f : Addr} {oc : Value} {od an : Option Addr} {osl : Array (Option Value)} {kV doc pm cdv ct : Value} (l : K.lookup f = some ⟨oc, od, .func (PySem.W.fnOf x qual (defArgs st) (defBody st) (defScope st) .none kV doc pm an cdv ct), osl⟩)
    (c : PySem.W.codeIn K cdv qual = true) (k : PySem.W.keepIn K (.ref f) = true) : Fun K x qual st f (PySem.W.fnOf x qual (defArgs st) (defBody st) (defScope st) .none kV doc pm an cdv ct) := ⟨⟨oc, od, kV, doc, pm, an, cdv, ct, osl, rfl, l, c⟩, k⟩
end
theorem hu_of {A : Around} {k : Nat} (hr : Room k A) : A.units + 1 < cLine := Nat.lt_of_le_of_lt (Nat.add_le_add_left (by decide : 1 ≤ 64) _) hr.units
/-! ### expressions in short: the name that stands in the i-th slot -/
section
variable {X : Cx}
theorem pv (i : Nat) {x : Str} {pos : Pos} (hN : X.N[i]? = some x := by rfl) (hv : Vis X.env.scope x := by first | exact Or.inl rfl | exact Or.inr (Or.inl rfl) | exact Or.inr (Or.inr rfl)) (hd : (x == ("__debug__" : Str)) = false := by decide)
    (hcd : (x == ("__classdict__" : Str)) = false := by decide) : PE X (.Name x pos) (tVar i) := pe_var hN hv hd hcd
end

/-! ### tests -/
theorem ite2 {c A B : Prop} [Decidable c] (h1 : c → A) (h2 : ¬ c → B) : if c then A else B := by
  by_cases h : c
  · rw [if_pos h]
    exact h1 h
  · rw [if_neg h]
    exact h2 h
/-! ### heaps -/
/-- all that was tracked is as it was -/
def Same (H H' : Hp) : Prop := ∀ b o, H b = some o → H' b = some o
theorem Same.refl (H : Hp) : Same H H := fun _ _ h => h
theorem Same.trans {H H1 H2 : Hp} (a : Same H H1) (b : Same H1 H2) : Same H H2 := fun c o h => b c o (a c o h)
theorem Same.free {H H' : Hp} (e : Same H H') {l : Addr} (h : H' l = Option.none) : H l = Option.none := by
  cases q : H l with
  | none => rfl
  | some o =>
    rw [e l o q] at h
    cases h
theorem Same.seq {K : PySem.W.Frag} {H H' : Hp} {a : Addr} {xs : List V} (e : Same H H') (h : SqL K H a xs) : SqL K H' a xs := by
  rcases h with (h | ⟨o, h⟩) | h
  · exact .inl (.inl (e _ _ h))
  · exact .inl (.inr ⟨o, e _ _ h⟩)
  · exact .inr h

/-! ### lists of pairs as tables -/
section
variable {κ : Type} [DecidableEq κ]
def valV (kvs : List (κ × V)) (k : κ) : Option V := (kvs.find? fun kv => decide (kv.1 = k)).map (·.2)
/-- in its place, or at the end -/
def putK (kvs : List (κ × V)) (k : κ) (v : V) : List (κ × V) :=
  if (kvs.any fun kv => decide (kv.1 = k)) = true then kvs.map (fun kv => if kv.1 = k then (kv.1, v) else kv) else kvs ++ [(k, v)]
def dropK (kvs : List (κ × V)) (k : κ) : List (κ × V) := kvs.filter fun kv => decide (kv.1 ≠ k)

theorem valV_pos {p : κ × V} {r : List (κ × V)} {k : κ} (e : p.1 = k) : valV (p :: r) k = some p.2 := by simp [valV, List.find?_cons, e]
theorem valV_neg {p : κ × V} {r : List (κ × V)} {k : κ} (e : ¬ p.1 = k) : valV (p :: r) k = valV r k := by simp [valV, List.find?_cons, e]
theorem valV_any (k : κ) : ∀ kvs : List (κ × V), (kvs.any fun kv => decide (kv.1 = k)) = (valV kvs k).isSome
  | [] => rfl
  | p :: r => by
    rw [List.any_cons]
    by_cases e : p.1 = k
    · simp only [valV_pos e, decide_eq_true e, Bool.true_or, Option.isSome_some]
    · rw [valV_neg e, decide_eq_false e, Bool.false_or]; exact valV_any k r
theorem RelO.getD {o : Option V} {u : Option Value} {d : V} {d' : Value} (r : RelO o u) (rd : RelV d d') : RelV (o.getD d) (u.getD d') := by
  cases o with
  | none => cases u with
    | none => exact rd
    | some _ => exact (show False from r).elim
  | some _ => cases u with
    | none => exact (show False from r).elim
    | some _ => exact r

/-- raw tables of the same keys -/
theorem KV.val {kvs : List (κ × V)} {vs : List (κ × Value)} (r : KV kvs vs) (k : κ) : RelO (valV kvs k) (valueAt vs k) := by
  unfold KV at r
  induction r with
  | nil => exact True.intro
  | @cons p q ps qs h t ih =>
    obtain ⟨h1, h2⟩ := h
    by_cases e : p.1 = k
    · have e' : q.1 = k := h1.symm.trans e
      have b : valueAt (q :: qs) k = some q.2 := by simp [valueAt, List.find?_cons, e']
      rw [valV_pos e, b]; exact h2
    · have e' : ¬ q.1 = k := fun z => e (h1.trans z)
      have b : valueAt (q :: qs) k = valueAt qs k := by simp [valueAt, List.find?_cons, e']
      rw [valV_neg e, b]; exact ih
theorem KV.any {kvs : List (κ × V)} {vs : List (κ × Value)} (r : KV kvs vs) (k : κ) : (kvs.any fun kv => decide (kv.1 = k)) = vs.any fun kv => decide (kv.1 = k) := by
  unfold KV at r
  induction r with
  | nil => rfl
  | cons h t ih => rw [List.any_cons, List.any_cons, ih, h.1]
theorem KV.repl {kvs : List (κ × V)} {vs : List (κ × Value)} (r : KV kvs vs) (k : κ) {y : V} {u : Value} (ry : RelV y u) :
    KV (kvs.map fun kv => if kv.1 = k then (kv.1, y) else kv) (vs.map fun kv => if kv.1 = k then (kv.1, u) else kv) := by
  unfold KV at r ⊢
  induction r with
  | nil => exact .nil
  | @cons p q ps qs h t ih =>
    rw [List.map_cons, List.map_cons]
    refine .cons ?_ ih
    obtain ⟨h1, h2⟩ := h
    by_cases e : p.1 = k
    · rw [if_pos e, if_pos (h1.symm.trans e)]; exact ⟨h1, ry⟩
    · rw [if_neg e, if_neg (fun z => e (h1.trans z))]; exact ⟨h1, h2⟩
theorem KV.put {kvs : List (κ × V)} {vs : List (κ × Value)} (r : KV kvs vs) (k : κ) {y : V} {u : Value} (ry : RelV y u) : KV (putK kvs k y) (stored vs k u) := by
  unfold putK stored
  rw [r.any k]
  by_cases e : (vs.any fun kv => decide (kv.1 = k)) = true
  · rw [if_pos e, if_pos e]; exact r.repl k ry
  · rw [if_neg e, if_neg e]; exact Paired.snoc r ⟨rfl, ry⟩
theorem KV.drop {kvs : List (κ × V)} {vs : List (κ × Value)} (r : KV kvs vs) (k : κ) : KV (dropK kvs k) (without vs k) := by
  unfold KV at r ⊢
  unfold dropK without
  induction r with
  | nil => exact .nil
  | @cons p q ps qs h t ih =>
    obtain ⟨h1, h2⟩ := h
    rw [List.filter_cons, List.filter_cons]
    by_cases e : p.1 = k
    · have a : ¬ decide (p.1 ≠ k) = true := by simp [e]
      have b : ¬ decide (q.1 ≠ k) = true := by simp [h1.symm.trans e]
      rw [if_neg a, if_neg b]; exact ih
    · have e' : ¬ q.1 = k := fun z => e (h1.trans z)
      have a : decide (p.1 ≠ k) = true := by simp [e]
      have b : decide (q.1 ≠ k) = true := by simp [e']
      rw [if_pos a, if_pos b]; exact .cons ⟨h1, h2⟩ ih
theorem KV.keys {kvs : List (κ × V)} {vs : List (κ × Value)} (r : KV kvs vs) : kvs.map (·.1) = vs.map (·.1) := by
  unfold KV at r
  induction r with
  | nil => rfl
  | cons h t ih => rw [List.map_cons, List.map_cons, ih, h.1]
theorem KV.length {kvs : List (κ × V)} {vs : List (κ × Value)} (r : KV kvs vs) : kvs.length = vs.length := Paired.length r
end
/-! ### a dict's pairs: keys that differ -/
section
variable {κ : Type} [DecidableEq κ]
end
end L2

namespace L2
open PySem PySem.Spec PyProof.Rows

/-! ### a comprehension's block: what it sees of the def around it -/
def clAcc (cells : List (Str × Addr)) : List (Str × NameKind) → List (Str × Addr) → List (Str × Addr)
  | [], acc => acc
  | (n, k) :: r, acc => clAcc cells r (if k == .free then (n, (cells.lookup n).getD 0) :: acc else acc)
def clOf (names : List (Str × NameKind)) (cells : List (Str × Addr)) : List (Str × Addr) := clAcc cells names []

theorem clos_aux {env : Env} : ∀ (l : List (Str × NameKind)) (acc : List (Str × Addr)), (∀ x ∈ l, x.2 = .free → (env.cells.lookup x.1).isSome = true) →
    (forIn l acc fun (x : Str × NameKind) (r : List (Str × Addr)) => if (x.2 == NameKind.free) = true then do let a ← cellOf env x.1; pure (ForInStep.yield ((x.1, a) :: r)) else pure (ForInStep.yield r)) = (pure (clAcc env.cells l acc) : Sem _)
  | [], acc, _ => rfl
  | (n, k) :: r, acc, h => by
    rw [List.forIn_cons]
    have hr : ∀ x ∈ r, x.2 = .free → (env.cells.lookup x.1).isSome = true := fun x hx => h x (List.mem_cons_of_mem _ hx)
    cases hk : (k == NameKind.free) with
    | true =>
      have hs := h (n, k) List.mem_cons_self (by simpa using hk)
      obtain ⟨a, ha⟩ := Option.isSome_iff_exists.mp hs
      have hc : cellOf env n = pure a := by unfold cellOf; rw [ha]
      simp only [hc, pure_bind, if_true]
      rw [clos_aux r _ hr]
      simp only [clAcc, hk, ha, Option.getD_some, if_true]
    | false =>
      simp only [pure_bind, Bool.false_eq_true, if_false]
      rw [clos_aux r _ hr]
      simp only [clAcc, hk, Bool.false_eq_true, if_false]
theorem closure_of {scope : Scope} {env : Env} (h : ∀ x ∈ scope.names, x.2 = .free → (env.cells.lookup x.1).isSome = true) : closureFor scope env = pure (clOf scope.names env.cells) := by
  have e := clos_aux (env := env) scope.names [] h
  unfold closureFor
  first
    | exact e
    | (simp only [bind_pure]; exact e)
    | (rw [show (forIn scope.names [] _ : Sem (List (Str × Addr))) = _ from e]; rfl)
theorem clAcc_mem {cells : List (Str × Addr)} {all : List (Str × NameKind)} : ∀ (l : List (Str × NameKind)) (acc : List (Str × Addr)), (∀ x ∈ l, x ∈ all) → (∀ p ∈ acc, (p.1, NameKind.free) ∈ all ∧ p.2 = (cells.lookup p.1).getD 0) →
    ∀ p ∈ clAcc cells l acc, (p.1, NameKind.free) ∈ all ∧ p.2 = (cells.lookup p.1).getD 0
  | [], acc, _, h => h
  | (n, k) :: r, acc, hl, h => by
    refine clAcc_mem r _ (fun x hx => hl x (List.mem_cons_of_mem _ hx)) ?_
    intro p hp
    cases hk : (k == NameKind.free) with
    | true =>
      rw [hk, if_pos rfl] at hp
      rcases List.mem_cons.mp hp with rfl | hp
      · have : k = .free := by simpa using hk
        subst this
        exact ⟨hl _ List.mem_cons_self, rfl⟩
      · exact h p hp
    | false =>
      rw [hk, if_neg Bool.false_ne_true] at hp
      exact h p hp
theorem clOf_lookup {names : List (Str × NameKind)} {cells : List (Str × Addr)} {x : Str} {c : Addr} (e : (clOf names cells).lookup x = some c) : (x, NameKind.free) ∈ names ∧ c = (cells.lookup x).getD 0 :=
  clAcc_mem (all := names) names [] (fun _ h => h) (fun p hp => absurd hp (by simp)) (x, c) (PySem.mem_of_lookup e)
theorem clAcc_has {cells : List (Str × Addr)} {x : Str} : ∀ (l : List (Str × NameKind)) (acc : List (Str × Addr)), ((x, NameKind.free) ∈ l ∨ ∃ c, acc.lookup x = some c) → ∃ c, (clAcc cells l acc).lookup x = some c
  | [], acc, h => by
    rcases h with h | h
    · simp at h
    · exact h
  | (n, k) :: r, acc, h => by
    refine clAcc_has r _ ?_
    rcases h with h | ⟨c, h⟩
    · rcases List.mem_cons.mp h with e | h
      · have e1 : x = n := congrArg Prod.fst e
        have e2 : NameKind.free = k := congrArg Prod.snd e
        subst e1; subst e2
        refine .inr ⟨(cells.lookup x).getD 0, ?_⟩
        simp
      · exact .inl h
    · refine .inr ?_
      cases hk : (k == NameKind.free) with
      | true =>
        rw [if_pos rfl, List.lookup_cons]
        cases hx : (x == n) with
        | true => exact ⟨_, rfl⟩
        | false => exact ⟨c, h⟩
      | false =>
        rw [if_neg Bool.false_ne_true]
        exact ⟨c, h⟩
theorem relabel_free {env : Env} : ∀ {names : List (Str × NameKind)} {x : Str}, names.lookup x = some .free →
    (names.map fun (n, k) => if (k == NameKind.free && env.scope.kind == .function && env.kindOf n == some .cell) then (n, NameKind.cell) else (n, k)).lookup x = some .free ∨
    (names.map fun (n, k) => if (k == NameKind.free && env.scope.kind == .function && env.kindOf n == some .cell) then (n, NameKind.cell) else (n, k)).lookup x = some .cell
  | [], _, h => by simp at h
  | (n, k) :: r, x, h => by
    have ih := @relabel_free env r x
    rw [List.map_cons]
    cases hx : x == n with
    | true =>
      simp only [List.lookup_cons, hx] at h
      cases h
      by_cases hc : (NameKind.free == NameKind.free && env.scope.kind == .function && env.kindOf n == some .cell) = true
      · right; simp only [if_pos hc, List.lookup_cons, hx]
      · left; simp only [if_neg hc, List.lookup_cons, hx]
    | false =>
      simp only [List.lookup_cons, hx] at h
      by_cases hc : (k == NameKind.free && env.scope.kind == .function && env.kindOf n == some .cell) = true
      · simp only [if_pos hc, List.lookup_cons, hx]; exact ih h
      · simp only [if_neg hc, List.lookup_cons, hx]; exact ih h
theorem relabel_back {env : Env} : ∀ {names : List (Str × NameKind)} {x : Str}, (∀ y ∈ names, y.2 ≠ .cell) →
    ((names.map fun (n, k) => if (k == NameKind.free && env.scope.kind == .function && env.kindOf n == some .cell) then (n, NameKind.cell) else (n, k)).lookup x = some .cell ∨
    (names.map fun (n, k) => if (k == NameKind.free && env.scope.kind == .function && env.kindOf n == some .cell) then (n, NameKind.cell) else (n, k)).lookup x = some .free) → (x, NameKind.free) ∈ names
  | [], _, _, h => by simp at h
  | (n, k) :: r, x, hc0, h => by
    have ih := @relabel_back env r x (fun y hy => hc0 y (List.mem_cons_of_mem _ hy))
    have hk0 : k ≠ .cell := hc0 (n, k) List.mem_cons_self
    rw [List.map_cons] at h
    cases hx : x == n with
    | true =>
      have e : x = n := eq_of_beq hx
      subst e
      by_cases hc : (k == NameKind.free && env.scope.kind == .function && env.kindOf x == some .cell) = true
      · have hk : k = .free := by
          rw [Bool.and_eq_true, Bool.and_eq_true] at hc
          exact eq_of_beq hc.1.1
        subst hk
        exact List.mem_cons_self
      · simp only [if_neg hc, List.lookup_cons, hx] at h
        rcases h with h | h
        · exact absurd (Option.some.inj h) hk0
        · have := Option.some.inj h
          subst this
          exact List.mem_cons_self
    | false =>
      by_cases hc : (k == NameKind.free && env.scope.kind == .function && env.kindOf n == some .cell) = true
      · simp only [if_pos hc, List.lookup_cons, hx] at h
        exact List.mem_cons_of_mem _ (ih h)
      · simp only [if_neg hc, List.lookup_cons, hx] at h
        exact List.mem_cons_of_mem _ (ih h)

def impOk (N : List Str) (scope : Scope) : List (Option Nat) → List Str → Bool
  | [], [] => true
  | none :: r, _ :: ns => impOk N scope r ns
  | some j :: r, x :: ns => (decide (N[j]? = some x) && decide (scope.names.lookup x = some .free)) && impOk N scope r ns
  | _, _ => false
theorem impOk_len {N : List Str} {scope : Scope} : ∀ {imp : List (Option Nat)} {N' : List Str}, impOk N scope imp N' = true → imp.length = N'.length
  | [], [], _ => rfl
  | none :: r, _ :: ns, h => congrArg (· + 1) (impOk_len (imp := r) (N' := ns) h)
  | some j :: r, x :: ns, h => congrArg (· + 1) (impOk_len (imp := r) (N' := ns) (Bool.and_eq_true_iff.mp h).2)
  | [], _ :: _, h => nomatch h
  | none :: _, [], h => nomatch h
  | some _ :: _, [], h => nomatch h
theorem impOk_at {N : List Str} {scope : Scope} : ∀ {imp : List (Option Nat)} {N' : List Str} {i j : Nat}, impOk N scope imp N' = true → imp[i]? = some (some j) → ∃ x, N'[i]? = some x ∧ N[j]? = some x ∧ scope.names.lookup x = some .free
  | [], [], i, j, _, e => by simp at e
  | none :: r, _ :: ns, 0, j, _, e => by simp at e
  | none :: r, _ :: ns, i + 1, j, h, e => by
    have := impOk_at (imp := r) (N' := ns) (i := i) (j := j) h (by simpa using e)
    simpa using this
  | some k :: r, x :: ns, 0, j, h, e => by
    have e' : k = j := by simpa using e
    subst e'
    have h1 := (Bool.and_eq_true_iff.mp (Bool.and_eq_true_iff.mp h).1)
    exact ⟨x, rfl, of_decide_eq_true h1.1, of_decide_eq_true h1.2⟩
  | some k :: r, x :: ns, i + 1, j, h, e => by
    have := impOk_at (imp := r) (N' := ns) (i := i) (j := j) (Bool.and_eq_true_iff.mp h).2 (by simpa using e)
    simpa using this
  | [], _ :: _, _, _, h, _ => nomatch h
  | none :: _, [], _, _, h, _ => nomatch h
  | some _ :: _, [], _, _, h, _ => nomatch h
/-- the names of a block (N'), of the def around it (N), which of the def's are seen within (imp: by the block's slot the def's slot) -/
structure CompSc (N N' : List Str) (fsc scope : Scope) (imp : List (Option Nat)) : Prop where
  kind : scope.kind = .function
  nocell : ∀ y ∈ scope.names, y.2 ≠ .cell
  names : ∀ y ∈ scope.names, y.2 = .local → scope.names.lookup y.1 = some .local
  free : ∀ y ∈ scope.names, y.2 = .free → fsc.names.lookup y.1 = some .cell ∨ fsc.names.lookup y.1 = some .free
  ok : impOk N scope imp N' = true
def pull (imp : List (Option Nat)) (σ : St) : St := imp.map fun o => match o with
  | none => none
  | some j => (σ[j]?).getD none
def compCx (X : Cx) (N' : List Str) (scope : Scope) (s3 : Shared) (H2 : Hp) (ex : List Addr) : Cx :=
  { X with N := N', s₀ := s3, H₀ := H2, env := compEnvC scope (clOf scope.names X.env.cells) s3.heap.objs.size X.env, outer := X.stack, ex := ex, fn := fun _ => false, pn := [], xe := fun _ _ => False }

abbrev lobj (its : List Value) (n : Nat) : Obj := { cls := .type "list", data := .seq its.toArray n }

theorem comp_inv {X : Cx} {pins : List (Addr × Obj)} {σ : St} {H : Hp} {s : Shared} {N' : List Str} {fsc scope : Scope} {imp : List (Option Nat)} {fp : List Addr} {h1 : Heap} {t : Nat} {m : Str → Option Value}
    (I : Inv X pins σ H s) (hfp : ∀ b ∈ fp, FpOk X pins H b) (hfo : ∀ b ∈ fp, b < s.heap.objs.size) (S : CompSc X.N N' fsc scope imp) (hsc : X.env.scope = fsc)
    (hns : h1.Ns (s.heap.push (lobj [] 0)).objs.size m) (old : ∀ b o, (s.heap.push (lobj [] 0)).get? b = some o → h1.get? b = some o) :
    Inv (compCx X N' scope { s with heap := s.heap.push (lobj [] 0) } H (s.heap.objs.size :: fp)) [] (pull imp σ) H { s with heap := h1, toks := t } := by
  subst hsc
  have hC : (s.heap.push (lobj [] 0)).objs.size = s.heap.objs.size + 1 := by rw [Heap.size_push]
  have old0 : ∀ b o, s.heap.get? b = some o → (s.heap.push (lobj [] 0)).get? b = some o := fun b o e => Heap.get?_push_of_some _ e
  have old1 : ∀ b o, s.heap.get? b = some o → h1.get? b = some o := fun b o e => old b o (old0 b o e)
  have cells_of : ∀ {x : Str} {c : Addr}, (clOf scope.names X.env.cells).lookup x = some c → X.env.cells.lookup x = some c := fun {x c} e => by
    obtain ⟨hm, hc⟩ := clOf_lookup e
    obtain ⟨c', e'⟩ := I.ok.has x (S.free _ hm rfl)
    rw [e', Option.getD_some] at hc
    rw [e', hc]
  have hfr : ∀ b ∈ frs X.stack, b < s.heap.objs.size := fun b hb => by
    obtain ⟨_, o, ho, _⟩ := I.stack.mem hb
    exact Heap.lt_size ho
  have hex : ∀ b ∈ s.heap.objs.size :: fp, b ≠ (s.heap.push (lobj [] 0)).objs.size ∧ (∀ x c, X.env.cells.lookup x = some c → c ≠ b) ∧ b ∉ frs X.stack ∧ ∀ o, X.base.get? b ≠ some o := fun b hb => by
    rcases List.mem_cons.mp hb with rfl | hb
    · refine ⟨by rw [hC]; exact Nat.ne_of_lt (Nat.lt_succ_self _), fun x c e z => ?_, fun z => Nat.lt_irrefl _ (hfr _ z), fun o e => ?_⟩
      · obtain ⟨v, q⟩ := I.cell x c e
        have := q.lt
        rw [z] at this
        exact Nat.lt_irrefl _ this
      · exact Nat.lt_irrefl _ (Nat.lt_of_lt_of_le (Heap.lt_size e) (Nat.le_trans I.ok.bsz I.sz))
    · obtain ⟨f0, f1, f2, f3, f4, f5⟩ := hfp b hb
      have hlt := hfo b hb
      refine ⟨by rw [hC]; exact Nat.ne_of_lt (Nat.lt_succ_of_lt hlt), f4, fun z => ?_, fun o e => ?_⟩
      · rcases List.mem_cons.mp (I.stkSub b z) with e | e
        · exact f1 e
        · exact f2 e
      · rcases f3 with f3 | f3
        · exact I.ok.noex b o e f3
        · exact Nat.lt_irrefl _ (Nat.lt_of_lt_of_le (Heap.lt_size e) (Nat.le_trans I.ok.bsz f3))
  have Ik : Inv X pins σ H { s with heap := s.heap.push (lobj [] 0), toks := s.toks } := I.kept old0
  refine ⟨⟨I.ok.mod, S.kind, I.ok.glob, I.ok.blt, Nat.le_refl _, fun x y c h1 h2 => I.ok.inj x y c (cells_of h1) (cells_of h2), fun x hx => ?_, fun x c h => (nomatch h), I.ok.hd, I.ok.frames, .inl rfl,
      fun b hb => ⟨(hex b hb).1, fun x c e => (hex b hb).2.1 x c (cells_of e)⟩, fun b o e => ⟨(Ik.bs b o e).1, (I.bs b o e).2⟩, ?_, fun b o e hb => (hex b hb).2.2.2 o e, fun b hb => (hex b hb).2.2.1, Ik.stack, I.stkFree⟩,
    rfl, I.bare, Un.kept old, ⟨m, hns, fun i x v e1 e2 e3 => ?_⟩, fun x c e => ?_, I.hok.fresh (by show s.heap.objs.size ≤ (s.heap.push (lobj [] 0)).objs.size; rw [hC]; exact Nat.le_succ _), fun x c e => I.freeC x c (cells_of e), fun p hp => absurd (show p ∈ ([] : List (Addr × Obj)) from hp) (by simp), I.hok.kept old1, ?_⟩
  · have hx' : (x, NameKind.free) ∈ scope.names := relabel_back S.nocell hx
    exact clAcc_has _ _ (.inl hx')
  · show X.base.objs.size ≤ (s.heap.push (lobj [] 0)).objs.size
    rw [hC]
    exact Nat.le_succ_of_le (Nat.le_trans I.ok.bsz I.sz)
  · -- a name of the def's, by its cell
    unfold pull at e2
    rw [List.getElem?_map] at e2
    cases hi : imp[i]? with
    | none => rw [hi] at e2; cases e2
    | some oj =>
      rw [hi] at e2
      cases oj with
      | none => cases e2
      | some j =>
        obtain ⟨x', e1', e4, e5⟩ := impOk_at S.ok hi
        have e1'' : N'[i]? = some x := e1
        rw [e1''] at e1'
        cases e1'
        have e2' : σ[j]? = some (some v) := by
          have q : (σ[j]?).getD none = some v := Option.some.inj e2
          cases hs : σ[j]? with
          | none => rw [hs] at q; cases q
          | some o => rw [hs] at q; exact congrArg some q
        have hmem : (x, NameKind.free) ∈ scope.names := PySem.mem_of_lookup e5
        have hk := S.free _ hmem rfl
        obtain ⟨m0, hn0, hl0⟩ := I.loc
        obtain ⟨u, r, l⟩ := hl0 j x v e4 e2' (.inr hk)
        refine ⟨u, r, ?_⟩
        rcases l with ⟨hkl, _⟩ | ⟨_, c, ec, hcell⟩
        · have hkl' : X.env.scope.names.lookup x = some .local := hkl
          rcases hk with hk | hk <;> (rw [hk] at hkl'; cases hkl')
        · obtain ⟨c', ec'⟩ := clAcc_has (cells := X.env.cells) scope.names [] (.inl hmem)
          have := cells_of ec'
          rw [ec] at this
          cases this
          have hr := relabel_free (env := X.env) e5
          exact .inr ⟨hr.symm, c, ec', let ⟨o, ho, hd⟩ := hcell; ⟨o, old1 _ _ ho, hd⟩⟩
  · obtain ⟨v, o, ho, hd⟩ := I.cell x c (cells_of e)
    exact ⟨v, o, old1 _ _ ho, hd⟩
  · show (pull imp σ).length = N'.length
    unfold pull
    rw [List.length_map, impOk_len S.ok]

/-- behind the block: the def's own state again, the new list tracked -/
theorem comp_back {X : Cx} {pins pins' : List (Addr × Obj)} {σ σ' : St} {H H' : Hp} {s s' : Shared} {N' : List Str} {scope : Scope} {fp : List Addr} {h2 : Heap} {acc : List V} {its : List Value} {n : Nat}
    (I : Inv X pins σ H s) (hfp : ∀ b ∈ fp, FpOk X pins H b)
    (J : Inv (compCx X N' scope { s with heap := s.heap.push (lobj [] 0) } H (s.heap.objs.size :: fp)) pins' σ' H' s') (hD : H' s.heap.objs.size = none)
    (hsb : Heap.SameBut (s.heap.push (lobj [] 0)).objs.size s'.heap h2) (ho : s'.heap.get? s.heap.objs.size = some (lobj its n)) (hv : Vals acc its) (hl : acc.length ≤ sizeLine) :
    Inv X pins σ (upd H' s.heap.objs.size (.lst acc)) { s' with heap := h2 } := by
  have hC : (s.heap.push (lobj [] 0)).objs.size = s.heap.objs.size + 1 := by rw [Heap.size_push]
  have hU := J.base
  have old0 : ∀ b o, s.heap.get? b = some o → (s.heap.push (lobj [] 0)).get? b = some o := fun b o e => Heap.get?_push_of_some _ e
  have neD : ∀ b o, s.heap.get? b = some o → b ≠ s.heap.objs.size := fun b o e => Nat.ne_of_lt (Heap.lt_size e)
  have neC : ∀ b o, s.heap.get? b = some o → b ≠ (s.heap.push (lobj [] 0)).objs.size := fun b o e => by rw [hC]; exact Nat.ne_of_lt (Nat.lt_succ_of_lt (Heap.lt_size e))
  have nex : ∀ b o, s.heap.get? b = some o → b ∉ fp → b ∉ s.heap.objs.size :: fp := fun b o e hb z => by
    rcases List.mem_cons.mp z with z | z
    · exact neD b o e z
    · exact hb z
  have HD : H s.heap.objs.size = none := I.hok.fresh (Nat.le_refl _)
  have HC : H' (s.heap.push (lobj [] 0)).objs.size = none := J.free
  have ha : h2.get? s.heap.objs.size = some (lobj its n) := (hsb.2 _ (by rw [hC]; exact Nat.ne_of_lt (Nat.lt_succ_self _))).trans ho
  refine I.call' (s' := { s' with heap := h2 }) (ch := fp) J.os ⟨fun b o e q hb hx => ?_, fun b o e q hb hx => ?_, fun b o e q hx => ?_, fun b o e hx => ?_, fun b xs e => ?_, fun b o u e => ?_, fun b ps e => ?_⟩ (fun b u e => ?_) J.bare (fun b hb => ?_)
  · exact (hsb.2 b (neC b o e)).trans (hU.keep b o (old0 b o e) q hb (nex b o e hx))
  · obtain ⟨sl, z⟩ := hU.slot b o (old0 b o e) q hb (nex b o e hx)
    exact ⟨sl, (hsb.2 b (neC b o e)).trans z⟩
  · rw [upd_ne (neD b o e)]
    exact hU.free b o (old0 b o e) q (nex b o e hx)
  · obtain ⟨o', z⟩ := hU.there b o (old0 b o e) (nex b o e hx)
    exact ⟨o', (hsb.2 b (neC b o e)).trans z⟩
  · rw [upd_ne (ne_of_none e HD)]
    exact hU.tups b xs e
  · rw [upd_ne (ne_of_none e HD)]
    exact hU.frzs b o u e
  · rw [upd_ne (ne_of_none e HD)]
    exact hU.tbls b ps e
  · by_cases hb : b = s.heap.objs.size
    · subst hb
      rw [upd_same] at e
      cases e
      exact ⟨hl, its, n, hv, ha⟩
    · rw [upd_ne hb] at e
      refine (J.hok b u e).stay (fun c v hc q => (hsb.2 c ?_).trans q) (fun c q => by rw [upd_ne (ne_of_none q hD)]; exact q) fun c xs q => by rw [upd_ne (ne_of_none q hD)]; exact q
      rcases hc with rfl | hc
      · exact ne_of_none e HC
      · exact ne_of_none hc HC
  · obtain ⟨f0, f1, f2, f3, f4, f5⟩ := hfp b hb
    exact ⟨f3, f1, f4, f5⟩

section
variable {prog : Program} {w : World} {A : Around} {R : Result → Shared → Prop} {s : Shared}
theorem compLoop_any {elt target iter : Expr} {ifs : List Expr} {scope : Scope} {pos : Pos} {it acc : Value} {env : Env} (I : Nat → Shared → Prop)
    (turn : ∀ n s, I n s → wpAny (model prog w) A (pyNext it) (fun r s₁ => match r with
      | none => R (.ok .next) s₁
      | some v => wpAny (model prog w) A (letOwnedTupleGo target it v) (fun _ s₂ => wpAny (model prog w) A (assign target env v) (fun _ s₂ =>
          wpAny (model prog w) A (forIn ifs true fun c r => if r = true then do let ok ← isTrue c env (eval c env); pure (ForInStep.yield ok) else pure (ForInStep.yield r)) (fun ok s₃ =>
            if ok = true then wpAny (model prog w) A (eval elt env) (fun x s₄ =>
              wpAny (model prog w) A (call (.builtin "list.append") [acc, x]) (fun _ s₅ => ∃ m, m < n ∧ I m s₅) (notedBy (model prog w) A env fun e s' => R (.error e) s') s₄) (notedBy (model prog w) A env fun e s' => R (.error e) s') s₃
            else ∃ m, m < n ∧ I m s₃) (notedBy (model prog w) A env fun e s' => R (.error e) s') s₂) (notedBy (model prog w) A env fun e s' => R (.error e) s') s₂) (notedBy (model prog w) A env fun e s' => R (.error e) s') s₁) (notedBy (model prog w) A env fun e s' => R (.error e) s') s)
    (n : Nat) (h : I n s) :
    codeAny (model prog w) A (.compLoop (.ListComp elt [⟨target, iter, ifs, 0⟩] scope pos) 0 it acc env) R s := by
  refine codeAny_loop rfl I (fun n s hI => ?_) n h
  show wpAny _ A ((compTurn (.ListComp elt [⟨target, iter, ifs, 0⟩] scope pos) 0 it acc env).onRaise (fun x => do noteFrame x env; theTreesLotGoes x)) _ _ s
  refine wpAny_noted ?_
  rw [compTurn_list]
  refine wpAny_bind (wpAny_standAt (wpAny_bind (wpAny_mono (turn n s hI) (fun r s₁ h₁ => ?_) fun _ _ h' => h')))
  cases r with
  | none => exact wpAny_pure h₁
  | some v =>
    refine wpAny_bind (wpAny_mono h₁ (fun _ s₂ h₂ => ?_) fun _ _ h' => h')
    refine wpAny_bind (wpAny_mono h₂ (fun _ s₂ h₂ => wpAny_bind (wpAny_mono h₂ (fun ok s₃ h₃ => ?_) fun _ _ h' => h')) fun _ _ h' => h')
    cases ok with
    | false => exact wpAny_pure ⟨rfl, h₃⟩
    | true =>
      exact wpAny_bind (wpAny_bind (wpAny_mono h₃ (fun x s₄ h₄ => wpAny_bind (wpAny_mono h₄ (fun _ s₅ h₅ => wpAny_pure (wpAny_pure ⟨rfl, h₅⟩)) fun _ _ h' => h')) fun _ _ h' => h'))
end

/-- the tests of a comprehension -/
def PFs (X : Cx) (ifs : List Expr) (t : TT) : Prop :=
  ∀ (pins : List (Addr × Obj)) (s : Shared) (σ : St) (H : Hp) (Q : Bool → Hp → Prop), Inv X pins σ H s → t σ H Q →
    wpAny (model X.prog X.w) X.A (forIn ifs true fun c r => if r = true then do let ok ← isTrue c X.env (eval c X.env); pure (ForInStep.yield ok) else pure (ForInStep.yield r)) (TP X pins σ Q) X.xe s
def tAll : TT := fun _ H Q => Q true H
theorem pf_nil {X : Cx} : PFs X [] tAll := fun _ _ _ H _ I h => wpAny_tests_nil ⟨H, I, h⟩
/-- W: by the turn, a measure, the block's names, the list so far -/
def tComp (imp : List (Option Nat)) (wi : TI) (g : TG) (tt : TT) (te : TE) : TE := fun σ H Q => wi σ H fun J H1 => ∃ W : Nat → Nat → St → List V → Hp → Prop, (∃ m, W 0 m (pull imp σ) [] H1) ∧ ∀ i m σ1 acc H2, W i m σ1 acc H2 →
  (J.stop i H2 ∧ ∀ p, H2 p = none → Q (.ref p) (upd H2 p (.lst acc))) ∨
  (J.go i H2 ∧ acc.length < sizeLine ∧ ∃ Nn : St → List V → Hp → Prop, (∀ σ' acc' H', Nn σ' acc' H' → ∃ m', m' < m ∧ W (i + 1) m' σ' acc' H') ∧
    ∀ x H3, J.yld i H2 x H3 → g x σ1 H3 fun σ2 H4 => tt σ2 H4 fun b H5 => if b = true then te σ2 H5 fun v H6 => Nn σ2 (acc ++ [v]) H6 else Nn σ2 acc H5)

theorem comp_core {X : Cx} {tg iter elt : Expr} {ifs : List Expr} {scope fsc : Scope} {pos : Pos} {N' : List Str} {imp : List (Option Nat)} {g : TG} {tt : TT} {te : TE} {pins : List (Addr × Obj)} {s : Shared} {σ : St} {H : Hp}
    (hc : X.calm = true) (S : CompSc X.N N' fsc scope imp) (hsc : X.env.scope = fsc)
    (hg : ∀ s3 H2 ex, PG (compCx X N' scope s3 H2 ex) tg g) (hf : ∀ s3 H2 ex, PFs (compCx X N' scope s3 H2 ex) ifs tt) (he : ∀ s3 H2 ex, PE (compCx X N' scope s3 H2 ex) elt te)
    {it : Addr} {fp : List Addr} {tn : Nat → Heap → Prop} {J : It} {W : Nat → Nat → St → List V → Hp → Prop} {Q : V → Hp → Prop} {RR : Value → Addr → Result → Shared → Prop}
    (I : Inv X pins σ H s) (T : Turn X.prog X.w X.K tg J fp it tn) (st0 : tn 0 s.heap) (hfp : ∀ b ∈ fp, FpOk X pins H b) (w0 : ∃ m, W 0 m (pull imp σ) [] H)
    (turn : ∀ i m σ1 acc H2, W i m σ1 acc H2 → (J.stop i H2 ∧ ∀ p, H2 p = none → Q (.ref p) (upd H2 p (.lst acc))) ∨
      (J.go i H2 ∧ acc.length < sizeLine ∧ ∃ Nn : St → List V → Hp → Prop, (∀ σ' acc' H', Nn σ' acc' H' → ∃ m', m' < m ∧ W (i + 1) m' σ' acc' H') ∧
        ∀ x H3, J.yld i H2 x H3 → g x σ1 H3 fun σ2 H4 => tt σ2 H4 fun b H5 => if b = true then te σ2 H5 fun v H6 => Nn σ2 (acc ++ [v]) H6 else Nn σ2 acc H5))
    (hR : ∀ (s' : Shared) (C : Addr) (m : Str → Option Value), s'.heap.Ns C m → s.heap.objs.size ≤ C →
      (∀ h2, Heap.SameBut C s'.heap h2 → ∃ H', Inv X pins σ H' { s' with heap := h2 } ∧ H' C = none ∧ Q (.ref s.heap.objs.size) H') → RR (.ref s.heap.objs.size) C (.ok .next) s') {E : Value → Shared → Prop} :
    wpAny (model X.prog X.w) X.A (newList []) (fun acc s₃ => wpAny (model X.prog X.w) X.A (newFunctionEnv scope X.env.globals (clOf scope.names X.env.cells) [] X.env.qual none .none (some X.env)) (fun cenv s₄ =>
      codeAny (model X.prog X.w) X.A (.compStart (.ListComp elt [⟨tg, iter, ifs, 0⟩] scope pos) 0 (.ref it) acc { cenv with scope := relabel scope X.env }) (RR acc cenv.locals) s₄) E s₃) E s := by
  refine wpAny_newObj_type (wpAny_newFunctionEnv S.nocell (by intro y hy; simp at hy) (fun h₁ hns₁ hsb₁ => ?_) S.kind)
  dsimp only at hns₁ hsb₁ ⊢
  have hfo : ∀ b ∈ fp, b < s.heap.objs.size := fun b hb => by
    obtain ⟨o, e, _⟩ := T.obj _ _ st0 b hb
    exact Heap.lt_size e
  have hC : (s.heap.push (lobj [] 0)).objs.size = s.heap.objs.size + 1 := by rw [Heap.size_push]
  have old : ∀ b o, (s.heap.push (lobj [] 0)).get? b = some o → h₁.get? b = some o := fun b o e => hsb₁.extBut b o (Nat.ne_of_lt (Heap.lt_size e)) (Heap.get?_push_of_some _ e)
  have old0 : ∀ b o, s.heap.get? b = some o → h₁.get? b = some o := fun b o e => old b o (Heap.get?_push_of_some _ e)
  have I1 := comp_inv (t := s.toks + ([] : List (Str × Value)).length) I hfp hfo S hsc hns₁ old
  have st1 : tn 0 h₁ := T.keep _ _ _ st0 fun b _ o e => old0 b o e
  -- the iterator's objects and the list may turn within the block
  have stat : ∀ {σ' : St} {pl : List (Addr × Obj)} {H' : Hp} {s' : Shared}, Inv (compCx X N' scope { s with heap := s.heap.push (lobj [] 0) } H (s.heap.objs.size :: fp)) pl σ' H' s' → (∀ p ∈ pl, p.1 = s.heap.objs.size) → (∀ b ∈ fp, H' b = none) →
      ∀ b ∈ fp, FpOk (compCx X N' scope { s with heap := s.heap.push (lobj [] 0) } H (s.heap.objs.size :: fp)) pl H' b := fun {σ' pl H' s'} J0 hpl hn b hb => by
    have z := J0.ok.exf b (List.mem_cons_of_mem _ hb)
    refine ⟨hn b hb, z.1, J0.ok.exfs b (List.mem_cons_of_mem _ hb), .inl (List.mem_cons_of_mem _ hb), z.2, fun p hp => ?_⟩
    have hp' : p ∈ pl := hp
    rw [hpl p hp']
    exact Ne.symm (Nat.ne_of_lt (hfo b hb))
  obtain ⟨m0, w0⟩ := w0
  have ENDS : ∀ (s' : Shared) (σ1 : St) (H1 : Hp) (acc : List V) (its : List Value) (n0 : Nat), Inv (compCx X N' scope { s with heap := s.heap.push (lobj [] 0) } H (s.heap.objs.size :: fp)) [] σ1 H1 s' → H1 s.heap.objs.size = none →
      s'.heap.get? s.heap.objs.size = some (lobj its n0) → Vals acc its → acc.length ≤ sizeLine → (∀ p, H1 p = none → Q (.ref p) (upd H1 p (.lst acc))) → RR (.ref s.heap.objs.size) (s.heap.push (lobj [] 0)).objs.size (.ok .next) s' := by
    intro s' σ1 H1 acc its n0 J1 hD ho hv hl q
    obtain ⟨m, hn, _⟩ := J1.loc
    refine hR s' _ m hn (by rw [hC]; exact Nat.le_succ _) fun h2 hsb => ⟨_, comp_back I hfp J1 hD hsb ho hv hl, ?_, q _ hD⟩
    rw [upd_ne (by rw [hC]; exact Nat.succ_ne_self _)]
    exact J1.free
  have loop : ∀ s₃ : Shared, s₃ = { s with heap := h₁, toks := s.toks + ([] : List (Str × Value)).length } →
      codeAny (model X.prog X.w) X.A (.compLoop (.ListComp elt [⟨tg, iter, ifs, 0⟩] scope pos) 0 (.ref it) (.ref s.heap.objs.size) (compEnvC scope (clOf scope.names X.env.cells) (s.heap.push (lobj [] 0)).objs.size X.env))
        (RR (.ref s.heap.objs.size) (s.heap.push (lobj [] 0)).objs.size) s₃ := by
    rintro s₃ rfl
    refine compLoop_any (fun n s' => ∃ i σ1 acc its n0 H1, Inv (compCx X N' scope { s with heap := s.heap.push (lobj [] 0) } H (s.heap.objs.size :: fp)) [] σ1 H1 s' ∧ tn i s'.heap ∧ (∀ b ∈ fp, H1 b = none) ∧ H1 s.heap.objs.size = none ∧
      s'.heap.get? s.heap.objs.size = some (lobj its n0) ∧ Vals acc its ∧ acc.length ≤ sizeLine ∧ W i n σ1 acc H1) ?_ m0
      ⟨0, pull imp σ, [], [], 0, H, I1, st1, fun b hb => (hfp b hb).1, I.hok.fresh (Nat.le_refl _), old _ _ (Heap.get?_push_size _ rfl), .nil, Nat.zero_le _, w0⟩
    rintro n s' ⟨i, σ1, acc, its, n0, H1, J1, st, fr, hD, ho, hv, hl, w⟩
    rcases turn i n σ1 acc H1 w with ⟨stop, qn⟩ | ⟨go, hlt, Nn, hN, step⟩
    · -- the end
      have P1 := J1.pins_of (pins' := [(s.heap.objs.size, lobj its n0)]) fun p hp => by
        have e : p = (s.heap.objs.size, lobj its n0) := by simpa using hp
        subst e
        exact ⟨ho, hD, (J1.ok.exf _ List.mem_cons_self).1, J1.ok.exfs _ List.mem_cons_self, fun v z => by have z' : Data.seq its.toArray n0 = Data.cell v := z; cases z'⟩
      have hpl : ∀ p ∈ [(s.heap.objs.size, lobj its n0)], p.1 = s.heap.objs.size := fun p hp => by
        have e : p = (s.heap.objs.size, lobj its n0) := by simpa using hp
        rw [e]
      refine thn (T.done (compCx X N' scope { s with heap := s.heap.push (lobj [] 0) } H (s.heap.objs.size :: fp)) rfl rfl rfl hc i _ s' σ1 H1 _ P1 (stat P1 hpl fr) st stop) fun r s1 ⟨hr, J2⟩ => ?_
      subst hr
      exact ENDS s1 σ1 H1 acc its n0 (J2.pins_of fun p hp => absurd hp (by simp)) hD (J2.pin (s.heap.objs.size, lobj its n0) (by simp [compCx])).1 hv hl qn
    · have hpl : ∀ p ∈ [(s.heap.objs.size, lobj its n0)], p.1 = s.heap.objs.size := fun p hp => by
        have e : p = (s.heap.objs.size, lobj its n0) := by simpa using hp
        rw [e]
      have P1 := J1.pins_of (pins' := [(s.heap.objs.size, lobj its n0)]) fun p hp => by
        have e : p = (s.heap.objs.size, lobj its n0) := by simpa using hp
        subst e
        exact ⟨ho, hD, (J1.ok.exf _ List.mem_cons_self).1, J1.ok.exfs _ List.mem_cons_self, fun v z => by have z' : Data.seq its.toArray n0 = Data.cell v := z; cases z'⟩
      refine thn (T.item (compCx X N' scope { s with heap := s.heap.push (lobj [] 0) } H (s.heap.objs.size :: fp)) rfl rfl rfl hc i _ s' σ1 H1 _ P1 (stat P1 hpl fr) st go) fun r s1 ⟨u, hr, h1⟩ => ?_
      subst hr
      refine thn h1 fun _ s2 ⟨x, H2, J2, rx, y2, st2, fr2⟩ => ?_
      have J2' := J2.pinned (stat J2 hpl fr2) (T.obj _ _ st2)
      -- what is true at the end of a turn
      have pinD : ∀ {σ7 : St} {H7 : Hp} {s7 : Shared}, Inv (compCx X N' scope { s with heap := s.heap.push (lobj [] 0) } H (s.heap.objs.size :: fp)) ([(s.heap.objs.size, lobj its n0)] ++ pinsAt fp s2.heap) σ7 H7 s7 →
          s7.heap.get? s.heap.objs.size = some (lobj its n0) ∧ H7 s.heap.objs.size = none ∧ tn (i + 1) s7.heap ∧ ∀ b ∈ fp, H7 b = none := fun {σ7 H7 s7} J7 => by
        have z := J7.pin (s.heap.objs.size, lobj its n0) (List.mem_append_right _ (List.mem_append_left _ (List.mem_singleton.mpr rfl)))
        refine ⟨z.1, z.2.1, T.keep _ _ _ st2 fun b hb o e => (J7.pin (b, o) (List.mem_append_right _ (List.mem_append_right _ (mem_pinsAt hb e)))).1, fun b hb => ?_⟩
        obtain ⟨o, e, d⟩ := T.obj _ _ st2 b hb
        exact (J7.pin (b, o) (List.mem_append_right _ (List.mem_append_right _ (mem_pinsAt hb e)))).2.1
      refine wpAny_mono (hg _ _ _ _ s2 σ1 H2 x u _ J2' rx (step x H2 y2)) (fun _ s3 ⟨σ3, H3, J3, q3⟩ => ?_) fun _ _ z => False.elim z
      refine wpAny_mono (hf _ _ _ _ s3 σ3 H3 _ J3 q3) (fun b s4 ⟨H4, J4, q4⟩ => ?_) fun _ _ z => False.elim z
      cases b with
      | false =>
        rw [if_neg Bool.false_ne_true] at q4
        rw [if_neg Bool.false_ne_true]
        obtain ⟨m', hm, w4⟩ := hN _ _ _ q4
        obtain ⟨a1, a2, a3, a4⟩ := pinD J4
        exact ⟨m', hm, i + 1, σ3, acc, its, n0, H4, J4.pins_of fun p hp => absurd hp (by simp), a3, a4, a2, a1, hv, hl, w4⟩
      | true =>
        rw [if_pos rfl] at q4
        rw [if_pos rfl]
        refine wpAny_mono (he _ _ _ _ s4 σ3 H4 _ J4 q4) (fun uv s5 ⟨v, H5, J5, r5, q5⟩ => ?_) fun _ _ z => False.elim z
        obtain ⟨m', hm, w5⟩ := hN _ _ _ q5
        obtain ⟨a1, a2, a3, a4⟩ := pinD J5
        have hlen := hv.length
        refine call_meets F.slot_list_append ⟨_, a1, rfl⟩ F.entry_list_append (F.args_list_append_2 _ _) (PySem.list_append s.heap.objs.size its.toArray n0 uv (by rw [List.size_toArray]; omega)) ⟨a1, ?_⟩
        have qU := PySem.IsL.update a1 (·.push uv)
        have hex := J5.ok.exf _ (List.mem_cons_self (a := s.heap.objs.size) (l := fp))
        have keepU : ∀ b o, b ≠ s.heap.objs.size → s5.heap.get? b = some o → (s5.heap.update s.heap.objs.size (Obj.mapSeq (·.push uv))).get? b = some o := fun b o hb e => (Heap.get?_update_other s5.heap _ (Ne.symm hb)).trans e
        have J6 : Inv (compCx X N' scope { s with heap := s.heap.push (lobj [] 0) } H (s.heap.objs.size :: fp)) [] σ3 H5 { s5 with heap := s5.heap.update s.heap.objs.size (Obj.mapSeq (·.push uv)), toks := s5.toks } :=
          (J5.pins_of (pins' := []) fun p hp => absurd hp (by simp)).turned keepU a2 hex.1 (.inl List.mem_cons_self) hex.2 (fun p hp => absurd (show p ∈ ([] : List (Addr × Obj)) from hp) (by simp))
        refine ⟨m', hm, i + 1, σ3, acc ++ [v], its ++ [uv], _, H5, J6, T.keep _ _ _ a3 fun b hb o e => keepU b o (Nat.ne_of_lt (hfo b hb)) e, a4, a2, by simpa using qU, hv.append (.cons r5 .nil), ?_, w5⟩
        rw [List.length_append, List.length_singleton]
        omega
  exact codeAny_compStart_list (loop _ rfl) (T.self _ 0 _ _ _ st1 (loop _ rfl))

theorem compSc_cells {X : Cx} {N' : List Str} {fsc scope : Scope} {imp : List (Option Nat)} {pins : List (Addr × Obj)} {s : Shared} {σ : St} {H : Hp} (I : Inv X pins σ H s) (S : CompSc X.N N' fsc scope imp) (hsc : X.env.scope = fsc) :
    closureFor scope X.env = pure (clOf scope.names X.env.cells) := closure_of fun x hx e => by
  subst hsc
  obtain ⟨c, hc⟩ := I.ok.has x.1 (S.free x hx e)
  rw [hc]
  rfl

/-- [elt for tg in iter if c] -/
theorem pe_comp {X : Cx} {tg iter elt : Expr} {ifs : List Expr} {scope fsc : Scope} {pos : Pos} {N' : List Str} {imp : List (Option Nat)} {wi : TI} {g : TG} {tt : TT} {te : TE}
    (S : CompSc X.N N' fsc scope imp) (hi : PI X tg iter wi)
    (hg : ∀ s3 H2 ex, PG (compCx X N' scope s3 H2 ex) tg g) (hf : ∀ s3 H2 ex, PFs (compCx X N' scope s3 H2 ex) ifs tt) (he : ∀ s3 H2 ex, PE (compCx X N' scope s3 H2 ex) elt te)
    (hc : X.calm = true := by rfl) (hsc : X.env.scope = fsc := by rfl) (hs : ∀ x, foldedSetIterable iter X.env x = pure x := by intro _; rfl) : PE X (.ListComp elt [⟨tg, iter, ifs, 0⟩] scope pos) (tComp imp wi g tt te) := by
  intro pins s σ H Q I h
  rw [eval_ListComp]
  refine wpAny_comprehension_free (use := none) rfl hs (compSc_cells I S hsc) S.kind S.names (thn (hi pins s σ H _ I h) fun xv s₁ h₁ => thn h₁ fun itv s₂ h₂ => ?_)
  obtain ⟨it, fp, tn, J, H2, e, I2, T, st2, f2, W, w0, turn⟩ := h₂
  subst e
  refine comp_core (RR := fun acc C => compPost (model X.prog X.w) X.A X.xe none (EP X pins σ Q) acc C) hc S hsc hg hf he I2 T st2 f2 w0 turn ?_
  intro s' C m hn _ k
  exact ⟨m, hn, fun h2 hsb => let ⟨H', J', _, q⟩ := k h2 hsb; ⟨V.ref s₂.heap.objs.size, H', J', rfl, q⟩⟩

/-- name = [elt for tg in iter if c], on one line -/
theorem ps_setcomp {X : Cx} {i : Nat} {y : Str} {tg iter elt : Expr} {ifs : List Expr} {scope fsc : Scope} {pos py spos : Pos} {N' : List Str} {imp : List (Option Nat)} {wi : TI} {g : TG} {tt : TT} {te : TE}
    (hN : X.N.Nodup) (hyi : X.N[i]? = some y) (hy : X.env.scope.names.lookup y = some .local) (S : CompSc X.N N' fsc scope imp) (hi : PI X tg iter wi)
    (hg : ∀ s3 H2 ex, PG (compCx X N' scope s3 H2 ex) tg g) (hf : ∀ s3 H2 ex, PFs (compCx X N' scope s3 H2 ex) ifs tt) (he : ∀ s3 H2 ex, PE (compCx X N' scope s3 H2 ex) elt te)
    (hsw : swapsWith (.ListComp elt [⟨tg, iter, ifs, 0⟩] scope pos) (some (.Name y py)) spos.line X.env = pure true := by rfl)
    (hc : X.calm = true := by rfl) (hsc : X.env.scope = fsc := by rfl) (hs : ∀ x, foldedSetIterable iter X.env x = pure x := by intro _; rfl) :
    PS X (.Assign [.Name y py] (.ListComp elt [⟨tg, iter, ifs, 0⟩] scope pos) spos) (tAsg (tComp imp wi g tt te) (gName i)) := by
  intro pins s σ H D I h
  rw [exec_Assign_Name_used _ _ _ _ hsw]
  refine wpAny_bind (wpAny_standAt (wpAny_bind ?_))
  show wpAny _ _ (do let _ ← comprehension (.ListComp elt [⟨tg, iter, ifs, 0⟩] scope pos) scope X.env _ (newList []) false (eval iter X.env) (some (assign (.Name y py) X.env))) _ _ s
  refine wpAny_bind (wpAny_mono (wpAny_comprehension_free (use := some (assign (.Name y py) X.env)) (Q := fun _ s' => SP X pins D .next s') rfl hs (compSc_cells I S hsc) S.kind S.names
    (thn (hi pins s σ H _ I h) fun xv s₁ h₁ => thn h₁ fun itv s₂ h₂ => ?_)) (fun _ s' hq => wpAny_pure (wpAny_pure hq)) fun _ _ e => e)
  obtain ⟨it, fp, tn, J, H2, e, I2, T, st2, f2, W, w0, turn⟩ := h₂
  subst e
  refine comp_core (Q := fun v H' => gName i v σ H' D.nx) (RR := fun acc C => compPost (model X.prog X.w) X.A X.xe (some (assign (.Name y py) X.env)) (fun _ s' => SP X pins D .next s') acc C) hc S hsc hg hf he I2 T st2 f2 w0 turn ?_
  intro s' C m hn hCne k
  show wpAny _ _ (assign (.Name y py) X.env (.ref s₂.heap.objs.size)) _ _ s'
  obtain ⟨H0, J0, hC0, q0⟩ := k s'.heap (.refl ..)
  have J0' : Inv X pins σ H0 s' := J0
  refine wpAny_assign_Name (store_ok2 J0' hN hyi (.inl hy) (show RelV (.ref s₂.heap.objs.size) (.ref s₂.heap.objs.size) from rfl) (fun s3 J3 hch => ?_) (.inr hy))
  obtain ⟨a, hsa, ha⟩ := hch
  obtain ⟨f0, f1, f2', f3, f4, f5⟩ := I2.fpOk hCne hC0
  have haC : a ≠ C := by
    rcases ha with rfl | ha
    · exact Ne.symm f1
    · exact f4 _ _ ha
  have hn3 : s3.heap.Ns C m := hn.sameBut hsa (Ne.symm haC)
  refine ⟨m, hn3, fun h2 hsb => ?_⟩
  exact ⟨_, H0, J3.turned (fun b o hb e => (hsb.2 b hb).trans e) hC0 f1 f3 f4 f5, q0⟩
end L2

namespace L2
open PySem PySem.Spec PyProof.Rows
open Sem (wp)

/-! ### keys as they lie in the heap -/
def KAt (P : Program) (w : World) (h : Heap) : KD → Value → Prop
  | .inl k, u => keyIs k u = true
  | .inr ks, u => ∃ b, u = Value.ref b ∧ IsTupleKey (mixKind P w) h ks b
def drawsX : KD → Nat
  | .inl _ => 1
  | .inr ks => ks.length + 1
section
variable {P : Program} {w : World} {A : Around} {E : Value → Shared → Prop} {s : Shared}
theorem KAt.inj {h : Heap} {x y : KD} {u : Value} (hx : KAt P w h x u) (hy : KAt P w h y u) : x = y := by
  cases x with
  | inl k =>
    cases y with
    | inl j => exact congrArg Sum.inl ((mixKind P w).inj u k j hx hy)
    | inr js =>
      obtain ⟨b, rfl, _⟩ := hy
      rcases keyIs_shape hx with ⟨i, t, _, e⟩ | ⟨i, t, _, e⟩ <;> cases e
  | inr ks =>
    obtain ⟨b, rfl, hb⟩ := hx
    cases y with
    | inl j => rcases keyIs_shape hy with ⟨i, t, _, e⟩ | ⟨i, t, _, e⟩ <;> cases e
    | inr js =>
      obtain ⟨c, e, hc⟩ := hy
      cases e
      exact congrArg Sum.inr (hb.inj hc)
theorem KAt.pyHash {k : KD} {u : Value} {Q : Int → Shared → Prop} (hu : A.units < cLine) (hk : KAt P w s.heap k u) (h : Q (hashX P w k) { s with toks := s.toks + drawsX k }) : wpAny (model P w) A (PySem.pyHash u) Q E s := by
  cases k with
  | inl k => exact (mixKind P w).pyHash hk h
  | inr ks =>
    obtain ⟨b, rfl, hb⟩ := hk
    exact (tupleKind (mixKind P w)).pyHash hu hb h
theorem IsTupleKey.isTuple {knd : PySem.KeyKind P w Key} {h : Heap} {ks : List Key} {a : Addr} (x : IsTupleKey knd h ks a) : ∃ items, h.IsTuple a items := by
  obtain ⟨o, items, n, ho, hc, hd, _⟩ := x
  exact ⟨items, o, ho, hc, n, hd⟩
theorem KAt.eqBool {x y : KD} {u v : Value} {Q : Bool → Shared → Prop} (hu : A.units < cLine) (hx : KAt P w s.heap x u) (hy : KAt P w s.heap y v) (h : Q (decide (x = y)) s) : wpAny (model P w) A (PySem.eqBool u v) Q E s := by
  cases x with
  | inl k =>
    cases y with
    | inl j =>
      refine (mixKind P w).eqBool hx hy ?_
      have e : decide ((Sum.inl k : KD) = Sum.inl j) = decide (k = j) := by
        by_cases z : k = j
        · rw [z, decide_eq_true rfl, decide_eq_true rfl]
        · rw [decide_eq_false z, decide_eq_false (fun q => z (Sum.inl.inj q))]
      rw [← e]; exact h
    | inr js =>
      obtain ⟨b, rfl, hb⟩ := hy
      obtain ⟨items, hi⟩ := IsTupleKey.isTuple hb
      rw [decide_eq_false (fun q => nomatch q)] at h
      rcases keyIs_shape hx with ⟨i, t, _, e⟩ | ⟨i, t, _, e⟩
      · subst e; exact SeqAt.EqAt.int_tuple i t hi hu _ _ _ _ h
      · subst e; exact SeqAt.EqAt.str_tuple i t hi hu _ _ _ _ h
  | inr ks =>
    obtain ⟨b, rfl, hb⟩ := hx
    cases y with
    | inl j =>
      obtain ⟨items, hi⟩ := IsTupleKey.isTuple hb
      rw [decide_eq_false (fun q => nomatch q)] at h
      rcases keyIs_shape hy with ⟨i, t, _, e⟩ | ⟨i, t, _, e⟩
      · subst e; exact SeqAt.EqAt.tuple_int i t hi hu _ _ _ _ h
      · subst e; exact SeqAt.EqAt.tuple_str i t hi hu _ _ _ _ h
    | inr js =>
      obtain ⟨c, rfl, hc⟩ := hy
      refine wpAny_eqBool_tuple hu hb hc ?_
      have e : decide ((Sum.inr ks : KD) = Sum.inr js) = decide (ks = js) := by
        by_cases z : ks = js
        · rw [z, decide_eq_true rfl, decide_eq_true rfl]
        · rw [decide_eq_false z, decide_eq_false (fun q => z (Sum.inr.inj q))]
      rw [← e]; exact h
theorem KAt.quiet {k : KD} {u : Value} {Q : Bool → Shared → Prop} (hk : KAt P w s.heap k u) (h : Q true s) : wpAny (model P w) A (eqIsQuiet 8 u) Q E s := by
  cases k with
  | inl k => rw [eqIsQuiet_byValue _ ((mixKind P w).byValue k u hk)]; exact wpAny_pure h
  | inr ks =>
    obtain ⟨b, rfl, hb⟩ := hk
    exact wpAny_eqIsQuiet_tuple hb h
theorem KAt.strs {h : Heap} {k k' : KD} {x : Str} {t : Tok} {v : Value} (hk : KAt P w h k (.str x t)) (hv : KAt P w h k' v) : v.isStr x = decide (k' = k) := by
  cases k with
  | inr ks => obtain ⟨b, e, _⟩ := hk; cases e
  | inl k =>
    have hs := (mixKind P w).strs k x t v hk
    cases k' with
    | inr ks =>
      obtain ⟨b, rfl, _⟩ := hv
      rw [decide_eq_false (fun q => nomatch q)]
      rfl
    | inl j =>
      rw [← hs]
      show (mixKind P w).is k v = _
      rw [KeyKind.is_eq_decide (knd := mixKind P w) hv k]
      by_cases z : k = j
      · rw [z, decide_eq_true rfl, decide_eq_true rfl]
      · rw [decide_eq_false z, decide_eq_false (fun q => z (Sum.inl.inj q).symm)]
theorem KAt.keeps {h h' : Heap} {k : KD} {u : Value} {d : Addr} {o : Obj} {es ep} (x : KAt P w h k u) (ho : h.get? d = some o) (hd : o.data = .dict es ep) (hs : Heap.SameBut d h h') : KAt P w h' k u := by
  cases k with
  | inl k => exact x
  | inr ks => obtain ⟨b, rfl, hb⟩ := x; exact ⟨b, rfl, hb.keeps ho hd hs⟩

/-! ### the table -/
abbrev Tab := List (KD × Value × Value)
end
end L2

namespace L2
open PySem PySem.Spec PyProof.Rows
open Sem (wp)

/-! ### what a table holds, and a store -/
def atX (xs : Tab) (k : KD) : Option (Value × Value) := (xs.find? fun x => decide (x.1 = k)).map (·.2)
def putX (k : KD) (v : Value) (x : KD × Value × Value) : KD × Value × Value := if x.1 = k then (x.1, x.2.1, v) else x
def stoX (xs : Tab) (k : KD) (u v : Value) : Tab := if (atX xs k).isSome then xs.map (putX k v) else xs ++ [(k, u, v)]
section
variable {P : Program} {w : World} {A : Around} {E : Value → Shared → Prop} {s : Shared}
/-- the dict at d, its epoch, its table -/
def DX (P : Program) (w : World) (h : Heap) (d : Addr) (ep : Nat) (xs : Tab) : Prop :=
  ∃ o es, h.get? d = some o ∧ o.ExactDict ∧ o.data = .dict es ep ∧ es.toList = xs.map (entX P w) ∧ (∀ x ∈ xs, KAt P w h x.1 x.2.1) ∧ (xs.map (·.1)).Nodup
theorem DX.typeIs {d : Addr} {ep : Nat} {xs : Tab} (m : DX P w s.heap d ep xs) : s.TypeIs (.ref d) "dict" := let ⟨o, _, ho, hc, _⟩ := m; ⟨o, ho, hc.1⟩
/-! ### the operations -/
end
end L2

namespace L2
open PySem
open Sem (wp)
/-! ### the keys, the values of a dict, one after another (by its entries alone) -/
section
variable {P : Program} {w : World} {A : Around} {E : Value → Shared → Prop} {s : Shared}
def RawD (h : Heap) (d : Addr) (es : Array DictEntry) (ep : Nat) : Prop := ∃ o, h.get? d = some o ∧ o.ExactDict ∧ o.data = .dict es ep
theorem RawD.typeIs {d : Addr} {es ep} (m : RawD s.heap d es ep) : s.TypeIs (.ref d) "dict" := let ⟨o, ho, hc, _⟩ := m; ⟨o, ho, hc.1⟩
end
end L2

namespace L2
open PySem PySem.Spec PyProof.Rows
open Sem (wp)

/-! ### the pairs of a dict, one after another (by its entries alone) -/
section
variable {P : Program} {w : World} {A : Around} {E : Value → Shared → Prop} {s : Shared}
theorem DX.raw {h : Heap} {d : Addr} {ep : Nat} {xs : Tab} (m : DX P w h d ep xs) : ∃ es, RawD h d es ep ∧ es.toList = xs.map (entX P w) := let ⟨o, es, ho, hc, hd, he, _⟩ := m; ⟨es, ⟨o, ho, hc, hd⟩, he⟩

end
end L2

namespace L2
open PySem PySem.Spec PyProof.Rows
open Sem (wp)

/-! ### tracked dicts -/
/-- a value that is the key k -/
def KeyV (H : Hp) : KD → V → Prop
  | .inl k, y => y = kV k
  | .inr ks, y => ∃ b, y = .ref b ∧ H b = some (.tup (ks.map kV))
theorem KeyV.u {H : Hp} {k : KD} {y : V} {u : Value} (x : KeyV H k y) (r : RelV y u) : KeyU H k u := by
  cases k with
  | inl k =>
    cases (show y = kV k from x)
    cases k with
    | inl i => obtain ⟨t, rfl⟩ := r; exact keyIs_int i t
    | inr z => obtain ⟨t, rfl⟩ := r; exact keyIs_str z t
  | inr ks =>
    obtain ⟨b, rfl, e⟩ := x
    cases r
    exact ⟨b, rfl, e⟩
theorem KeyU.v {H : Hp} {k : KD} {u : Value} (x : KeyU H k u) : ∃ y, KeyV H k y ∧ RelV y u := by
  cases k with
  | inl k =>
    rcases keyIs_shape x with ⟨i, t, rfl, rfl⟩ | ⟨i, t, rfl, rfl⟩
    · exact ⟨.int i, rfl, t, rfl⟩
    · exact ⟨.str i, rfl, t, rfl⟩
  | inr ks =>
    obtain ⟨b, rfl, e⟩ := x
    exact ⟨.ref b, ⟨b, rfl, e⟩, rfl⟩
theorem KeyV.mono {H H' : Hp} {k : KD} {y : V} (x : KeyV H k y) (ht : ∀ b xs, H b = some (.tup xs) → H' b = some (.tup xs)) : KeyV H' k y := by
  cases k with
  | inl k => exact x
  | inr ks => obtain ⟨b, e1, e2⟩ := x; exact ⟨b, e1, ht _ _ e2⟩
theorem KeyU.mono {H H' : Hp} {k : KD} {y : Value} (x : KeyU H k y) (ht : ∀ b xs, H b = some (.tup xs) → H' b = some (.tup xs)) : KeyU H' k y := by
  cases k with
  | inl k => exact x
  | inr ks => obtain ⟨b, e1, e2⟩ := x; exact ⟨b, e1, ht _ _ e2⟩
section
variable {P : Program} {w : World} {H : Hp} {h : Heap} {a : Addr} {ep : Nat} {kvs : List (KD × V)} {xs : Tab}
theorem KX.length (r : KX H kvs xs) : kvs.length = xs.length := Paired.length r
theorem KX.mono {H' : Hp} (r : KX H kvs xs) (ht : ∀ b xs, H b = some (.tup xs) → H' b = some (.tup xs)) : KX H' kvs xs := Paired.mapP r fun p q z => ⟨z.1, z.2.1.mono ht, z.2.2⟩
theorem KX.val (r : KX H kvs xs) (k : KD) : RelO (valV kvs k) ((atX xs k).map (·.2)) := by
  induction r with
  | nil => exact trivial
  | @cons p q l m z t ih =>
    by_cases e : p.1 = k
    · have e' : q.1 = k := z.1 ▸ e
      have b : atX (q :: m) k = some q.2 := by simp [atX, List.find?_cons, e']
      rw [valV_pos e, b]
      exact z.2.2
    · have e' : ¬ q.1 = k := z.1 ▸ e
      have b : atX (q :: m) k = atX m k := by simp [atX, List.find?_cons, e']
      rw [valV_neg e, b]
      exact ih
theorem relO_some {o : Option V} {q : Option Value} (r : RelO o q) : o.isSome = q.isSome := by
  cases o <;> cases q <;> first | rfl | exact False.elim r
theorem KX.isSome (r : KX H kvs xs) (k : KD) : (valV kvs k).isSome = (atX xs k).isSome := by
  rw [relO_some (r.val k)]
  cases atX xs k <;> rfl
theorem KX.put (r : KX H kvs xs) {k : KD} {u v : Value} {y : V} (hk : KeyU H k u) (ry : RelV y v) : KX H (putK kvs k y) (stoX xs k u v) := by
  have e : (kvs.any fun kv => decide (kv.1 = k)) = (atX xs k).isSome := by rw [valV_any, r.isSome]
  unfold putK stoX
  rw [e]
  cases (atX xs k).isSome with
  | true =>
    rw [if_pos rfl, if_pos rfl]
    clear e
    induction r with
    | nil => exact .nil
    | @cons p q l m z t ih =>
      refine .cons ?_ ih
      by_cases e : p.1 = k
      · have e' : q.1 = k := z.1 ▸ e
        dsimp only
        rw [if_pos e]
        unfold putX
        rw [if_pos e']
        exact ⟨z.1, z.2.1, ry⟩
      · have e' : ¬ q.1 = k := z.1 ▸ e
        dsimp only
        rw [if_neg e]
        unfold putX
        rw [if_neg e']
        exact z
  | false =>
    rw [if_neg Bool.false_ne_true, if_neg Bool.false_ne_true]
    exact Paired.snoc r ⟨rfl, hk, ry⟩
end
section
variable {X : Cx} {pins : List (Addr × Obj)} {σ : St} {H : Hp} {s : Shared} {a : Addr} {ep : Nat} {kvs : List (KD × V)}
theorem Inv.bigX (I : Inv X pins σ H s) : sysModules < s.heap.objs.size := by
  have h : mainGlobals < s.heap.objs.size := (I.mod.glob.keeps I.bk).lt
  exact Nat.lt_trans (by decide) h
end

/-! ### the rules -/
/-- {} -/
def tXNew : TE := fun _ H Q => ∀ p, H p = none → Q (.ref p) (upd H p (.dX 0 []))
theorem pe_xnew {X : Cx} {pos : Pos} : PE X (.Dict [] [] pos) tXNew := fun pins s σ H Q I h =>
  wpAny_Dict_empty ⟨.ref s.heap.objs.size, _, I.laid (a := s.heap.objs.size) (o := .dX 0 []) (t' := s.toks) (fun _ _ q => Heap.get?_push_of_some _ q) (Nat.le_refl _)
    ⟨Nat.zero_le _, beq_eq_false_iff_ne.mpr (Ne.symm (Nat.ne_of_lt I.bigX)), [], .nil, _, #[], Heap.get?_push_size _ rfl, ⟨rfl, rfl, rfl⟩, rfl, rfl, List.nodup_nil⟩, rfl, h _ (I.hok.fresh (Nat.le_refl _))⟩
section
variable {X : Cx} {o i e f value : Expr} {td ty tv tx : TE} {pos pos' apos cpos : Pos}
/-- d[k] -/
def rXGet : R2 := fun x y H Q => ∃ a ep kvs k v, x = .ref a ∧ H a = some (.dX ep kvs) ∧ KeyV H k y ∧ valV kvs k = some v ∧ Q v H
/-- k in d -/
def rXIn (neg : Bool) : R2 := fun y x H Q => ∃ a ep kvs k, x = .ref a ∧ H a = some (.dX ep kvs) ∧ KeyV H k y ∧ Q (.bl (xor neg (valV kvs k).isSome)) H
/-- d[k] = v -/
def rXPut : TSet := fun o i v H Q => ∃ a ep kvs k, o = .ref a ∧ H a = some (.dX ep kvs) ∧ KeyV H k i ∧ kvs.length < sizeLine ∧ Q (upd H a (.dX (if (valV kvs k).isSome then ep else ep + 1) (putK kvs k v)))
/-- d.get(k, x), d.get(k) -/
def rXGet2 : V → List V → Hp → VK → Prop := fun x vs H Q => ∃ a ep kvs k y z, x = .ref a ∧ vs = [y, z] ∧ H a = some (.dX ep kvs) ∧ KeyV H k y ∧ Q ((valV kvs k).getD z) H
def rXGet1 : V → List V → Hp → VK → Prop := fun x vs H Q => ∃ a ep kvs k y, x = .ref a ∧ vs = [y] ∧ H a = some (.dX ep kvs) ∧ KeyV H k y ∧ Q ((valV kvs k).getD .non) H
/-- d.clear() -/
def rXClear : V → List V → Hp → VK → Prop := fun x vs H Q => ∃ a ep kvs, x = .ref a ∧ vs = [] ∧ H a = some (.dX ep kvs) ∧ Q .non (upd H a (.dX (ep + 1) []))
end

/-! ### for k, v in d.items() -/
def viewO (v d : Addr) : HO := .ext fun h => h.IsItemsView v d
/-- d.items() -/
def rItems : V → List V → Hp → VK → Prop := fun x vs H Q => ∃ a ep kvs, x = .ref a ∧ vs = [] ∧ H a = some (.dX ep kvs) ∧ ∀ p, H p = none → Q (.ref p) (upd H p (viewO p a))
/-- the pairs, at turn i -/
def Itd (a : Addr) (ep n : Nat) : It :=
  ⟨fun i H => ∃ kvs kv, H a = some (.dX ep kvs) ∧ kvs.length = n ∧ kvs[i]? = some kv,
   fun i H x H' => ∃ p, x = .ref p ∧ H p = none ∧ ∃ kvs k v y, H a = some (.dX ep kvs) ∧ kvs[i]? = some (k, v) ∧ KeyV H k y ∧ H' = upd H p (.tup [y, v]),
   fun i H => (∃ kvs, H a = some (.dX ep kvs) ∧ kvs.length = n) ∧ n ≤ i⟩
theorem KX.at {H : Hp} : ∀ {kvs : List (KD × V)} {xs : Tab} {i : Nat} {kv : KD × V}, KX H kvs xs → kvs[i]? = some kv → ∃ u v, xs[i]? = some (kv.1, u, v) ∧ KeyU H kv.1 u ∧ RelV kv.2 v
  | _, _, _, _, .nil, e => by simp at e
  | _, _, 0, _, .cons (b := q) z t, e => by
    simp at e; subst e
    exact ⟨q.2.1, q.2.2, by simp [z.1], z.2.1, z.2.2⟩
  | _, _, i + 1, kv, .cons _ t, e => by
    obtain ⟨u, v, h1, h2⟩ := KX.at (i := i) (kv := kv) t (by simpa using e)
    exact ⟨u, v, by simpa using h1, h2⟩
end L2

namespace L2
open PySem PySem.Spec PyProof.Rows
open Sem (wp)
open PySem.W (KdxIt KdxSt)

/-! ### list(d.items()), by the dict's entries alone -/
abbrev pairO (e : DictEntry) : Obj := { cls := .type "tuple", data := .seq #[e.key, e.val] }
section
variable {P : Program} {w : World} {A : Around} {E : Value → Shared → Prop} {s : Shared} {it d a : Addr} {f : Bool} {i ep : Nat} {es : Array DictEntry} {ok ov : Value}
end

/-- the pairs made so far -/
structure PrG (es : Array DictEntry) (lo : Addr) (h : Heap) (as : List Addr) : Prop where
  rise : as.Pairwise (· < ·)
  above : ∀ a ∈ as, lo < a
  pairs : ∀ (j : Nat) (a : Addr), as[j]? = some a → ∃ e, es[j]? = some e ∧ h.get? a = some (pairO e)
theorem PrG.there {es : Array DictEntry} {lo : Addr} {h : Heap} {as : List Addr} (g : PrG es lo h as) {a : Addr} (ha : a ∈ as) : a < h.objs.size := by
  obtain ⟨j, hj⟩ := List.mem_iff_getElem?.mp ha
  obtain ⟨_, _, e⟩ := g.pairs j a hj
  exact Heap.lt_size e
theorem RawD.keep {h h' : Heap} {d : Addr} {es : Array DictEntry} {ep : Nat} (m : RawD h d es ep) (k : ∀ o, h.get? d = some o → h'.get? d = some o) : RawD h' d es ep := let ⟨o, ho, r⟩ := m; ⟨o, k o ho, r⟩
theorem RawD.lt {h : Heap} {d : Addr} {es : Array DictEntry} {ep : Nat} (m : RawD h d es ep) : d < h.objs.size := let ⟨_, ho, _⟩ := m; Heap.lt_size ho
section
variable {P : Program} {w : World} {A : Around} {s : Shared} {R : Result → Shared → Prop} {es : Array DictEntry} {ep : Nat}
abbrev lst0 (acc : Array Value) (c : Nat) : Obj := { cls := .type "list", dict := none, data := .seq acc c, slots := #[] }
end
section
variable {P : Program} {w : World} {A : Around} {E : Value → Shared → Prop} {s : Shared} {r d : Addr} {es : Array DictEntry} {ep : Nat}
end
end L2

namespace L2
open PySem PySem.Spec PyProof.Rows
open Sem (wp)

/-! ### several new objects at once -/
def updL (H : Hp) : List (Addr × HO) → Hp
  | [] => H
  | (a, o) :: r => upd (updL H r) a o
/-- the pairs of a dict as tuples -/
def PairsAt (H : Hp) : List (KD × V) → List V → Prop := Paired fun kv v => ∃ p y, v = .ref p ∧ H p = some (.tup [y, kv.2]) ∧ KeyV H kv.1 y
theorem PairsAt.mono {H H' : Hp} {kvs : List (KD × V)} {vs : List V} (h : PairsAt H kvs vs) (ht : ∀ b xs, H b = some (.tup xs) → H' b = some (.tup xs)) : PairsAt H' kvs vs :=
  Paired.mapP h fun kv v ⟨p, y, e, hp, hk⟩ => ⟨p, y, e, ht _ _ hp, hk.mono ht⟩
theorem Paired.get {α β : Type} {F : α → β → Prop} : ∀ {l : List α} {m : List β} {i : Nat} {a : α}, Paired F l m → l[i]? = some a → ∃ b, m[i]? = some b ∧ F a b
  | _, _, _, _, .nil, e => by simp at e
  | _, _, 0, _, .cons z _, e => by simp at e; subst e; exact ⟨_, rfl, z⟩
  | _, _, i + 1, a, .cons _ t, e => by
    obtain ⟨b, h1, h2⟩ := Paired.get (i := i) (a := a) t (by simpa using e)
    exact ⟨b, by simpa using h1, h2⟩
def rListView : List V → Hp → VK → Prop := fun xs H Q => ∃ v a ep kvs, xs = [.ref v] ∧ H v = some (viewO v a) ∧ H a = some (.dX ep kvs) ∧
  ∀ l vs H', H l = none → Same H H' → H' l = some (.lst vs) → PairsAt H' kvs vs → Q (.ref l) H'
/-! ### for k, v in VIEW -/
def iView (te : TE) : TI := fun σ H R => te σ H fun x H1 => ∃ v a ep kvs, x = .ref v ∧ H1 v = some (viewO v a) ∧ H1 a = some (.dX ep kvs) ∧ R (Itd a ep kvs.length) H1
end L2

namespace L2
open PySem PySem.Spec PyProof.Rows
open Sem (wp)
section
variable {X : Cx}
/-! ### isinstance(x, T), T a built-in -/
def rIsi (K : PySem.W.Frag) : List V → Hp → VK → Prop := fun xs H Q => ∃ x t T b, xs = [x, .ty T] ∧ TyOf K H x t ∧ PySem.W.kitOne K t (.type T) = some b ∧ Q (.bl b) H
theorem call_isi : CallR X (.builtin "isinstance") (rIsi X.K) := by
  intro pins s σ H xs us Q I r h
  obtain ⟨x, t, T, b, rfl, ty, e, q⟩ := h
  obtain ⟨u, w', rfl, ru, rw'⟩ := vals2 r
  cases (show w' = Value.type T from rw')
  exact isinst_ok I ru ty e fun tk => ⟨.bl b, H, I.tok tk, rfl, q⟩
/-- one of T's subtypes, both built-in -/
theorem kit_ty {K : PySem.W.Frag} {t T : String} {b : Bool} (h : (decide (t = T) || (PySem.W.kitMeta T && ((fastBuiltinMro t).map (·.contains (Value.type T))).isSome)) = true)
    (hb : (if t = T then true else ((fastBuiltinMro t).map (·.contains (Value.type T))).getD false) = b) : PySem.W.kitOne K (.type t) (.type T) = some b := by
  unfold PySem.W.kitOne
  by_cases e : t = T
  · subst e
    rw [if_pos (by simp)]
    rw [if_pos rfl] at hb
    rw [← hb]
  · rw [if_neg (by simp [e])]
    rw [if_neg e] at hb
    rw [decide_eq_false e, Bool.false_or, Bool.and_eq_true] at h
    show (if PySem.W.kitMeta T = true then PySem.W.subIn K (.type t) (.type T) else none) = some b
    rw [if_pos h.1]
    show (fastBuiltinMro t).map (·.contains (Value.type T)) = some b
    cases hm : (fastBuiltinMro t).map (·.contains (Value.type T)) with
    | none => rw [hm] at h; cases h.2
    | some c => rw [hm] at hb; exact congrArg some hb

/-! ### text * number -/
theorem op_mul_str : OpR X (binaryOp .Mult) (fun x y H Q => ∃ z n, x = .str z ∧ y = .int n ∧ MulOk z n ∧ (Txt.mul z n).length ≤ sizeLine ∧ Q (.str (Txt.mul z n)) H) := by
  intro pins s σ H x y v u Q I rx ry h
  obtain ⟨z, n, rfl, rfl, ok, hl, q⟩ := h
  obtain ⟨t, rfl⟩ := rx
  obtain ⟨t', rfl⟩ := ry
  refine PySem.P.mul_str ok.1 ok.2.1 ok.2.2 ?_
  unfold Txt.mul at q hl
  by_cases h1 : n < 1
  · rw [if_pos h1] at q hl ⊢
    exact ⟨hl, .str _, H, I.tok _, ⟨_, rfl⟩, q⟩
  · rw [if_neg h1] at q hl ⊢
    by_cases h2 : (n == 1 || z.length == 0) = true
    · rw [if_pos h2] at q ⊢
      exact ⟨.str z, H, I, ⟨t, rfl⟩, q⟩
    · rw [if_neg h2] at q hl ⊢
      exact ⟨hl, .str _, H, I.tok _, ⟨_, rfl⟩, q⟩

/-! ### sum, all, any of a list -/
theorem Inv.in1 {pins : List (Addr × Obj)} {σ : St} {H : Hp} {s : Shared} (I : Inv X pins σ H s) : Inv { X with A := X.A.in1 } pins σ H s :=
  ⟨⟨I.ok.mod, I.ok.kind, I.ok.glob, I.ok.blt, I.ok.above, I.ok.inj, I.ok.has, I.ok.cab, I.ok.hd, I.ok.frames, I.ok.stk, I.ok.exf, I.ok.bs, I.ok.bsz, I.ok.noex, I.ok.exfs, I.ok.funs, I.ok.frf⟩, I.os, I.bare, I.base, I.loc, I.cell, I.free, I.freeC, I.pin, I.hok, I.len⟩
theorem preSum_eq (f : Nat → Int) : ∀ n, preSum f n = ((List.range n).map f).sum
  | 0 => rfl
  | n + 1 => by
    show preSum f n + f n = _
    rw [preSum_eq f n, List.range_succ, List.map_append, List.sum_append]
    simp
def rSum (K : PySem.W.Frag) : List V → Hp → VK → Prop := fun xs H Q => ∃ a ns, xs = [.ref a] ∧ SqL K H a (List.map V.int ns) ∧ Q (.int (List.sum ns)) H
theorem call_sum (hc : X.calm = true) : CallR X (.builtin "sum") (rSum X.K) := by
  intro pins s σ H xs us Q I r h
  obtain ⟨a, ns, rfl, hq, q⟩ := h
  obtain ⟨u, rfl, ru⟩ := vals1 r
  cases ru
  obtain ⟨its, rv, p, hz⟩ := I.list hq
  have hl := rv.length
  rw [List.length_map] at hl
  refine call_sum_walkG (wpAny_pyIter_list p.isList ?_)
  have hax : a < s.heap.objs.size := let ⟨_, e, _⟩ := p.isList; Heap.lt_size e
  refine ⟨_, _, _, _, _, _, fun i => ns.getD i 0, rfl, Walks.list (A := X.A.in1) (I.ok.hd hc) _ a (Nat.ne_of_lt hax) its.toArray, ⟨⟨_, Heap.get?_push_size _ rfl, rfl, rfl⟩, ?_⟩, fun b hb => ?_, fun i v e => ?_, fun h' tk t' hk => ?_⟩
  · obtain ⟨o, e, c⟩ := p.isList
    exact ⟨o, Heap.get?_push_of_some _ e, c⟩
  · show b < (s.heap.push _).objs.size
    rw [Heap.size_push]
    have : b = s.heap.objs.size ∨ b = a := by simpa using hb
    rcases this with rfl | rfl
    · exact Nat.lt_succ_self _
    · exact Nat.lt_succ_of_lt hax
  · have hlt : i < its.length := by
      have := (Array.getElem?_eq_some_iff.mp e).1
      simpa using this
    have hi : (ns.map V.int)[i]? = some (V.int (ns.getD i 0)) := by
      rw [List.getElem?_map, List.getD_eq_getElem?_getD, List.getElem?_eq_getElem (by omega)]
      rfl
    obtain ⟨u, hu, ru⟩ := rv.get hi
    have hu' : its.toArray[i]? = some u := by simpa using hu
    rw [e] at hu'
    cases hu'
    exact ru
  · have e : preSum (fun i => ns.getD i 0) its.toArray.size = ns.sum := by
      rw [preSum_eq]
      have : its.toArray.size = ns.length := by simp [hl]
      rw [this]
      congr 1
      refine List.ext_getElem (by simp) fun i h1 h2 => ?_
      simp at h1
      simp [List.getD_eq_getElem?_getD, h1]
    rw [e]
    refine ⟨.int ns.sum, H, I.un (h' := h') (t' := tk) (Un.kept fun b o e => ?_) (I.hok.kept fun b o e => ?_), ⟨t', rfl⟩, q⟩
    all_goals
      refine hk b o (fun hb => ?_) (Heap.get?_push_of_some _ e)
      have : b = s.heap.objs.size := by simpa using hb
      exact absurd (Heap.lt_size e) (by rw [this]; exact Nat.lt_irrefl _)
def rAllB (K : PySem.W.Frag) (any : Bool) : List V → Hp → VK → Prop := fun xs H Q => ∃ a bs, xs = [.ref a] ∧ SqL K H a (List.map V.bl bs) ∧ Q (.bl (if any then bs.any id else bs.all id)) H
theorem bools_at {bs : List Bool} {its : List Value} (rv : Vals (bs.map V.bl) its) {i : Nat} {v : Value} (e : its.toArray[i]? = some v) : v = .bool (bs.getD i false) := by
  have hl := rv.length
  rw [List.length_map] at hl
  have hlt : i < its.length := by
    have := (Array.getElem?_eq_some_iff.mp e).1
    simpa using this
  have hi : (bs.map V.bl)[i]? = some (V.bl (bs.getD i false)) := by
    rw [List.getElem?_map, List.getD_eq_getElem?_getD, List.getElem?_eq_getElem (by omega)]
    rfl
  obtain ⟨u, hu, ru⟩ := rv.get hi
  have hu' : its.toArray[i]? = some u := by simpa using hu
  rw [e] at hu'
  cases hu'
  exact ru
theorem range_bools (bs : List Bool) (f : List Bool → Bool) : (List.range bs.length).map (fun i => bs.getD i false) = bs := by
  refine List.ext_getElem (by simp) fun i h1 h2 => ?_
  simp at h1
  simp [List.getD_eq_getElem?_getD, h1]
theorem call_all (hc : X.calm = true) : CallR X (.builtin "all") (rAllB X.K false) := by
  intro pins s σ H xs us Q I r h
  obtain ⟨a, bs, rfl, hq, q⟩ := h
  obtain ⟨u, rfl, ru⟩ := vals1 r
  cases ru
  obtain ⟨its, rv, p, hz⟩ := I.list hq
  have hl := rv.length
  rw [List.length_map] at hl
  refine call_all_walk (wpAny_pyIter_list p.isList ?_)
  have hax : a < s.heap.objs.size := let ⟨_, e, _⟩ := p.isList; Heap.lt_size e
  refine ⟨_, _, _, _, _, _, fun i => bs.getD i false, rfl, Walks.list (A := X.A.in1) (I.ok.hd hc) _ a (Nat.ne_of_lt hax) its.toArray, ⟨⟨_, Heap.get?_push_size _ rfl, rfl, rfl⟩, ?_⟩, fun i v s' Q' E' e hQ' => ?_, fun h' tk hk => ?_⟩
  · obtain ⟨o, e, c⟩ := p.isList
    exact ⟨o, Heap.get?_push_of_some _ e, c⟩
  · rw [bools_at rv e]
    exact wpAny_truthy_bool hQ'
  · have e : (List.range its.toArray.size).all (fun i => bs.getD i false) = bs.all id := by
      have : its.toArray.size = bs.length := by simp [hl]
      rw [this]
      have e2 : (List.range bs.length).all (fun i => bs.getD i false) = ((List.range bs.length).map (fun i => bs.getD i false)).all id := by rw [List.all_map]; rfl
      rw [e2, range_bools bs (fun _ => false)]
    rw [e]
    refine ⟨.bl (bs.all id), H, I.un (h' := h') (t' := tk) (Un.kept fun b o e => ?_) (I.hok.kept fun b o e => ?_), rfl, q⟩
    all_goals
      refine hk b o (fun hb => ?_) (Heap.get?_push_of_some _ e)
      have : b = s.heap.objs.size := by simpa using hb
      exact absurd (Heap.lt_size e) (by rw [this]; exact Nat.lt_irrefl _)
/-! ### range(a, b, c), c above 0 -/
def Its (lo c : Int) (n : Nat) : It := ⟨fun i _ => i < n, fun i H x H' => H' = H ∧ x = .int (lo + i * c), fun i _ => n ≤ i⟩
theorem turn_rangeS {P : Program} {w : World} {K : PySem.W.Frag} {tg : Expr} (it : Addr) (lo c : Int) (n : Nat) : Turn P w K tg (Its lo c n) [it] it (fun i h => IsRangeIter h it (lo + (i : Nat) * c) ((n : Int) - (i : Nat)) c) where
  mem := by simp
  obj := fun i h st b hb => by
    have e : b = it := by simpa using hb
    subst e
    exact ⟨_, st, fun v z => by
      have z' : Data.fields _ = Data.cell v := z
      cases z'⟩
  keep := fun i h h' st k => k it (by simp) _ st
  item := by
    intro X hP hw hK hc i pins s σ H E I hf st hg
    subst hP hw hK
    obtain ⟨f0, f1, f2, f3, f4, f5⟩ := hf it (by simp)
    have W := Walks.range (prog := X.prog) (w := X.w) (I.ok.hd hc) it lo c n
    refine W.item i s _ _ hg st fun v h' tk hv st' kk => ?_
    obtain ⟨t, rfl⟩ := hv
    have I1 : Inv X pins σ H { s with heap := h', toks := tk } := I.turned (fun b o hb e => kk b o (by simpa using hb) e) f0 f1 f3 f4 f5
    exact ⟨_, rfl, go_of (s := { s with heap := h', toks := tk }) (n := "range_iterator") st' rfl rfl (by decide) ⟨.int (lo + i * c), H, I1, ⟨t, rfl⟩, ⟨rfl, rfl⟩, st', fun b hb => (hf b hb).1⟩⟩
  done := by
    intro X hP hw hK hc i pins s σ H E I hf st hg
    subst hP hw hK
    obtain ⟨f0, f1, f2, f3, f4, f5⟩ := hf it (by simp)
    exact wpAny_pyNext_range_end (I.ok.hd hc) st (by have : n ≤ i := hg; omega) fun h' eb => ⟨rfl, I.turned (t' := s.toks) (fun b o hb e => eb b o hb e) f0 f1 f3 f4 f5⟩
  self := fun _ _ _ _ _ st h => wpAny_pyIter_rangeiter st h
def iRng3 (ta : TA) : TI := fun σ H R => ta σ H fun vs H1 => ∃ i j c : Int, vs = [.int i, .int j, .int c] ∧ (-(2 ^ 30) ≤ i ∧ i < 2 ^ 30 ∧ -(2 ^ 30) ≤ j ∧ j < 2 ^ 30 ∧ 0 < c ∧ c < 2 ^ 20) ∧ R (Its i c (if i < j then (j - i - 1) / c + 1 else 0).toNat) H1
theorem small_pos {a b c : Int} (h : -(2 ^ 30) ≤ a ∧ a < 2 ^ 30 ∧ -(2 ^ 30) ≤ b ∧ b < 2 ^ 30 ∧ 0 < c ∧ c < 2 ^ 20) : Builtin.Range.small a b c = true := by
  obtain ⟨h1, h2, h3, h4, h5, h6⟩ := h
  unfold Builtin.Range.small Builtin.Range.rangeSize
  simp only [Builtin.Range.rangeFitsLong, Bool.and_eq_true, Bool.or_eq_true, decide_eq_true_eq, beq_iff_eq, gt_iff_lt, h5, if_true]
  by_cases hab : a < b
  · rw [if_pos hab]
    have q1 : 0 ≤ (b - a - 1) / c := Int.ediv_nonneg (by omega) (by omega)
    have q2 : (b - a - 1) / c ≤ b - a - 1 := Int.ediv_le_self _ (by omega)
    have q3 : c * ((b - a - 1) / c) ≤ b - a - 1 := Int.mul_ediv_self_le (by omega)
    have q4 : 0 ≤ c * ((b - a - 1) / c) := Int.mul_nonneg (by omega) q1
    have q5 : ((b - a - 1) / c) * c = c * ((b - a - 1) / c) := Int.mul_comm _ _
    have q6 : ((b - a - 1) / c + 1) * c = c * ((b - a - 1) / c) + c := by rw [Int.add_mul, q5, Int.one_mul]
    have q7 : c * ((b - a - 1) / c + 1) = c * ((b - a - 1) / c) + c := by rw [Int.mul_add, Int.mul_one]
    try simp only [q5, q6, q7]
    omega
  · rw [if_neg hab]
    try simp only [Int.zero_mul, Int.mul_zero]
    omega
theorem pi_range3 {tg a b c : Expr} {ta : TA} {p pos : Pos} (hg : Gl X "range") (hm : X.mg "range" = none) (ha : PA X [a, b, c] ta) (hs : starEach [a, b, c] X.env = (false, eval a X.env) :: starEach [b, c] X.env := by rfl) (hpl : (backTo pos (starEach [b, c] X.env)).any (·.1) = false := by rfl) :
    PI X tg (.Call (.Name "range" p) [a, b, c] [] pos) (iRng3 ta) := by
  intro pins s σ H R I h
  refine Call_ (ld_blt I hg hm boot_range (PyProof.Rows.callWith_type1 (thn (ha pos pins s σ H _ I h) fun us s1 ⟨vs, H1, I1, r1, q1⟩ => ?_) hs hpl))
  obtain ⟨i, j, c, e, q1, q⟩ := q1
  subst e
  cases r1 with
  | cons r rr =>
    cases rr with
    | cons r' rr =>
      cases rr with
      | cons r'' rr =>
        cases rr
        obtain ⟨t, rfl⟩ := r
        obtain ⟨t', rfl⟩ := r'
        obtain ⟨t'', rfl⟩ := r''
        obtain ⟨b1, b2, b3, b4, b5, b6⟩ := id q1
        refine call_range_3 (by omega) ?_ (.inl (PyProof.noPylong_small (by omega)))
        refine wpAny_pyIter_range (IsRange.new ..) (small_pos q1) ?_
        have I2 : Inv X pins σ H1 { s1 with heap := s1.heap.push { cls := .type "range", data := .fields #[.int i t, .int j t', .int c t''] }, toks := s1.toks } := I1.kept fun b o e => Heap.get?_push_of_some _ e
        refine ⟨(s1.heap.push { cls := .type "range", data := .fields #[.int i t, .int j t', .int c t''] }).objs.size, [(s1.heap.push { cls := .type "range", data := .fields #[.int i t, .int j t', .int c t''] }).objs.size], _, _, H1, rfl,
          I2.kept (t' := s1.toks) fun b o e => Heap.get?_push_of_some _ e, turn_rangeS _ i c (if i < j then (j - i - 1) / c + 1 else 0).toNat, ?_, fun b hb => ?_, q⟩
        · have e1 : i + ((0 : Nat) : Int) * c = i := by simp
          have e2 : (((if i < j then (j - i - 1) / c + 1 else 0).toNat : Nat) : Int) - ((0 : Nat) : Int) = Builtin.Range.rangeSize i j c := by
            unfold Builtin.Range.rangeSize
            rw [if_pos b5]
            by_cases hab : i < j
            · rw [if_pos hab]
              have := Int.ediv_nonneg (show 0 ≤ j - i - 1 by omega) (show 0 ≤ c by omega)
              omega
            · rw [if_neg hab]
              rfl
          show IsRangeIter _ _ (i + ((0 : Nat) : Int) * c) ((((if i < j then (j - i - 1) / c + 1 else 0).toNat : Nat) : Int) - ((0 : Nat) : Int)) c
          rw [e1, e2]
          exact Heap.get?_push_size _ rfl
        · have e : b = (s1.heap.push { cls := .type "range", data := .fields #[.int i t, .int j t', .int c t''] }).objs.size := by simpa using hb
          subst e
          exact I2.fpOk (Nat.le_refl _) (I2.hok.fresh (Nat.le_refl _))
end
end L2

namespace L2
open PySem PySem.Spec PyProof.Rows
open Sem (wp)
/-! ### data in the tracked heap: atoms, tuples and lists of such -/
mutual
def Rep (H : Hp) : PyData → V → Prop
  | .none, v => v = .non
  | .bool b, v => v = .bl b
  | .int i, v => v = .int i
  | .str x, v => v = .str x
  | .list xs, v => ∃ a vs, v = .ref a ∧ H a = some (.lst vs) ∧ Reps H xs vs
  | .tuple xs, v => ∃ a vs, v = .ref a ∧ H a = some (.tup vs) ∧ Reps H xs vs
  | .dict kvs, v => kvs = [] ∧ ∃ a ep, v = .ref a ∧ H a = some (.dX ep [])
def Reps (H : Hp) : List PyData → List V → Prop
  | [], vs => vs = []
  | d :: ds, vs => ∃ v r, vs = v :: r ∧ Rep H d v ∧ Reps H ds r
end
mutual
theorem Rep.mono {H H' : Hp} : ∀ {d : PyData} {v : V}, Rep H d v → Same H H' → Rep H' d v
  | .none, _, h, _ => h
  | .bool _, _, h, _ => h
  | .int _, _, h, _ => h
  | .str _, _, h, _ => h
  | .list _, _, ⟨a, vs, e, ha, r⟩, s => ⟨a, vs, e, s _ _ ha, Reps.mono r s⟩
  | .tuple _, _, ⟨a, vs, e, ha, r⟩, s => ⟨a, vs, e, s _ _ ha, Reps.mono r s⟩
  | .dict _, _, ⟨e, a, ep, e2, ha⟩, s => ⟨e, a, ep, e2, s _ _ ha⟩
theorem Reps.mono {H H' : Hp} : ∀ {ds : List PyData} {vs : List V}, Reps H ds vs → Same H H' → Reps H' ds vs
  | [], _, h, _ => h
  | _ :: _, _, ⟨v, r, e, h1, h2⟩, s => ⟨v, r, e, Rep.mono h1 s, Reps.mono h2 s⟩
end
theorem Reps.of {H : Hp} : ∀ {ds : List PyData} {vs : List V}, Paired (Rep H) ds vs → Reps H ds vs
  | _, _, .nil => rfl
  | _, _, .cons h t => ⟨_, _, rfl, h, Reps.of t⟩
mutual
theorem Rep.reads {P : Program} {w : World} {H : Hp} {h : Heap} (ok : HOk P w H h) : ∀ {d : PyData} {v : V} {u : Value}, Rep H d v → RelV v u → ∃ as, Reads h u d as
  | .none, _, _, r, q => by cases (show _ = V.non from r); cases q; exact ⟨_, .none⟩
  | .bool b, _, _, r, q => by cases (show _ = V.bl b from r); cases q; exact ⟨_, .bool b⟩
  | .int i, _, _, r, q => by cases (show _ = V.int i from r); obtain ⟨t, rfl⟩ := q; exact ⟨_, .int i t⟩
  | .str x, _, _, r, q => by cases (show _ = V.str x from r); obtain ⟨t, rfl⟩ := q; exact ⟨_, .str x t⟩
  | .list xs, _, _, ⟨a, vs, e, ha, r⟩, q => by
    subst e; cases q
    obtain ⟨_, its, n, rv, h1⟩ := (show ObjOk P w H h a (.lst vs) from ok a _ ha)
    obtain ⟨as, ra⟩ := Reps.reads ok r rv
    exact ⟨_, .list h1 rfl rfl (by simpa using ra)⟩
  | .tuple xs, _, _, ⟨a, vs, e, ha, r⟩, q => by
    subst e; cases q
    obtain ⟨_, its, rv, o, h1, h2, n, h3⟩ := (show ObjOk P w H h a (.tup vs) from ok a _ ha)
    obtain ⟨as, ra⟩ := Reps.reads ok r rv
    exact ⟨_, .tuple h1 h2 h3 (by simpa using ra)⟩
  | .dict kvs, _, _, ⟨e0, a, ep, e, ha⟩, q => by
    subst e0; subst e; cases q
    obtain ⟨_, _, xs, rx, o, es, h1, h2, h3, h4, _⟩ := (show ObjOk P w H h a (.dX ep []) from ok a _ ha)
    have hx : xs = [] := by cases rx; rfl
    subst hx
    have he : es = #[] := by simpa using h4
    subst he
    exact ⟨_, .dict h1 h2.1 h3 (by simpa using ReadsAll.nil) (by simpa using ReadsAll.nil)⟩
theorem Reps.reads {P : Program} {w : World} {H : Hp} {h : Heap} (ok : HOk P w H h) : ∀ {ds : List PyData} {vs : List V} {us : List Value}, Reps H ds vs → Vals vs us → ∃ as, ReadsAll h us ds as
  | [], _, _, r, q => by cases (show _ = [] from r); cases q; exact ⟨_, .nil⟩
  | d :: ds, _, _, ⟨v, r, e, h1, h2⟩, q => by
    subst e
    cases q with
    | cons q1 q2 =>
      obtain ⟨as, ra⟩ := Rep.reads ok h1 q1
      obtain ⟨bs, rb⟩ := Reps.reads ok h2 q2
      exact ⟨_, .cons ra rb⟩
end
abbrev Shp (d : PyData) : Prop := SeqAt.shaped d = true
section
variable {X : Cx}
/-- ==, != of such data; in a list, a tuple -/
def rEqD (neg : Bool) : R2 := fun x y H Q => ∃ d e, Rep H d x ∧ Rep H e y ∧ Shp d ∧ Shp e ∧ Q (.bl (xor neg (PyData.eqv d e))) H
theorem op_neD (hu : X.A.units + 64 < cLine) : OpR X (compareOp .NotEq) (rEqD true) := by
  intro pins s σ H x y v u Q I rx ry h
  obtain ⟨d, e, hd, he, sd, se, q⟩ := h
  obtain ⟨as, ra⟩ := hd.reads I.hok rx
  obtain ⟨bs, rb⟩ := he.reads I.hok ry
  exact SeqAt.compareNe_shaped ra rb sd se hu ⟨.bl (!PyData.eqv d e), H, I, rfl, by simpa using q⟩
def rInD (neg : Bool) : R2 := fun x y H Q => ∃ d es, Rep H d x ∧ (Rep H (.list es) y ∨ Rep H (.tuple es) y) ∧ Shp d ∧ Shp (.list es) ∧ Q (.bl (xor neg (es.any fun e => PyData.eqv e d))) H
end
end L2

namespace L2
open PySem PySem.Spec PyProof.Rows
open Sem (wp)

/-! ### arguments without a star, cheaply -/
def isStar : Expr → Bool
  | .Starred _ _ => true
  | _ => false
theorem star_cons {e : Expr} {es : List Expr} {env : Env} (h : isStar e = false) : starEach (e :: es) env = (false, eval e env) :: starEach es env := by
  cases e <;> first | rfl | cases h
theorem star_plain {env : Env} {pos : Pos} : ∀ {es : List Expr}, es.all (fun x => !isStar x) = true → (backTo pos (starEach es env)).any (·.1) = false
  | [], _ => rfl
  | e :: es, h => by
    rw [List.all_cons, Bool.and_eq_true] at h
    have h1 : isStar e = false := by simpa using h.1
    have ih := star_plain (env := env) (pos := pos) (es := es) h.2
    rw [star_cons h1]
    unfold backTo at ih ⊢
    simpa using ih
section
variable {X : Cx} {e : Expr} {es : List Expr} {te to : TE} {t : TA} {x : Str} {p pos apos cpos : Pos} {id T : String} {r : List V → Hp → VK → Prop} {o : Expr} {name : Str} {r' : V → List V → Hp → VK → Prop}
theorem pa_c (ha : PE X e te) (hr : PA X es t) (h : isStar e = false := by rfl) : PA X (e :: es) (tCons te t) := pa_cons ha hr (star_cons h)
theorem pe_cB (hc : CallR X (.builtin id) r) (hg : Gl X x) (hm : X.mg x = none) (hv : bootBuiltins x = some (.builtin id)) (ha : PA X (e :: es) t) (hn : x ≠ "__name__" := by decide) (hdb : (x == ("__debug__" : Str)) = false := by decide)
    (h1 : isStar e = false := by rfl) (h2 : es.all (fun x => !isStar x) = true := by rfl) : PE X (.Call (.Name x p) (e :: es) [] pos) (tCB r t) := pe_callB hc hg hm hv ha hn hdb (star_cons h1) (star_plain h2)
theorem pe_cT (hc : CallR X (.type T) r) (hg : Gl X x) (hm : X.mg x = none) (hv : bootBuiltins x = some (.type T)) (ha : PA X (e :: es) t) (hn : x ≠ "__name__" := by decide) (hdb : (x == ("__debug__" : Str)) = false := by decide)
    (h1 : isStar e = false := by rfl) (h2 : es.all (fun x => !isStar x) = true := by rfl) : PE X (.Call (.Name x p) (e :: es) [] pos) (tCB r t) := pe_callTy hc hg hm hv ha hn hdb (star_cons h1) (star_plain h2)
theorem pe_m (pa : PlainAttrs T) (slot : Slot T name id) (hty : typeOf (.builtin id) = pure (.type "method_descriptor")) (hm : MtR X id r') (ho : PE X o to) (ha : PA X (e :: es) t)
    (hbase : attributeBase o name X.env (eval o X.env) = eval o X.env := by rfl)
    (hfew : ((backTo cpos (starEach (e :: es) X.env)).all (fun x => !x.1) && (backToKw cpos (keywordEach [] X.env)).all (fun x => x.1.isSome)
      && decide ((e :: es).length + ([] : List Keyword).length + (if ([] : List Keyword).isEmpty then 0 else 1) < 30)) = true := by rfl)
    (hline : (apos.endLine == cpos.line) = true := by rfl) (h1 : isStar e = false := by rfl) (h2 : es.all (fun x => !isStar x) = true := by rfl) :
    PE X (.Call (.Attribute o name apos) (e :: es) [] cpos) (tBM X.K T r' to t) := pe_bm pa slot hty hm ho ha hbase hfew hline (star_cons h1) (star_plain h2)
end

/-! ### lists of arguments, of statements, at once -/
section
variable {X : Cx}
theorem pa_l1 {e1 : Expr} {t1 : TE} (h1 : PE X e1 t1) (s : (isStar e1) = false := by rfl) : PA X [e1] (tCons t1 tNil) := by
  try simp only [Bool.or_eq_false_iff] at s
  exact (pa_c h1 pa_nil (by simp_all))
theorem pa_l2 {e1 e2 : Expr} {t1 t2 : TE} (h1 : PE X e1 t1) (h2 : PE X e2 t2) (s : (isStar e1 || isStar e2) = false := by rfl) : PA X [e1, e2] (tCons t1 (tCons t2 tNil)) := by
  try simp only [Bool.or_eq_false_iff] at s
  exact (pa_c h1 (pa_c h2 pa_nil (by simp_all)) (by simp_all))
theorem pa_l3 {e1 e2 e3 : Expr} {t1 t2 t3 : TE} (h1 : PE X e1 t1) (h2 : PE X e2 t2) (h3 : PE X e3 t3) (s : (isStar e1 || isStar e2 || isStar e3) = false := by rfl) : PA X [e1, e2, e3] (tCons t1 (tCons t2 (tCons t3 tNil))) := by
  try simp only [Bool.or_eq_false_iff] at s
  exact (pa_c h1 (pa_c h2 (pa_c h3 pa_nil (by simp_all)) (by simp_all)) (by simp_all))
theorem pa_l4 {e1 e2 e3 e4 : Expr} {t1 t2 t3 t4 : TE} (h1 : PE X e1 t1) (h2 : PE X e2 t2) (h3 : PE X e3 t3) (h4 : PE X e4 t4) (s : (isStar e1 || isStar e2 || isStar e3 || isStar e4) = false := by rfl) : PA X [e1, e2, e3, e4] (tCons t1 (tCons t2 (tCons t3 (tCons t4 tNil)))) := by
  try simp only [Bool.or_eq_false_iff] at s
  exact (pa_c h1 (pa_c h2 (pa_c h3 (pa_c h4 pa_nil (by simp_all)) (by simp_all)) (by simp_all)) (by simp_all))
theorem pa_l5 {e1 e2 e3 e4 e5 : Expr} {t1 t2 t3 t4 t5 : TE} (h1 : PE X e1 t1) (h2 : PE X e2 t2) (h3 : PE X e3 t3) (h4 : PE X e4 t4) (h5 : PE X e5 t5) (s : (isStar e1 || isStar e2 || isStar e3 || isStar e4 || isStar e5) = false := by rfl) : PA X [e1, e2, e3, e4, e5] (tCons t1 (tCons t2 (tCons t3 (tCons t4 (tCons t5 tNil))))) := by
  try simp only [Bool.or_eq_false_iff] at s
  exact (pa_c h1 (pa_c h2 (pa_c h3 (pa_c h4 (pa_c h5 pa_nil (by simp_all)) (by simp_all)) (by simp_all)) (by simp_all)) (by simp_all))
theorem pa_l10 {e1 e2 e3 e4 e5 e6 e7 e8 e9 e10 : Expr} {t1 t2 t3 t4 t5 t6 t7 t8 t9 t10 : TE} (h1 : PE X e1 t1) (h2 : PE X e2 t2) (h3 : PE X e3 t3) (h4 : PE X e4 t4) (h5 : PE X e5 t5) (h6 : PE X e6 t6) (h7 : PE X e7 t7) (h8 : PE X e8 t8) (h9 : PE X e9 t9) (h10 : PE X e10 t10) (s : (isStar e1 || isStar e2 || isStar e3 || isStar e4 || isStar e5 || isStar e6 || isStar e7 || isStar e8 || isStar e9 || isStar e10) = false := by rfl) : PA X [e1, e2, e3, e4, e5, e6, e7, e8, e9, e10] (tCons t1 (tCons t2 (tCons t3 (tCons t4 (tCons t5 (tCons t6 (tCons t7 (tCons t8 (tCons t9 (tCons t10 tNil)))))))))) := by
  try simp only [Bool.or_eq_false_iff] at s
  exact (pa_c h1 (pa_c h2 (pa_c h3 (pa_c h4 (pa_c h5 (pa_c h6 (pa_c h7 (pa_c h8 (pa_c h9 (pa_c h10 pa_nil (by simp_all)) (by simp_all)) (by simp_all)) (by simp_all)) (by simp_all)) (by simp_all)) (by simp_all)) (by simp_all)) (by simp_all)) (by simp_all))
theorem pa_l11 {e1 e2 e3 e4 e5 e6 e7 e8 e9 e10 e11 : Expr} {t1 t2 t3 t4 t5 t6 t7 t8 t9 t10 t11 : TE} (h1 : PE X e1 t1) (h2 : PE X e2 t2) (h3 : PE X e3 t3) (h4 : PE X e4 t4) (h5 : PE X e5 t5) (h6 : PE X e6 t6) (h7 : PE X e7 t7) (h8 : PE X e8 t8) (h9 : PE X e9 t9) (h10 : PE X e10 t10) (h11 : PE X e11 t11) (s : (isStar e1 || isStar e2 || isStar e3 || isStar e4 || isStar e5 || isStar e6 || isStar e7 || isStar e8 || isStar e9 || isStar e10 || isStar e11) = false := by rfl) : PA X [e1, e2, e3, e4, e5, e6, e7, e8, e9, e10, e11] (tCons t1 (tCons t2 (tCons t3 (tCons t4 (tCons t5 (tCons t6 (tCons t7 (tCons t8 (tCons t9 (tCons t10 (tCons t11 tNil))))))))))) := by
  try simp only [Bool.or_eq_false_iff] at s
  exact (pa_c h1 (pa_c h2 (pa_c h3 (pa_c h4 (pa_c h5 (pa_c h6 (pa_c h7 (pa_c h8 (pa_c h9 (pa_c h10 (pa_c h11 pa_nil (by simp_all)) (by simp_all)) (by simp_all)) (by simp_all)) (by simp_all)) (by simp_all)) (by simp_all)) (by simp_all)) (by simp_all)) (by simp_all)) (by simp_all))
theorem pa_l13 {e1 e2 e3 e4 e5 e6 e7 e8 e9 e10 e11 e12 e13 : Expr} {t1 t2 t3 t4 t5 t6 t7 t8 t9 t10 t11 t12 t13 : TE} (h1 : PE X e1 t1) (h2 : PE X e2 t2) (h3 : PE X e3 t3) (h4 : PE X e4 t4) (h5 : PE X e5 t5) (h6 : PE X e6 t6) (h7 : PE X e7 t7) (h8 : PE X e8 t8) (h9 : PE X e9 t9) (h10 : PE X e10 t10) (h11 : PE X e11 t11) (h12 : PE X e12 t12) (h13 : PE X e13 t13) (s : (isStar e1 || isStar e2 || isStar e3 || isStar e4 || isStar e5 || isStar e6 || isStar e7 || isStar e8 || isStar e9 || isStar e10 || isStar e11 || isStar e12 || isStar e13) = false := by rfl) : PA X [e1, e2, e3, e4, e5, e6, e7, e8, e9, e10, e11, e12, e13] (tCons t1 (tCons t2 (tCons t3 (tCons t4 (tCons t5 (tCons t6 (tCons t7 (tCons t8 (tCons t9 (tCons t10 (tCons t11 (tCons t12 (tCons t13 tNil))))))))))))) := by
  try simp only [Bool.or_eq_false_iff] at s
  exact (pa_c h1 (pa_c h2 (pa_c h3 (pa_c h4 (pa_c h5 (pa_c h6 (pa_c h7 (pa_c h8 (pa_c h9 (pa_c h10 (pa_c h11 (pa_c h12 (pa_c h13 pa_nil (by simp_all)) (by simp_all)) (by simp_all)) (by simp_all)) (by simp_all)) (by simp_all)) (by simp_all)) (by simp_all)) (by simp_all)) (by simp_all)) (by simp_all)) (by simp_all)) (by simp_all))
theorem pss_l1 {e1 : Stmt} {t1 : TS} (h1 : PS X e1 t1) : PSs X [e1] t1 := (pss_one h1)
theorem pss_l2 {e1 e2 : Stmt} {t1 t2 : TS} (h1 : PS X e1 t1) (h2 : PS X e2 t2) : PSs X [e1, e2] (tSeq t1 t2) := (pss_cons h1 (pss_one h2))
theorem pss_l3 {e1 e2 e3 : Stmt} {t1 t2 t3 : TS} (h1 : PS X e1 t1) (h2 : PS X e2 t2) (h3 : PS X e3 t3) : PSs X [e1, e2, e3] (tSeq t1 (tSeq t2 t3)) := (pss_cons h1 (pss_cons h2 (pss_one h3)))
theorem pss_l4 {e1 e2 e3 e4 : Stmt} {t1 t2 t3 t4 : TS} (h1 : PS X e1 t1) (h2 : PS X e2 t2) (h3 : PS X e3 t3) (h4 : PS X e4 t4) : PSs X [e1, e2, e3, e4] (tSeq t1 (tSeq t2 (tSeq t3 t4))) := (pss_cons h1 (pss_cons h2 (pss_cons h3 (pss_one h4))))
theorem pss_l6 {e1 e2 e3 e4 e5 e6 : Stmt} {t1 t2 t3 t4 t5 t6 : TS} (h1 : PS X e1 t1) (h2 : PS X e2 t2) (h3 : PS X e3 t3) (h4 : PS X e4 t4) (h5 : PS X e5 t5) (h6 : PS X e6 t6) : PSs X [e1, e2, e3, e4, e5, e6] (tSeq t1 (tSeq t2 (tSeq t3 (tSeq t4 (tSeq t5 t6))))) := (pss_cons h1 (pss_cons h2 (pss_cons h3 (pss_cons h4 (pss_cons h5 (pss_one h6))))))
theorem pss_l7 {e1 e2 e3 e4 e5 e6 e7 : Stmt} {t1 t2 t3 t4 t5 t6 t7 : TS} (h1 : PS X e1 t1) (h2 : PS X e2 t2) (h3 : PS X e3 t3) (h4 : PS X e4 t4) (h5 : PS X e5 t5) (h6 : PS X e6 t6) (h7 : PS X e7 t7) : PSs X [e1, e2, e3, e4, e5, e6, e7] (tSeq t1 (tSeq t2 (tSeq t3 (tSeq t4 (tSeq t5 (tSeq t6 t7)))))) := (pss_cons h1 (pss_cons h2 (pss_cons h3 (pss_cons h4 (pss_cons h5 (pss_cons h6 (pss_one h7)))))))
theorem pss_l10 {e1 e2 e3 e4 e5 e6 e7 e8 e9 e10 : Stmt} {t1 t2 t3 t4 t5 t6 t7 t8 t9 t10 : TS} (h1 : PS X e1 t1) (h2 : PS X e2 t2) (h3 : PS X e3 t3) (h4 : PS X e4 t4) (h5 : PS X e5 t5) (h6 : PS X e6 t6) (h7 : PS X e7 t7) (h8 : PS X e8 t8) (h9 : PS X e9 t9) (h10 : PS X e10 t10) : PSs X [e1, e2, e3, e4, e5, e6, e7, e8, e9, e10] (tSeq t1 (tSeq t2 (tSeq t3 (tSeq t4 (tSeq t5 (tSeq t6 (tSeq t7 (tSeq t8 (tSeq t9 t10))))))))) := (pss_cons h1 (pss_cons h2 (pss_cons h3 (pss_cons h4 (pss_cons h5 (pss_cons h6 (pss_cons h7 (pss_cons h8 (pss_cons h9 (pss_one h10))))))))))
theorem pss_l12 {e1 e2 e3 e4 e5 e6 e7 e8 e9 e10 e11 e12 : Stmt} {t1 t2 t3 t4 t5 t6 t7 t8 t9 t10 t11 t12 : TS} (h1 : PS X e1 t1) (h2 : PS X e2 t2) (h3 : PS X e3 t3) (h4 : PS X e4 t4) (h5 : PS X e5 t5) (h6 : PS X e6 t6) (h7 : PS X e7 t7) (h8 : PS X e8 t8) (h9 : PS X e9 t9) (h10 : PS X e10 t10) (h11 : PS X e11 t11) (h12 : PS X e12 t12) : PSs X [e1, e2, e3, e4, e5, e6, e7, e8, e9, e10, e11, e12] (tSeq t1 (tSeq t2 (tSeq t3 (tSeq t4 (tSeq t5 (tSeq t6 (tSeq t7 (tSeq t8 (tSeq t9 (tSeq t10 (tSeq t11 t12))))))))))) := (pss_cons h1 (pss_cons h2 (pss_cons h3 (pss_cons h4 (pss_cons h5 (pss_cons h6 (pss_cons h7 (pss_cons h8 (pss_cons h9 (pss_cons h10 (pss_cons h11 (pss_one h12))))))))))))
end
/-! ### defs of the module, by their promises -/
structure Has (P : Program) (w : World) (K : PySem.W.Frag) (mg : Str → Option Value) (base : Heap) (k : Nat) (x : Str) (ps : List Str) (sp : Sp) : Prop where
  ex : ∃ f fd, FnOk P w K mg base CX0 k f fd ps sp ∧ mg x = some (.ref f) ∧ PySem.W.keepIn K (.ref f) = true ∧ Binds K fd ps []
structure Dfn (K : PySem.W.Frag) (mg : Str → Option Value) (x : Str) (st : Stmt) (ps : List Str) : Prop where
  ex : ∃ f fd, Fun K x x st f fd ∧ mg x = some (.ref f) ∧ Binds K fd ps []
section
variable {P : Program} {w : World} {K : PySem.W.Frag} {mg : Str → Option Value} {base : Heap}
theorem Dfn.has {x : Str} {st : Stmt} {N ps : List Str} {k : Nat} {sp : Sp} (D : Dfn K mg x st ps) (S : FnScope N ps (defScope st)) (len : ∀ vs H Q E, sp vs H Q E → vs.length = ps.length)
    (hbody : ∀ (f : Addr) (cdv : Value) (A : Around) (outer : List Env) (s : Shared) (H : Hp) (vs : List V) (Q : VK) (E : XK), Room k (A.deeper (envOfC x (defScope st) s.heap.objs.size f cdv)) → sp vs H Q E →
      ∃ t, PSs (cxOf CX0 P w K mg base N x (defScope st) f cdv A outer s H E).nox (defBody st) t ∧ t { nx := fun _ H' => Q .non H', rt := Q } (start N vs) H) : Has P w K mg base (k + 1) x ps sp := by
  obtain ⟨f, fd, F, hm, hb⟩ := D.ex
  exact ⟨f, fd, F.ok S len (fun cdv A outer s H vs Q E hr h => hbody f cdv A outer s H vs Q E hr h), hm, F.kp, hb⟩
theorem Has.imp {x : Str} {ps : List Str} {k j : Nat} {sp sp' : Sp} (F : Has P w K mg base j x ps sp) (hj : j ≤ k) (h : ∀ vs H Q E, sp' vs H Q E → sp vs H Q E) : Has P w K mg base k x ps sp' := by
  obtain ⟨f, fd, G, hm, hk, hb⟩ := F.ex
  exact ⟨f, fd, (G.mono hj).imp h, hm, hk, hb⟩
end
section
variable {X : Cx} {k : Nat} {x : Str} {ps : List Str} {sp : Sp} {p pos : Pos} {e : Expr} {es : List Expr} {t : TA}
theorem pe_callH (F : Has X.prog X.w X.K X.mg X.base k x ps sp) (hr : Room k X.A) (hg : Gl X x) (ha : PA X (e :: es) t) (hdb : (x == ("__debug__" : Str)) = false := by decide)
    (h1 : isStar e = false := by rfl) (h2 : es.all (fun x => !isStar x) = true := by rfl) : PE X (.Call (.Name x p) (e :: es) [] pos) (tCall sp [] E0 t) := by
  obtain ⟨f, fd, G, hm, hk, hb⟩ := F.ex
  exact pe_call G hr hg hm hk hb .nil pass0 ha hdb (star_cons h1) (star_plain h2)
/-- a text, a whole number that the module keeps -/
theorem pe_globS {y : Str} (hg : Gl X x) (hm : ∃ t, X.mg x = some (.str y t)) (hd : (x == ("__debug__" : Str)) = false := by decide) : PE X (.Name x pos) (tC (.str y)) := by
  obtain ⟨t, hm⟩ := hm
  exact pe_glob hg hm ⟨t, rfl⟩ hd
theorem pe_globI {i : Int} (hg : Gl X x) (hm : ∃ t, X.mg x = some (.int i t)) (hd : (x == ("__debug__" : Str)) = false := by decide) : PE X (.Name x pos) (tC (.int i)) := by
  obtain ⟨t, hm⟩ := hm
  exact pe_glob hg hm ⟨t, rfl⟩ hd
/-- a built-in type as a value -/
theorem pe_ty {n : String} (hg : Gl X x) (hm : X.mg x = none) (hv : bootBuiltins x = some (.type n)) (hn : x ≠ "__name__" := by decide) (hd : (x == ("__debug__" : Str)) = false := by decide) : PE X (.Name x pos) (tC (.ty n)) :=
  pe_bltn hg hm hv rfl hn hd
end

/-! ### walks of a known number of turns -/
structure Yields (J : It) (n : Nat) (OK : Nat → Hp → Prop) (Y : Nat → Hp → V → Hp → Prop) : Prop where
  go : ∀ i H, i < n → OK i H → J.go i H
  yld : ∀ i H x H', i < n → OK i H → J.yld i H x H' → Y i H x H'
  stop : ∀ H, OK n H → J.stop n H
theorem for_it {J : It} {n : Nat} {OK : Nat → Hp → Prop} {Y : Nat → Hp → V → Hp → Prop} (y : Yields J n OK Y) {g : TG} {tb : TS} {D : Ends} {σ : St} {H : Hp} (Pv : Nat → St → Hp → Prop) (h0 : Pv 0 σ H) (hok : ∀ i σ H, i ≤ n → Pv i σ H → OK i H)
    (hs : ∀ i σ H x H', i < n → Pv i σ H → Y i H x H' → g x σ H' fun σ2 H2 => tb { D with nx := Pv (i + 1), ct := Pv (i + 1), bk := D.nx } σ2 H2) (hd : ∀ σ H, Pv n σ H → D.nx σ H) :
    ∃ W : Nat → Nat → St → Hp → Prop, (∃ m, W 0 m σ H) ∧ ∀ i m σ H, W i m σ H →
      (J.stop i H ∧ D.nx σ H) ∨ (J.go i H ∧ ∃ N : St → Hp → Prop, (∀ σ' H', N σ' H' → ∃ m', m' < m ∧ W (i + 1) m' σ' H') ∧ ∀ x H', J.yld i H x H' → g x σ H' fun σ2 H2 => tb { D with nx := N, ct := N, bk := D.nx } σ2 H2) := by
  refine ⟨fun i m σ H => i ≤ n ∧ m = n - i ∧ Pv i σ H, ⟨n, Nat.zero_le _, rfl, h0⟩, fun i m σ H ⟨hi, hm, hp⟩ => ?_⟩
  rcases Nat.lt_or_ge i n with h | h
  · exact .inr ⟨y.go i H h (hok i σ H hi hp), Pv (i + 1), fun σ' H' q => ⟨n - (i + 1), by omega, by omega, rfl, q⟩, fun x H' hy => hs i σ H x H' h hp (y.yld i H x H' h (hok i σ H hi hp) hy)⟩
  · have e : i = n := by omega
    subst e
    exact .inl ⟨y.stop H (hok _ σ H hi hp), hd σ H hp⟩
theorem comp_it {J : It} {n : Nat} {OK : Nat → Hp → Prop} {Y : Nat → Hp → V → Hp → Prop} (y : Yields J n OK Y) {g : TG} {tt : TT} {te : TE} {Q : VK} {σ : St} {H : Hp} (Pv : Nat → St → List V → Hp → Prop) (h0 : Pv 0 σ [] H)
    (hok : ∀ i σ acc H, i ≤ n → Pv i σ acc H → OK i H ∧ (i < n → acc.length < sizeLine))
    (hs : ∀ i σ acc H x H', i < n → Pv i σ acc H → Y i H x H' → g x σ H' fun σ2 H4 => tt σ2 H4 fun b H5 => if b = true then te σ2 H5 fun v H6 => Pv (i + 1) σ2 (acc ++ [v]) H6 else Pv (i + 1) σ2 acc H5)
    (hd : ∀ σ acc H, Pv n σ acc H → ∀ p, H p = none → Q (.ref p) (upd H p (.lst acc))) :
    ∃ W : Nat → Nat → St → List V → Hp → Prop, (∃ m, W 0 m σ [] H) ∧ ∀ i m σ1 acc H2, W i m σ1 acc H2 →
      (J.stop i H2 ∧ ∀ p, H2 p = none → Q (.ref p) (upd H2 p (.lst acc))) ∨
      (J.go i H2 ∧ acc.length < sizeLine ∧ ∃ Nn : St → List V → Hp → Prop, (∀ σ' acc' H', Nn σ' acc' H' → ∃ m', m' < m ∧ W (i + 1) m' σ' acc' H') ∧
        ∀ x H3, J.yld i H2 x H3 → g x σ1 H3 fun σ2 H4 => tt σ2 H4 fun b H5 => if b = true then te σ2 H5 fun v H6 => Nn σ2 (acc ++ [v]) H6 else Nn σ2 acc H5) := by
  refine ⟨fun i m σ acc H => i ≤ n ∧ m = n - i ∧ Pv i σ acc H, ⟨n, Nat.zero_le _, rfl, h0⟩, fun i m σ acc H ⟨hi, hm, hp⟩ => ?_⟩
  obtain ⟨ho, hz⟩ := hok i σ acc H hi hp
  rcases Nat.lt_or_ge i n with h | h
  · exact .inr ⟨y.go i H h ho, hz h, Pv (i + 1), fun σ' acc' H' q => ⟨n - (i + 1), by omega, by omega, rfl, q⟩, fun x H' hy => hs i σ acc H x H' h hp (y.yld i H x H' h ho hy)⟩
  · have e : i = n := by omega
    subst e
    exact .inl ⟨y.stop H ho, hd σ acc H hp⟩
theorem tcomp_of {J : It} {n : Nat} {OK : Nat → Hp → Prop} {Y : Nat → Hp → V → Hp → Prop} {imp : List (Option Nat)} {wi : TI} {g : TG} {tt : TT} {te : TE} {Q : VK} {σ : St} {H H1 : Hp} (hw : ∀ R : It → Hp → Prop, R J H1 → wi σ H R) (y : Yields J n OK Y) (Pv : Nat → St → List V → Hp → Prop) (h0 : Pv 0 (pull imp σ) [] H1)
    (hok : ∀ i σ acc H, i ≤ n → Pv i σ acc H → OK i H ∧ (i < n → acc.length < sizeLine))
    (hs : ∀ i σ acc H x H', i < n → Pv i σ acc H → Y i H x H' → g x σ H' fun σ2 H4 => tt σ2 H4 fun b H5 => if b = true then te σ2 H5 fun v H6 => Pv (i + 1) σ2 (acc ++ [v]) H6 else Pv (i + 1) σ2 acc H5)
    (hd : ∀ σ acc H, Pv n σ acc H → ∀ p, H p = none → Q (.ref p) (upd H p (.lst acc))) : tComp imp wi g tt te σ H Q := hw _ (comp_it y Pv h0 hok hs hd)
theorem y_list (K : PySem.W.Frag) (a : Addr) (xs : List V) : Yields (Itl K a) xs.length (fun _ H => SqL K H a xs) (fun i H x H' => H' = H ∧ xs[i]? = some x) where
  go := fun i H h hq => ⟨xs, xs[i], hq, List.getElem?_eq_getElem h⟩
  yld := fun i H x H' h hq z => ⟨z.1, z.2 xs hq⟩
  stop := fun H hq => ⟨xs, hq, Nat.le_refl _⟩
theorem y_tup (K : PySem.W.Frag) (a : Addr) (xs : List V) : Yields (Itt K a) xs.length (fun _ H => SqT K H a xs) (fun i H x H' => H' = H ∧ xs[i]? = some x) where
  go := fun i H h hq => ⟨xs, xs[i], hq, List.getElem?_eq_getElem h⟩
  yld := fun i H x H' h hq z => ⟨z.1, z.2 xs hq⟩
  stop := fun H hq => ⟨xs, hq, Nat.le_refl _⟩
theorem y_range (lo : Int) (n : Nat) : Yields (Itr lo n) n (fun _ _ => True) (fun i H x H' => H' = H ∧ x = .int (lo + i)) where
  go := fun i H h _ => h
  yld := fun i H x H' h _ z => z
  stop := fun H _ => Nat.le_refl _
theorem y_step (lo c : Int) (n : Nat) : Yields (Its lo c n) n (fun _ _ => True) (fun i H x H' => H' = H ∧ x = .int (lo + i * c)) where
  go := fun i H h _ => h
  yld := fun i H x H' h _ z => z
  stop := fun H _ => Nat.le_refl _

/-! ### the signs of a text -/
def Itx (x : Str) : It := ⟨fun i _ => i < x.cps.size, fun i H v H' => H' = H ∧ ∃ c, x.cps[i]? = some c ∧ v = .str ⟨#[c]⟩, fun i _ => x.cps.size ≤ i⟩
theorem y_str (x : Str) : Yields (Itx x) x.cps.size (fun _ _ => True) (fun i H v H' => H' = H ∧ ∃ c, x.cps[i]? = some c ∧ v = .str ⟨#[c]⟩) where
  go := fun i H h _ => h
  yld := fun i H x H' h _ z => z
  stop := fun H _ => Nat.le_refl _
theorem turn_str {P : Program} {w : World} {K : PySem.W.Frag} {tg : Expr} (it : Addr) (T : String) (x : Str) (t : Tok) (hT : T = "str_ascii_iterator" ∨ T = "str_iterator") :
    Turn P w K tg (Itx x) [it] it (fun i h => h.IsStrIter it T x t i) := by
  have W : ∀ A : Around, A.handled = none → Walks P w A it [it] [it] x.cps.size (SignAt x) (fun i h => h.IsStrIter it T x t i) := fun A hA => by
    rcases hT with rfl | rfl
    · exact Walks.strAscii hA it x t
    · exact Walks.strWide hA it x t
  refine ⟨by simp, fun i h st b hb => ?_, fun i h h' st k => ?_, ?_, ?_, fun A i s Q E st q => ?_⟩
  · have e : b = it := by simpa using hb
    subst e
    obtain ⟨o, e, c, d⟩ := st
    exact ⟨o, e, fun v z => by rw [d] at z; cases z⟩
  · obtain ⟨o, e, c⟩ := st
    exact ⟨o, k it (by simp) o e, c⟩
  · intro X hP hw hK hc i pins s σ H E I hf st hg
    subst hP hw hK
    obtain ⟨f0, f1, f2, f3, f4, f5⟩ := hf it (by simp)
    refine (W X.A (I.ok.hd hc)).item i s _ E hg st fun v h' tk hv st' kp => ?_
    obtain ⟨c, u, hcx, rfl⟩ := hv
    have I1 : Inv X pins σ H { s with heap := h', toks := tk } := I.turned (t' := tk) (fun b o hb e => kp b o (by simpa using hb) e) f0 f1 f3 f4 f5
    obtain ⟨o, e, cc, d⟩ := id st'
    have hn : ["enumerate", "zip", "dict_itemiterator", "dict_reverseitemiterator", "odict_iterator", "itertools.zip_longest", "itertools.pairwise"].contains T = false := by
      rcases hT with rfl | rfl <;> decide
    exact ⟨_, rfl, go_of (s := { s with heap := h', toks := tk }) e cc d hn ⟨.str ⟨#[c]⟩, H, I1, ⟨u, rfl⟩, ⟨rfl, c, hcx, rfl⟩, st', fun b hb => (hf b hb).1⟩⟩
  · intro X hP hw hK hc i pins s σ H E I hf st hg
    subst hP hw hK
    obtain ⟨f0, f1, f2, f3, f4, f5⟩ := hf it (by simp)
    have hi : x.cps[i]? = none := by
      have h : x.cps.size ≤ i := hg
      simp [h]
    have fin : ∀ h', Heap.ExtBut it s.heap h' → (none : Option Value) = none ∧ Inv X pins σ H { s with heap := h' } := fun h' eb => ⟨rfl, I.turned (t' := s.toks) (fun b o hb e => eb b o hb e) f0 f1 f3 f4 f5⟩
    rcases hT with rfl | rfl
    · exact wpAny_pyNext_ascii_end (I.ok.hd hc) st hi fin
    · exact wpAny_pyNext_wide_end (I.ok.hd hc) st hi fin
  · rcases hT with rfl | rfl
    · exact wpAny_pyIter_striter_ascii st q
    · exact wpAny_pyIter_striter_wide st q
def iStr (tl : TE) : TI := fun σ H R => tl σ H fun v H1 => ∃ x, v = .str x ∧ R (Itx x) H1
theorem pi_str {X : Cx} {tg l : Expr} {tl : TE} (hl : PE X l tl) : PI X tg l (iStr tl) := by
  intro pins s σ H R I h
  refine thn (hl pins s σ H _ I h) fun u s1 ⟨v, H1, I1, r1, q1⟩ => ?_
  obtain ⟨x, rfl, q⟩ := q1
  obtain ⟨t, rfl⟩ := r1
  have key : ∀ (T : String), (T = "str_ascii_iterator" ∨ T = "str_iterator") → PIE X pins σ tg R (.ref s1.heap.objs.size) { s1 with heap := s1.heap.push { cls := .type T, data := .fields #[.str x t, .int 0 0] } } := fun T hT => by
    refine ⟨s1.heap.objs.size, [s1.heap.objs.size], _, _, H1, rfl, I1.kept (t' := s1.toks) fun b o e => Heap.get?_push_of_some _ e, turn_str _ T x t hT, ⟨_, Heap.get?_push_size _ rfl, rfl, rfl⟩, fun b hb => ?_, q⟩
    have e : b = s1.heap.objs.size := by simpa using hb
    subst e
    exact I1.fpOk (Nat.le_refl _) (I1.hok.fresh (Nat.le_refl _))
  cases ha : x.cps.all (· < 128)
  · exact wpAny_pyIter_wide ha (key _ (.inr rfl))
  · exact wpAny_pyIter_ascii ha (key _ (.inl rfl))

/-! ### ''.join(xs) -/
theorem strsAre_of : ∀ {ys : List Str} {us : List Value}, Vals (ys.map V.str) us → StrsAre us ys
  | [], _, .nil => .nil
  | y :: ys, _, .cons r t => by
    obtain ⟨k, rfl⟩ := r
    exact .cons y k (strsAre_of t)
def rJoin (K : PySem.W.Frag) : V → List V → Hp → VK → Prop := fun x vs H Q => ∃ (y : Str) (a : Addr) (ys : List Str), x = .str y ∧ vs = [.ref a] ∧ SqL K H a (ys.map V.str) ∧ (ys.map (·.length)).sum + ys.length * y.length ≤ 16777216 ∧ Q (.str (Txt.join y ys)) H
theorem mt_join {X : Cx} : MtR X "str.join" (rJoin X.K) := by
  intro pins s σ H x xs v us Q I rx rs h
  obtain ⟨y, a, ys, rfl, rfl, hq, hz, q⟩ := h
  obtain ⟨u, rfl, ru⟩ := vals1 rs
  cases ru
  obtain ⟨t, rfl⟩ := rx
  obtain ⟨its, rv, p, _⟩ := I.list hq
  exact join_list p.isList (by simpa using strsAre_of rv) hz fun t' k => ⟨.str _, H, I.tok k, ⟨t', rfl⟩, q⟩
end L2

namespace L2
open PySem PySem.Spec PyProof.Rows
open Sem (wp)
/-! ### the law's own promise -/
def spLaw (K : PySem.W.Frag) : Sp := fun vs H Q _ => ∃ (a : Addr) (ns : List Int), vs = [.ref a] ∧ SqL K H a (ns.map V.int) ∧ ns.length ≤ 63 ∧ ∀ H', Q (.bl true) H'

/-! ### new addresses -/
theorem Same.upd {H : Hp} {p : Addr} {o : HO} (h : H p = none) : Same H (L2.upd H p o) := fun b u e => by rw [upd_ne (ne_of_none e h)]; exact e
theorem Same.updT {H H1 : Hp} {p : Addr} {o : HO} (s : Same H H1) (h : H1 p = none) : Same H (L2.upd H1 p o) := s.trans (Same.upd h)
/-- an object that is younger than H is written -/
theorem Same.updN {H H1 : Hp} {p : Addr} {o : HO} (s : Same H H1) (h : H p = none) : Same H (L2.upd H1 p o) := fun b u e => by rw [upd_ne (ne_of_none e h)]; exact s b u e

/-! ### places -/
theorem ixN_lt {n : Nat} {i : Int} (h0 : 0 ≤ i) (h1 : i < n) : ixN n i = some i.toNat := by
  unfold ixN; rw [if_pos h0, if_pos h1]
theorem atI_lt {α : Type} {xs : List α} {i : Int} (d : α) (h0 : 0 ≤ i) (h1 : i < xs.length) : atI xs i = some (xs.getD i.toNat d) := by
  unfold atI
  rw [ixN_lt h0 h1]
  have : i.toNat < xs.length := by omega
  simp [List.getD, List.getElem?_eq_getElem this]

/-! ### what kind a thing is of -/
def tyD : PyData → String
  | .none => "NoneType" | .bool _ => "bool" | .int _ => "int" | .str _ => "str" | .list _ => "list" | .tuple _ => "tuple" | .dict _ => "dict"
def isT (t T : String) : Bool := decide (t = T) || (decide (t = "bool") && decide (T = "int"))
abbrev isD (d : PyData) (T : String) : Bool := isT (tyD d) T
theorem tyD_one (d : PyData) : tyD d = "NoneType" ∨ tyD d = "bool" ∨ tyD d = "int" ∨ tyD d = "str" ∨ tyD d = "list" ∨ tyD d = "tuple" ∨ tyD d = "dict" := by cases d <;> simp [tyD]
theorem Rep.ty {K : PySem.W.Frag} {H : Hp} : ∀ {d : PyData} {v : V}, Rep H d v → TyOf K H v (.type (tyD d))
  | .none, _, h => by cases (show _ = V.non from h); exact .non
  | .bool b, _, h => by cases (show _ = V.bl b from h); exact .bl b
  | .int i, _, h => by cases (show _ = V.int i from h); exact .int i
  | .str x, _, h => by cases (show _ = V.str x from h); exact .str x
  | .list _, _, ⟨a, vs, e, ha, _⟩ => by subst e; exact .lst ha
  | .tuple _, _, ⟨a, vs, e, ha, _⟩ => by subst e; exact .tup ha
  | .dict _, _, ⟨_, a, ep, e, ha⟩ => by subst e; exact .dX ha
theorem isi_of {K : PySem.W.Frag} {H : Hp} {d : PyData} {v : V} {T : String} {Q : VK} (r : Rep H d v) (hT : T = "str" ∨ T = "int" ∨ T = "bool" ∨ T = "tuple" ∨ T = "list" ∨ T = "dict") (q : Q (.bl (isD d T)) H) : rIsi K [v, .ty T] H Q := by
  refine ⟨v, _, T, isD d T, rfl, r.ty, ?_, q⟩
  have ht := tyD_one d
  show PySem.W.kitOne K (.type (tyD d)) (.type T) = some (isT (tyD d) T)
  generalize tyD d = t at ht
  rcases hT with rfl | rfl | rfl | rfl | rfl | rfl <;> rcases ht with rfl | rfl | rfl | rfl | rfl | rfl | rfl <;> exact kit_ty (by decide +kernel) (by decide +kernel)

/-! ### {} != {} -/
def rNeE : R2 := fun x y H Q => ∃ a b ep ep', x = .ref a ∧ y = .ref b ∧ H a = some (.dX ep []) ∧ H b = some (.dX ep' []) ∧ Q (.bl false) H
/-! ### one step each -/
section
variable {K : PySem.W.Frag} {H : Hp} {Q : VK} {p q : Addr} {xs ys : List V} {v : V} {i : Int} {ep : Nat} {kvs : List (KD × V)}
theorem ixS_of {z : Str} (hz : z.length ≤ sizeLine) (h0 : 0 ≤ i) (h1 : i < z.length) (q : Q (.str ⟨#[z.cps.toList.getD i.toNat 0]⟩) H) : rIxS (.str z) (.int i) H Q :=
  ⟨z, i, _, rfl, rfl, hz, atI_lt 0 h0 (by simpa [Str.length] using h1), q⟩
theorem ixL_of (h : H p = some (.lst xs)) (e : atI xs i = some v) (q : Q v H) : rIxL K (.ref p) (.int i) H Q := ⟨p, xs, i, v, rfl, rfl, SqL.of h, e, q⟩
theorem ixLs_of (h : SqL K H p xs) (e : atI xs i = some v) (q : Q v H) : rIxL K (.ref p) (.int i) H Q := ⟨p, xs, i, v, rfl, rfl, h, e, q⟩
theorem ixT_of (h : H p = some (.tup xs)) (e : atI xs i = some v) (q : Q v H) : rIxT K (.ref p) (.int i) H Q := ⟨p, xs, i, v, rfl, rfl, SqT.of h, e, q⟩
theorem setL_of {Q : Hp → Prop} (h : H p = some (.lst xs)) (h0 : 0 ≤ i) (h1 : i < xs.length) (q : Q (upd H p (.lst (xs.set i.toNat v)))) : rSetL (.ref p) (.int i) v H Q := ⟨p, xs, i, _, rfl, rfl, h, ixN_lt h0 h1, q⟩
theorem join_of {y : Str} {ts : List Str} (h : H p = some (.lst (ts.map V.str))) (hz : (ts.map (·.length)).sum + ts.length * y.length ≤ 16777216) (q : Q (.str (Txt.join y ts)) H) : rJoin K (.str y) [.ref p] H Q :=
  ⟨y, p, ts, rfl, rfl, SqL.of h, hz, q⟩
theorem cat_of (h : H p = some (.lst xs)) (h' : H q = some (.lst ys)) (hz : xs.length + ys.length ≤ sizeLine) (k : ∀ r, H r = none → Q (.ref r) (upd H r (.lst (xs ++ ys)))) : rCat (.ref p) (.ref q) H Q := ⟨p, q, xs, ys, rfl, rfl, h, h', hz, k⟩
theorem ty_str {x : Str} : tyV K "str" (.str x) H := rfl
end
theorem sizeLine_big : 16777216 ≤ sizeLine := by decide

section
variable {X : Cx}
end
theorem sz_0 : (0 ≤ sizeLine) = True := eq_true (by decide)
theorem sz_1 : (1 ≤ sizeLine) = True := eq_true (by decide)
theorem sz_2 : (2 ≤ sizeLine) = True := eq_true (by decide)
theorem sz_3 : (3 ≤ sizeLine) = True := eq_true (by decide)
theorem sz_4 : (4 ≤ sizeLine) = True := eq_true (by decide)
theorem sz_5 : (5 ≤ sizeLine) = True := eq_true (by decide)
theorem sz_6 : (6 ≤ sizeLine) = True := eq_true (by decide)
theorem sz_7 : (7 ≤ sizeLine) = True := eq_true (by decide)
theorem sz_8 : (8 ≤ sizeLine) = True := eq_true (by decide)
theorem sz_9 : (9 ≤ sizeLine) = True := eq_true (by decide)
theorem sz_10 : (10 ≤ sizeLine) = True := eq_true (by decide)
theorem sz_11 : (11 ≤ sizeLine) = True := eq_true (by decide)
theorem sz_12 : (12 ≤ sizeLine) = True := eq_true (by decide)
theorem sz_13 : (13 ≤ sizeLine) = True := eq_true (by decide)
theorem sz_14 : (14 ≤ sizeLine) = True := eq_true (by decide)
theorem na_10 : (Int.natAbs 10 < 18446744073709551616) = True := eq_true (by decide)
/-! ### texts joined -/
theorem join_len (g : Str) (ys : List Str) : (Txt.join g ys).length = (ys.map (·.length)).sum + (ys.length - 1) * g.length := size_glued g ys
/-! ### the same data twice -/
theorem neD_same {H : Hp} {d : PyData} {x y : V} {Q : VK} (hx : Rep H d x) (hy : Rep H d y) (hs : Shp d) (q : Q (.bl false) H) : rEqD true x y H Q :=
  ⟨d, d, hx, hy, hs, hs, by rw [SeqAt.eqv_refl d (SeqAt.canLay_of_shaped hs)]; exact q⟩
theorem cutV_map {α : Type} (f : α → V) (xs : List α) (lo hi : Option Int) : cutV (xs.map f) lo hi = ((xs.drop (HT.sIx xs.length 0 lo)).take (HT.sIx xs.length xs.length hi - HT.sIx xs.length 0 lo)).map f := by
  unfold cutV; rw [List.length_map, List.map_take, List.map_drop]

theorem gCons_cons {t : TG} {u : TGs} {v : V} {r : List V} {σ : St} {H : Hp} {Q : St → Hp → Prop} : gCons t u (v :: r) σ H Q = t v σ H fun σ' H' => u r σ' H' Q :=
  propext ⟨fun ⟨v', r', e, h⟩ => by cases e; exact h, fun h => ⟨v, r, rfl, h⟩⟩
theorem gNil_nil {σ : St} {H : Hp} {Q : St → Hp → Prop} : gNil [] σ H Q = Q σ H := propext ⟨fun h => h.2, fun h => ⟨rfl, h⟩⟩

/-! ### the rules with the written part named (so that a comprehension's block does not hang on its entry) -/
section
variable {X : Cx} {K : PySem.W.Frag}
theorem ix_listk (hK : X.K = K) : IxR X (rIxL K) := hK ▸ ix_list
theorem ix_tupk (hK : X.K = K) : IxR X (rIxT K) := hK ▸ ix_tup
theorem sl_listk (hK : X.K = K) : SlR X (rSlL K) := hK ▸ sl_list
theorem sl_tupk (hK : X.K = K) : SlR X (rSlT K) := hK ▸ sl_tup
def rLenQ (K : PySem.W.Frag) : List V → Hp → VK → Prop := fun xs H Q => ∃ p ys, xs = [.ref p] ∧ (SqL K H p ys ∨ SqT K H p ys) ∧ Q (.int ys.length) H
theorem call_len_seqk (hK : X.K = K) : CallR X (.builtin "len") (rLenQ K) := hK ▸ call_len_seq
def rLenS : List V → Hp → VK → Prop := fun xs H Q => ∃ z, xs = [.str z] ∧ z.length ≤ sizeLine ∧ Q (.int z.length) H
def rListOf (K : PySem.W.Frag) : List V → Hp → VK → Prop := fun xs H Q => ∃ p ys, xs = [.ref p] ∧ (SqL K H p ys ∨ SqT K H p ys) ∧ ∀ l, H l = none → Q (.ref l) (upd H l (.lst ys))
theorem call_list_ofk (hK : X.K = K) : CallR X (.type "list") (rListOf K) := hK ▸ call_list_of
def rTupOf (K : PySem.W.Frag) : List V → Hp → VK → Prop := fun xs H Q => ∃ p ys, xs = [.ref p] ∧ ((SqL K H p ys ∧ ∀ l, H l = none → Q (.ref l) (upd H l (.tup ys))) ∨ (SqT K H p ys ∧ Q (.ref p) H))
theorem call_tuple_ofk (hK : X.K = K) : CallR X (.type "tuple") (rTupOf K) := hK ▸ call_tuple_of
theorem call_isik (hK : X.K = K) : CallR X (.builtin "isinstance") (rIsi K) := hK ▸ call_isi
theorem call_allk (hK : X.K = K) (hc : X.calm = true) : CallR X (.builtin "all") (rAllB K false) := hK ▸ call_all hc
theorem mt_joink (hK : X.K = K) : MtR X "str.join" (rJoin K) := hK ▸ mt_join
theorem pi_listk {tg l : Expr} {tl : TE} (hK : X.K = K) (hl : PE X l tl) : PI X tg l (iList K tl) := hK ▸ pi_list hl
theorem pi_tupk {tg l : Expr} {tl : TE} (hK : X.K = K) (hl : PE X l tl) : PI X tg l (iTup K tl) := hK ▸ pi_tup hl
theorem pg_tupk {es : List Expr} {k : Nat} {pos : Pos} {t : TGs} {n : Nat} (hK : X.K = K) (hc : X.calm = true) (h : PGs X es t)
    (hn : (assignEach es X.env).length = n := by rfl) (hst : (assignEach es X.env).findIdx? (·.1) = none := by rfl) : PG X (.Tuple es k pos) (gTup K n t) := hK ▸ pg_tup hc h hn hst
variable {e : Expr} {es : List Expr} {to : TE} {t : TA} {apos cpos : Pos} {id T : String} {o : Expr} {name : Str} {r' : V → List V → Hp → VK → Prop}
theorem pe_mk (hK : X.K = K) (pa : PlainAttrs T) (slot : Slot T name id) (hty : typeOf (.builtin id) = pure (.type "method_descriptor")) (hm : MtR X id r') (ho : PE X o to) (ha : PA X (e :: es) t)
    (hbase : attributeBase o name X.env (eval o X.env) = eval o X.env := by rfl)
    (hfew : ((backTo cpos (starEach (e :: es) X.env)).all (fun x => !x.1) && (backToKw cpos (keywordEach [] X.env)).all (fun x => x.1.isSome)
      && decide ((e :: es).length + ([] : List Keyword).length + (if ([] : List Keyword).isEmpty then 0 else 1) < 30)) = true := by rfl)
    (hline : (apos.endLine == cpos.line) = true := by rfl) (h1 : isStar e = false := by rfl) (h2 : es.all (fun x => !isStar x) = true := by rfl) :
    PE X (.Call (.Attribute o name apos) (e :: es) [] cpos) (tBM K T r' to t) := hK ▸ pe_m pa slot hty hm ho ha hbase hfew hline h1 h2
theorem pe_m0k (hK : X.K = K) (pa : PlainAttrs T) (slot : Slot T name id) (hty : typeOf (.builtin id) = pure (.type "method_descriptor")) (hm : MtR X id r') (ho : PE X o to)
    (hbase : attributeBase o name X.env (eval o X.env) = eval o X.env := by rfl) (hline : (apos.endLine == cpos.line) = true := by rfl) : PE X (.Call (.Attribute o name apos) [] [] cpos) (tBM0 K T r' to) := hK ▸ pe_bm0 pa slot hty hm ho hbase hline
end

/-! ### loops and comprehensions behind their iterator, as words of their own -/
def forW (J : It) (g : TG) (tb : TS) (D : Ends) (σ : St) (H : Hp) : Prop := ∃ W : Nat → Nat → St → Hp → Prop, (∃ m, W 0 m σ H) ∧ ∀ i m σ H, W i m σ H →
  (J.stop i H ∧ D.nx σ H) ∨ (J.go i H ∧ ∃ N : St → Hp → Prop, (∀ σ' H', N σ' H' → ∃ m', m' < m ∧ W (i + 1) m' σ' H') ∧ ∀ x H', J.yld i H x H' → g x σ H' fun σ2 H2 => tb { D with nx := N, ct := N, bk := D.nx } σ2 H2)
def compW (J : It) (g : TG) (tt : TT) (te : TE) (Q : VK) (σ : St) (H : Hp) : Prop := ∃ W : Nat → Nat → St → List V → Hp → Prop, (∃ m, W 0 m σ [] H) ∧ ∀ i m σ1 acc H2, W i m σ1 acc H2 →
  (J.stop i H2 ∧ ∀ p, H2 p = none → Q (.ref p) (upd H2 p (.lst acc))) ∨
  (J.go i H2 ∧ acc.length < sizeLine ∧ ∃ Nn : St → List V → Hp → Prop, (∀ σ' acc' H', Nn σ' acc' H' → ∃ m', m' < m ∧ W (i + 1) m' σ' acc' H') ∧
    ∀ x H3, J.yld i H2 x H3 → g x σ1 H3 fun σ2 H4 => tt σ2 H4 fun b H5 => if b = true then te σ2 H5 fun v H6 => Nn σ2 (acc ++ [v]) H6 else Nn σ2 acc H5)
theorem tFor_w {wi : TI} {g : TG} {tb : TS} {D : Ends} {σ : St} {H : Hp} : tFor wi g tb D σ H = wi σ H fun J H1 => forW J g tb D σ H1 := rfl
theorem tComp_w {imp : List (Option Nat)} {wi : TI} {g : TG} {tt : TT} {te : TE} {σ : St} {H : Hp} {Q : VK} : tComp imp wi g tt te σ H Q = wi σ H fun J H1 => compW J g tt te Q (pull imp σ) H1 := rfl
theorem for_w {J : It} {n : Nat} {OK : Nat → Hp → Prop} {Y : Nat → Hp → V → Hp → Prop} (y : Yields J n OK Y) {g : TG} {tb : TS} {D : Ends} {σ : St} {H : Hp} (Pv : Nat → St → Hp → Prop) (h0 : Pv 0 σ H) (hok : ∀ i σ H, i ≤ n → Pv i σ H → OK i H)
    (hs : ∀ i σ H x H', i < n → Pv i σ H → Y i H x H' → g x σ H' fun σ2 H2 => tb { D with nx := Pv (i + 1), ct := Pv (i + 1), bk := D.nx } σ2 H2) (hd : ∀ σ H, Pv n σ H → D.nx σ H) : forW J g tb D σ H := for_it y Pv h0 hok hs hd
theorem comp_w {J : It} {n : Nat} {OK : Nat → Hp → Prop} {Y : Nat → Hp → V → Hp → Prop} (y : Yields J n OK Y) {g : TG} {tt : TT} {te : TE} {Q : VK} {σ : St} {H : Hp} (Pv : Nat → St → List V → Hp → Prop) (h0 : Pv 0 σ [] H)
    (hok : ∀ i σ acc H, i ≤ n → Pv i σ acc H → OK i H ∧ (i < n → acc.length < sizeLine))
    (hs : ∀ i σ acc H x H', i < n → Pv i σ acc H → Y i H x H' → g x σ H' fun σ2 H4 => tt σ2 H4 fun b H5 => if b = true then te σ2 H5 fun v H6 => Pv (i + 1) σ2 (acc ++ [v]) H6 else Pv (i + 1) σ2 acc H5)
    (hd : ∀ σ acc H, Pv n σ acc H → ∀ p, H p = none → Q (.ref p) (upd H p (.lst acc))) : compW J g tt te Q σ H := comp_it y Pv h0 hok hs hd
end L2

/-! sheets, apart from any program: lists of pairs with whole numbers -/
namespace Sh
variable {κ : Type} [DecidableEq κ]
def look (s : List (κ × Int)) (k : κ) : Option Int := (s.find? fun p => decide (p.1 = k)).map (·.2)
def get (s : List (κ × Int)) (k : κ) : Int := (look s k).getD 0
def put (s : List (κ × Int)) (k : κ) (n : Int) : List (κ × Int) :=
  if (s.any fun p => decide (p.1 = k)) = true then s.map (fun p => if p.1 = k then (p.1, n) else p) else s ++ [(k, n)]
def sumOf (ps : List (κ × Int)) (k : κ) : Int := ((ps.filter fun p => decide (p.1 = k)).map (·.2)).sum
def step (s : List (κ × Int)) (p : κ × Int) : List (κ × Int) := put s p.1 (get s p.1 + p.2)
def acc (ps : List (κ × Int)) : List (κ × Int) := ps.foldl step []
def sheet (ps : List (κ × Int)) : List (κ × Int) := (acc ps).filter fun p => decide (p.2 ≠ 0)

end Sh

namespace L2
open PySem PySem.Spec PyProof.Rows
open Sem (wp)
/-! sheets in the heap -/
abbrev iv (s : List (KD × Int)) : List (KD × V) := s.map fun p => (p.1, V.int p.2)
section
variable {K : PySem.W.Frag} {H : Hp} {Q : VK} {p v : Addr} {k : KD} {y z : V} {ep : Nat} {s : List (KD × Int)} {kvs : List (KD × V)}
end
/-! what is taken away -/
def negP (p : KD × Int) : KD × Int := (p.1, -p.2)
theorem PairsAt.append {H : Hp} {a b : List (KD × V)} {us vs : List V} (h : PairsAt H a us) (h' : PairsAt H b vs) : PairsAt H (a ++ b) (us ++ vs) := by
  unfold PairsAt at *
  induction h with
  | nil => exact h'
  | cons x _ ih => exact .cons x ih
theorem PairsAt.same {H H' : Hp} {kvs : List (KD × V)} {vs : List V} (h : PairsAt H kvs vs) (s : Same H H') : PairsAt H' kvs vs := h.mono fun b xs e => s b _ e
theorem PairsAt.len {H : Hp} {kvs : List (KD × V)} {vs : List V} (h : PairsAt H kvs vs) : kvs.length = vs.length := Paired.length h
theorem KeyV.same {H H' : Hp} {k : KD} {y : V} (h : KeyV H k y) (s : Same H H') : KeyV H' k y := h.mono fun b xs e => s b _ e
/-! legs and deals in the heap -/
abbrev Leg := Str × Str × Str × Int
abbrev shelf (a b : Str) : KD := .inr [.inr a, .inr b]
def gP (l : Leg) : KD × Int := (shelf l.1 l.2.2.1, l.2.2.2)
def bP (l : Leg) : KD × Int := (shelf l.2.1 l.2.2.1, l.2.2.2)
def LegAt (H : Hp) (l : Leg) (v : V) : Prop := ∃ t, v = .ref t ∧ H t = some (.tup [.str l.1, .str l.2.1, .str l.2.2.1, .int l.2.2.2])
def LegsAt (H : Hp) : List Leg → List V → Prop := Paired (LegAt H)
theorem LegsAt.same {H H' : Hp} {ls : List Leg} {vs : List V} (h : LegsAt H ls vs) (s : Same H H') : LegsAt H' ls vs := Paired.mapP h fun _ _ ⟨t, e, ht⟩ => ⟨t, e, s _ _ ht⟩
theorem LegsAt.len {H : Hp} {ls : List Leg} {vs : List V} (h : LegsAt H ls vs) : ls.length = vs.length := Paired.length h
def DealAt (H : Hp) (v : V) (nm : Str) (ls : List Leg) : Prop := ∃ t lt vs, v = .ref t ∧ H t = some (.tup [.str nm, .ref lt]) ∧ H lt = some (.tup vs) ∧ LegsAt H ls vs
theorem DealAt.same {H H' : Hp} {v : V} {nm : Str} {ls : List Leg} (h : DealAt H v nm ls) (s : Same H H') : DealAt H' v nm ls := let ⟨t, lt, vs, e, h1, h2, h3⟩ := h; ⟨t, lt, vs, e, s _ _ h1, s _ _ h2, h3.same s⟩
def chg (ls : List Leg) : List (KD × Int) := Sh.sheet (Sh.sheet (ls.map bP) ++ (Sh.sheet (ls.map gP)).map negP)
end L2
namespace L2
open PySem PySem.Spec PyProof.Rows
/-! ### names of letters -/
def abc : Str := "abcdefghijklmnopqrstuvwxyz"
def goodNm (s : Str) : Prop := 1 ≤ s.length ∧ s.length ≤ 8 ∧ ∀ c ∈ s.cps.toList, c ∈ abc.cps.toList

theorem str_ext {a b : Str} (h : a.cps.toList = b.cps.toList) : a = b := by
  obtain ⟨x⟩ := a; obtain ⟨y⟩ := b
  have : x = y := by simpa using congrArg List.toArray h
  rw [this]
theorem str_len (a : Str) : a.length = a.cps.toList.length := by simp [Str.length]
theorem app_chars (a b : Str) : (a ++ b).cps.toList = a.cps.toList ++ b.cps.toList := by
  show (Str.append a b).cps.toList = _
  simp [Str.append]
/-- n times the sign f -/
abbrev rep (f : Nat) (n : Int) : Str := Txt.mul ⟨#[f]⟩ n
theorem rep_chars (f : Nat) (n : Int) : (rep f n).cps.toList = List.replicate n.toNat f := mul_one_list f n
theorem rep_ok (f : Nat) {n : Int} (h0 : 0 ≤ n) (h8 : n ≤ 100) : MulOk ⟨#[f]⟩ n ∧ (rep f n).length ≤ sizeLine := by
  refine ⟨mulOk_of 1 100 (Nat.le_refl _) h8 (by omega) (by decide) (by decide), ?_⟩
  rw [str_len, rep_chars, List.length_replicate]
  have := sizeLine_big
  omega
theorem strOk_of_abc {s : Str} (h : ∀ c ∈ s.cps.toList, c ∈ abc.cps.toList) : PyData.strOk s = true := by
  have ha : abc.cps.toList.all (fun c => decide (c < 0x110000)) = true := by decide +kernel
  show s.cps.all (fun c => decide (c < 0x110000)) = true
  rw [← Array.all_toList, List.all_eq_true]
  exact fun c hc => List.all_eq_true.mp ha c (h c hc)
theorem goodNm.ok {s : Str} (h : goodNm s) : PyData.strOk s = true := strOk_of_abc h.2.2
theorem abc_at {i : Nat} (h : i < 26) : abc.cps.toList.getD i 0 ∈ abc.cps.toList := by
  have hl : abc.cps.toList.length = 26 := by decide +kernel
  rw [List.getD_eq_getElem?_getD, List.getElem?_eq_getElem (by omega)]
  exact List.getElem_mem _
end L2
namespace L2
open PySem PySem.Spec PyProof.Rows
theorem SqL.same {K : PySem.W.Frag} {H H' : Hp} {a : Addr} {xs : List V} (h : SqL K H a xs) (s : Same H H') : SqL K H' a xs := by
  rcases h with (h | ⟨o, h⟩) | h
  · exact .inl (.inl (s _ _ h))
  · exact .inl (.inr ⟨o, s _ _ h⟩)
  · exact .inr h
theorem Paired.append {α β : Type} {F : α → β → Prop} {a c : List α} {b d : List β} (h : Paired F a b) (h' : Paired F c d) : Paired F (a ++ c) (b ++ d) := by
  induction h with
  | nil => exact h'
  | cons x _ ih => exact .cons x ih
theorem Paired.snoc {α β : Type} {F : α → β → Prop} : ∀ {a : List α} {x : α} {m : List β}, Paired F (a ++ [x]) m → ∃ m0 y, m = m0 ++ [y] ∧ Paired F a m0 ∧ F x y
  | [], x, m, h => by
    cases h with
    | cons hx ht => cases ht; exact ⟨[], _, rfl, .nil, hx⟩
  | c :: a, x, m, h => by
    cases h with
    | cons hx ht =>
      obtain ⟨m0, y, rfl, h1, h2⟩ := Paired.snoc ht
      exact ⟨_ :: m0, y, rfl, .cons hx h1, h2⟩
theorem Paired.mapM {α β : Type} {F G : α → β → Prop} : ∀ {a : List α} {m : List β}, Paired F a m → (∀ x y, y ∈ m → F x y → G x y) → Paired G a m
  | _, _, .nil, _ => .nil
  | _, _, .cons h t, f => .cons (f _ _ List.mem_cons_self h) (Paired.mapM t fun x y hy => f x y (List.mem_cons_of_mem _ hy))
/-- a change of a list leaves legs -/
theorem LegsAt.updL {H : Hp} {ls : List Leg} {vs : List V} {p : Addr} {o : HO} (h : LegsAt H ls vs) (hp : ∀ us, H p ≠ some (.tup us)) : LegsAt (upd H p o) ls vs :=
  Paired.mapP h fun _ _ ⟨t, e, ht⟩ => ⟨t, e, by
    rw [upd_ne]
    · exact ht
    · rintro rfl
      exact hp _ ht⟩
/-- deals as a list of lists of legs, all made since H -/
def DealsAt (H H2 : Hp) (p : Addr) (dss : List (List Leg)) : Prop :=
  H p = none ∧ ∃ rs : List Addr, H2 p = some (.lst (rs.map V.ref)) ∧ rs.Nodup ∧ (∀ r ∈ rs, H r = none ∧ r ≠ p) ∧ Paired (fun ls r => ∃ vs, H2 r = some (.lst vs) ∧ LegsAt H2 ls vs) dss rs
theorem DealsAt.same {H H2 H3 : Hp} {p : Addr} {dss : List (List Leg)} (h : DealsAt H H2 p dss) (s : Same H2 H3) : DealsAt H H3 p dss := by
  obtain ⟨h0, rs, h1, h2, h3, h4⟩ := h
  exact ⟨h0, rs, s _ _ h1, h2, h3, Paired.mapP h4 fun _ _ ⟨vs, e, hl⟩ => ⟨vs, s _ _ e, hl.same s⟩⟩
theorem DealsAt.fresh {H H2 : Hp} {p r : Addr} {dss : List (List Leg)} {us : List V} (h : DealsAt H H2 p dss) (s : Same H H2) (hr : H2 r = none) (hp : H2 p = some (.lst us)) :
    DealsAt H (upd (upd H2 r (.lst [])) p (.lst (us ++ [.ref r]))) p (dss ++ [[]]) := by
  obtain ⟨h0, rs, h1, h2, h3, h4⟩ := h
  have e : us = rs.map V.ref := by rw [hp] at h1; cases h1; rfl
  subst e
  have hrp : r ≠ p := fun e => by rw [e, hp] at hr; cases hr
  have t := Same.upd (o := .lst []) hr
  have hp' := t _ _ hp
  have notT : ∀ us, (upd H2 r (.lst [])) p ≠ some (.tup us) := fun us e => by rw [hp'] at e; cases e
  refine ⟨h0, rs ++ [r], by rw [upd_same, List.map_append]; rfl, ?_, ?_, ?_⟩
  · rw [List.nodup_append]
    refine ⟨h2, by simp, fun x hx y hy => ?_⟩
    rw [List.mem_singleton.mp hy]
    rintro rfl
    obtain ⟨j, hj⟩ := List.mem_iff_getElem?.mp hx
    obtain ⟨ls, hls⟩ : ∃ ls, dss[j]? = some ls := ⟨_, List.getElem?_eq_getElem (by rw [Paired.length h4]; exact (List.getElem?_eq_some_iff.mp hj).1)⟩
    obtain ⟨b, hb, vs, e, _⟩ := Paired.get h4 hls
    rw [hj] at hb; cases hb
    rw [hr] at e; cases e
  · intro x hx
    rcases List.mem_append.mp hx with hx | hx
    · exact h3 x hx
    · rw [List.mem_singleton.mp hx]; exact ⟨s.free hr, hrp⟩
  · refine Paired.append (Paired.mapM h4 fun ls x hx ⟨vs, e, hl⟩ => ⟨vs, ?_, (hl.same t).updL notT⟩) (.cons ⟨[], ?_, .nil⟩ .nil)
    · rw [upd_ne (h3 x hx).2]; exact t _ _ e
    · rw [upd_ne hrp, upd_same]
theorem DealsAt.last {H H2 : Hp} {p : Addr} {ds : List (List Leg)} {ls : List Leg} (h : DealsAt H H2 p (ds ++ [ls])) :
    ∃ (us : List V) (r : Addr) (vs : List V), H2 p = some (.lst (us ++ [.ref r])) ∧ us.length = ds.length ∧ H r = none ∧ H2 r = some (.lst vs) ∧ LegsAt H2 ls vs ∧ ∀ l v, LegAt H2 l v → DealsAt H (upd H2 r (.lst (vs ++ [v]))) p (ds ++ [ls ++ [l]]) := by
  obtain ⟨h0, rs, h1, h2, h3, h4⟩ := h
  obtain ⟨rs0, r, rfl, h5, vs, e, hl⟩ := Paired.snoc h4
  have hr := h3 r (by simp)
  have notT : ∀ us, H2 r ≠ some (.tup us) := fun us e' => by rw [e] at e'; cases e'
  rw [List.nodup_append] at h2
  refine ⟨rs0.map V.ref, r, vs, by rw [h1, List.map_append]; rfl, by rw [List.length_map, ← Paired.length h5], hr.1, e, hl, fun l v hlv => ⟨h0, rs0 ++ [r], ?_, ?_, h3, Paired.append (Paired.mapM h5 fun ls x hx ⟨vs', e', hl'⟩ => ⟨vs', ?_, hl'.updL notT⟩) (.cons ⟨_, upd_same, LegsAt.updL (ls := ls ++ [l]) (vs := vs ++ [v]) (Paired.append hl (.cons hlv .nil)) notT⟩ .nil)⟩⟩
  · rw [upd_ne (Ne.symm hr.2)]; exact h1
  · rw [List.nodup_append]; exact h2
  · rw [upd_ne (h2.2.2 x hx r (by simp))]; exact e'
end L2
namespace L2
open PySem PySem.Spec PyProof.Rows
end L2
namespace L2
open PySem
theorem nodup_sub_len {α : Type} [DecidableEq α] : ∀ {a b : List α}, a.Nodup → (∀ x ∈ a, x ∈ b) → a.length ≤ b.length
  | [], _, _, _ => Nat.zero_le _
  | x :: a, b, h, hs => by
    obtain ⟨h1, h2⟩ := List.nodup_cons.mp h
    have hx := hs x List.mem_cons_self
    have := nodup_sub_len (b := b.erase x) h2 fun y hy => (by
      refine (List.mem_erase_of_ne ?_).mpr (hs y (List.mem_cons_of_mem _ hy))
      rintro rfl
      exact h1 hy)
    rw [List.length_erase_of_mem hx] at this
    have hb := List.length_pos_of_mem hx
    rw [List.length_cons]
    omega
def cntZ (s : List (KD × Int)) (h : Str) (z : List Str) : Nat := (z.filter fun w => decide (Sh.get s (shelf h w) ≠ 0)).length
def cntY (s : List (KD × Int)) (y z : List Str) : Nat := (y.map fun h => cntZ s h z).sum
def cells (s : List (KD × Int)) (y z : List Str) : List KD := y.flatMap fun h => (z.filter fun w => decide (Sh.get s (shelf h w) ≠ 0)).map (shelf h)
theorem shelf_inj {a b c d : Str} (h : shelf a b = shelf c d) : a = c ∧ b = d := by
  have := Sum.inr.inj h
  simp only [List.cons.injEq, and_true, Sum.inr.injEq] at this
  exact this
end L2
namespace L2
open PySem
end L2

namespace KS
open PySem PySem.W PyProof.Rows
/-! the sort's tree of questions, asked of a strict order: it answers with a sorted arrangement -/
section
variable {n : Nat} {lt : Nat → Nat → Bool} {cmp : Nat → Nat → (Bool → Shared → Prop) → Shared → Prop} {s : Shared}
structure Ord (n : Nat) (lt : Nat → Nat → Bool) : Prop where
  tr : ∀ i j k, i < n → j < n → k < n → lt i j = true → lt j k = true → lt i k = true
  tot : ∀ i j, i < n → j < n → i ≠ j → lt i j = false → lt j i = true
abbrev g (p : Array Nat) (i : Nat) : Nat := p.getD i 0
def Arr (n : Nat) (p : Array Nat) : Prop := p.Perm (List.range n).toArray
theorem Arr.size {p : Array Nat} (h : Arr n p) : p.size = n := by
  have := h.size_eq
  simpa using this
theorem Arr.inj {p : Array Nat} (h : Arr n p) {i j : Nat} (hi : i < n) (hj : j < n) (e : g p i = g p j) : i = j := by
  have hs := h.size
  have hp : p.toList.Perm (List.range n) := by
    have := Array.perm_iff_toList_perm.mp h
    simpa using this
  have nd : p.toList.Nodup := hp.nodup_iff.mpr List.nodup_range
  have e2 : p.toList[i]'(by simp; omega) = p.toList[j]'(by simp; omega) := by
    simpa [g, Array.getD, hs, hi, hj] using e
  exact (List.getElem_inj nd).mp e2
def S (lt : Nat → Nat → Bool) (p : Array Nat) (m : Nat) : Prop := ∀ i j, i < j → j < m → lt (g p i) (g p j) = true
def D (lt : Nat → Nat → Bool) (p : Array Nat) (m : Nat) : Prop := ∀ i j, i < j → j < m → lt (g p j) (g p i) = true
variable (O : Ord n lt) (hc : ∀ i j C, i < n → j < n → i ≠ j → C (lt i j) s → cmp i j C s)
include O hc
end
end KS

namespace KS
open PySem PySem.W PyProof.Rows
/-! list.sort of a list of tuples of two texts, no two alike -/
def ltS (a b : Str) : Bool := decide (a.cps.toList < b.cps.toList)
def lt2 (x y : Str × Str) : Bool := if x.1 = y.1 then ltS x.2 y.2 else ltS x.1 y.1
/-- the tuple of two texts at a -/
def Two (h : Heap) (v : Value) (x : Str × Str) : Prop := ∃ a o t u n, v = .ref a ∧ h.get? a = some o ∧ o.cls = .type "tuple" ∧ o.data = .seq #[.str x.1 t, .str x.2 u] n
theorem Two.keep {h h' : Heap} {v : Value} {x : Str × Str} (q : Two h v x) (k : ∀ b o, h.get? b = some o → h'.get? b = some o) : Two h' v x := by
  obtain ⟨a, o, t, u, n, e, ho, r⟩ := q
  exact ⟨a, o, t, u, n, e, k _ _ ho, r⟩
section
variable {prog : Program} {w : World} {A : Around} {E : Value → Shared → Prop} {s : Shared} {Q : Bool → Shared → Prop}
end
/-- the order of the places of ks -/
def ltK (ks : List (Str × Str)) (i j : Nat) : Bool := lt2 (ks.getD i ("", "")) (ks.getD j ("", ""))
section
variable {prog : Program} {w : World} {A : Around} {E : Value → Shared → Prop} {s : Shared}
end
end KS

namespace L2
open PySem PySem.Spec PyProof.Rows PySem.W KS
/-! ### a dict's keys as a source; sorted(d) of shelves -/
section
variable {prog : Program} {w : World} {A : Around} {E : Value → Shared → Prop} {s : Shared} {d : Addr} {es : Array DictEntry} {ep : Nat}
end
theorem ObjOk.some {P : Program} {w : World} {H : Hp} {h : Heap} {a : Addr} {o : HO} (x : ObjOk P w H h a o) : ∃ ob, h.get? a = some ob := by
  cases o with
  | lst xs => obtain ⟨_, _, _, _, e⟩ := x; exact ⟨_, e⟩
  | tup xs => obtain ⟨_, _, _, p⟩ := x; obtain ⟨o, e, _⟩ := p; exact ⟨_, e⟩
  | dK kvs => obtain ⟨_, _, _, _, o, _, _, e, _⟩ := x; exact ⟨_, e⟩
  | dT kvs => obtain ⟨_, _, _, _, o, _, _, e, _⟩ := x; exact ⟨_, e⟩
  | dX ep kvs => obtain ⟨_, _, _, _, o, _, e, _⟩ := x; exact ⟨_, e⟩
  | set S n => obtain ⟨o, _, _, _, e, _⟩ := x; exact ⟨_, e⟩
  | ins C dx fs => obtain ⟨_, _, _, e, _⟩ := x; exact ⟨_, e⟩
  | own y => obtain ⟨_, e⟩ := x; exact ⟨_, e⟩
  | xd fs => obtain ⟨_, ⟨_, _, _, e, _⟩, _⟩ := x; exact ⟨_, e⟩
  | rng lo hi => obtain ⟨_, _, _, e⟩ := x; exact ⟨_, e⟩
  | frz ob u => obtain ⟨e, _⟩ := x; exact ⟨_, e⟩
  | tbl ps => exact ⟨_, (show h.get? a = Option.some _ from x)⟩
  | met f y => exact ⟨_, (show h.get? a = Option.some _ from x)⟩
  | ext φ => obtain ⟨_, ⟨_, e⟩, _⟩ := x; exact ⟨_, e⟩
abbrev shelfP (k : Str × Str) : KD := shelf k.1 k.2
def rSortedD : List V → Hp → VK → Prop := fun xs H Q => ∃ a ep kvs ks, xs = [.ref a] ∧ H a = some (.dX ep kvs) ∧ kvs.map (·.1) = ks.map shelfP ∧ kvs.length < 64 ∧
  ∀ l rs ks', H l = none → ks'.Perm ks → ks'.Pairwise (fun x y => lt2 x y = true) → Paired (fun (k : Str × Str) r => H r = some (.tup [.str k.1, .str k.2])) ks' rs → Q (.ref l) (upd H l (.lst (rs.map V.ref)))
end L2

namespace KS
open PySem PySem.W PyProof.Rows
def lexS : List Str → List Str → Bool
  | [], [] => false
  | [], _ :: _ => true
  | _ :: _, [] => false
  | x :: xs, y :: ys => if x = y then lexS xs ys else ltS x y
inductive Strs : List Value → List Str → Prop where
  | nil : Strs [] []
  | cons (a : Str) (t : Tok) {vs : List Value} {ss : List Str} (r : Strs vs ss) : Strs (.str a t :: vs) (a :: ss)
theorem Strs.length {vs : List Value} {ss : List Str} (h : Strs vs ss) : vs.length = ss.length := by
  induction h with
  | nil => rfl
  | cons _ _ _ ih => simp [ih]
section
open PySem.SeqAt
open PySem.AutoSeq1 (wpAny_loadPart')
open PySem.MeetsSeq PySem.MeetsSeq2 PySem.MeetsSeq3
end
end KS
namespace L2
open PySem PySem.Spec PyProof.Rows PySem.W KS
section
variable {X : Cx}
/-! ### t < u of tuples of two texts -/
def rLtP : R2 := fun x y H Q => ∃ a b k m, x = .ref a ∧ y = .ref b ∧ H a = some (.tup [.str (Prod.fst k), .str (Prod.snd k)]) ∧ H b = some (.tup [.str (Prod.fst m), .str (Prod.snd m)]) ∧ Q (.bl (lt2 k m)) H
end
/-- pairs of texts in a list -/
def twoD (k : Str × Str) : PyData := .tuple [.str k.1, .str k.2]
end L2

namespace L2
open PySem PySem.Spec PyProof.Rows PySem.W KS
/-! ### list(d) -/
def KeysAt (H : Hp) : List (KD × V) → List V → Prop := Paired fun kv y => KeyV H kv.1 y
theorem KeysAt.same {H H' : Hp} {kvs : List (KD × V)} {ys : List V} (h : KeysAt H kvs ys) (s : Same H H') : KeysAt H' kvs ys := Paired.mapP h fun _ _ e => e.same s
def rListD : List V → Hp → VK → Prop := fun xs H Q => ∃ a ep kvs, xs = [.ref a] ∧ H a = some (.dX ep kvs) ∧ ∀ l ys, H l = none → KeysAt H kvs ys → Q (.ref l) (upd H l (.lst ys))
/-! ### for k in d -/
def Itk (a : Addr) (ep n : Nat) : It :=
  ⟨fun i H => ∃ kvs kv, H a = some (.dX ep kvs) ∧ kvs.length = n ∧ kvs[i]? = some kv,
   fun i H x H' => H' = H ∧ ∃ kvs kv, H a = some (.dX ep kvs) ∧ kvs[i]? = some kv ∧ KeyV H kv.1 x,
   fun i H => (∃ kvs, H a = some (.dX ep kvs) ∧ kvs.length = n) ∧ n ≤ i⟩
def iKeys (te : TE) : TI := fun σ H R => te σ H fun x H1 => ∃ a ep kvs, x = .ref a ∧ H1 a = some (.dX ep kvs) ∧ R (Itk a ep kvs.length) H1
end L2

namespace L2
open PySem PySem.Spec PyProof.Rows PySem.W KS
/-! ### d.values(), sum of it -/
section
variable {prog : Program} {w : World} {A : Around} {E : Value → Shared → Prop} {s : Shared} {d r : Addr} {es : Array DictEntry} {ep : Nat}
end
def viewVO (v d : Addr) : HO := .ext fun h => h.IsValuesView v d
def rValues : V → List V → Hp → VK → Prop := fun x vs H Q => ∃ a ep kvs, x = .ref a ∧ vs = [] ∧ H a = some (.dX ep kvs) ∧ ∀ p, H p = none → Q (.ref p) (upd H p (viewVO p a))
def rSumV : List V → Hp → VK → Prop := fun xs H Q => ∃ v a ep ns, xs = [.ref v] ∧ H v = some (viewVO v a) ∧ H a = some (.dX ep (iv ns)) ∧ Q (.int (ns.map (·.2)).sum) H
end L2

namespace L2
open PySem PySem.Spec PyProof.Rows PySem.W KS
/-! ### d == e, d != e (by their entries) -/
section
variable {P : Program} {w : World} {A : Around} {E : Value → Shared → Prop} {s : Shared}
inductive HitsX (A : Around) (s : Shared) (ys : Tab) : Tab → Bool → Prop
  | nil : HitsX A s ys [] true
  | miss {k : KD} {u v : Value} {r : Tab} : atX ys k = none → HitsX A s ys ((k, u, v) :: r) false
  | hit {k : KD} {u v y : Value} {u' : Value} {r : Tab} {e b : Bool} : atX ys k = some (u', y) → SeqAt.EqAt A s v y e → HitsX A s ys r b → HitsX A s ys ((k, u, v) :: r) (e && b)
end
/-! sheets: the same numbers at the same keys -/
def sameS (a b : List (KD × Int)) : Bool := a.length == b.length && a.all fun p => decide (Sh.look b p.1 = some p.2)
def rEqX (neg : Bool) : R2 := fun x y H Q => ∃ p q ep ep' a b, x = .ref p ∧ y = .ref q ∧ H p = some (.dX ep (iv a)) ∧ H q = some (.dX ep' (iv b)) ∧ Q (.bl (xor neg (sameS a b))) H
section
variable {X : Cx}
end
end L2

/-! sums of a sheet's numbers, gathered by another key -/
namespace Sh
variable {κ μ : Type} [DecidableEq κ] [DecidableEq μ]
def by_ (f : κ → μ) (p : κ × Int) : μ × Int := (f p.1, p.2)
end Sh

namespace L2
open PySem PySem.Spec PyProof.Rows
open Sem (wp)

/-! ### dict(PAIRS), PAIRS a list of tuples of two -/
section
variable {P : Program} {w : World} {A : Around} {E : Value → Shared → Prop} {s : Shared}
def fillX (xs ts : Tab) : Tab := ts.foldl (fun a x => stoX a x.1 x.2.1 x.2.2) xs
/-- the pairs as they stand on the heap -/
def PrT (P : Program) (w : World) (h : Heap) (ts : Tab) (items : Array Value) : Prop :=
  ∀ (i : Nat) (x : KD × Value × Value), ts[i]? = some x → ∃ a n dd sl, items[i]? = some (.ref a) ∧ h.get? a = some { cls := .type "tuple", dict := dd, data := .seq #[x.2.1, x.2.2] n, slots := sl } ∧ KAt P w h x.1 x.2.1
end
def PrE (P : Program) (w : World) (h : Heap) (x : KD × Value × Value) (v : Value) : Prop :=
  ∃ a n dd sl, v = .ref a ∧ h.get? a = some { cls := .type "tuple", dict := dd, data := .seq #[x.2.1, x.2.2] n, slots := sl } ∧ KAt P w h x.1 x.2.1
def fillK (kvs : List (KD × V)) : List (KD × V) := kvs.foldl (fun a p => putK a p.1 p.2) []
/-- dict([(k, v), ..]) -/
def rDictP : List V → Hp → VK → Prop := fun xs H Q => ∃ l vs kvs, xs = [.ref l] ∧ H l = some (.lst vs) ∧ PairsAt H kvs vs ∧ ∀ d ep, H d = none → Q (.ref d) (upd H d (.dX ep (fillK kvs)))
end L2

namespace L2
open PySem PySem.Spec PyProof.Rows
open Sem (wp)

/-! ### xs.index(y), xs[::-1], {k: v} -/
def rIndex (K : PySem.W.Frag) : V → List V → Hp → VK → Prop := fun x vs H Q => ∃ p xs y z j, x = .ref p ∧ vs = [y] ∧ SqL K H p xs ∧ flatV y = true ∧ xs.all flatV = true ∧ xs[j]? = some z ∧ eqV z y = true ∧ (∀ m z', m < j → xs[m]? = some z' → eqV z' y = false) ∧ Q (.int (j : Nat)) H
theorem op_ink {X : Cx} {K : PySem.W.Frag} (hK : X.K = K) : OpR X (compareOp .In) (rIn K false) := hK ▸ op_in_seq
section
variable {X : Cx} {e st : Expr} {te : TE} {tk : TO} {pos p2 : Pos}
def tRev (K : PySem.W.Frag) (te : TE) (tk : TO) : TE := fun σ H Q => te σ H fun x H1 => tk σ H1 fun k H2 => ∃ a xs, x = .ref a ∧ k = some (-1) ∧ SqL K H2 a xs ∧ ∀ p, H2 p = none → Q (.ref p) (upd H2 p (.lst xs.reverse))
end
section
variable {X : Cx} {ek ev : Expr} {tk tv : TE} {pos : Pos}
def tX1 (tk tv : TE) : TE := fun σ H Q => ∀ p, H p = none → tk σ (upd H p (.dX 0 [])) fun y H1 => tv σ H1 fun z H2 => ∃ k, KeyV H2 k y ∧ H2 p = some (.dX 0 []) ∧ Q (.ref p) (upd H2 p (.dX 1 [(k, z)]))
end
end L2

namespace L2
open PySem PySem.Spec PyProof.Rows KS
open Sem (wp)

/-! ### rows on the heap: a dict from shelves to lists of texts -/
abbrev Rw := (Str × Str) × Addr × List Str
def rwV (es : List Rw) : List (KD × V) := es.map fun e => (shelfP e.1, V.ref e.2.1)
def stripR (es : List Rw) : List ((Str × Str) × List Str) := es.map fun e => (e.1, e.2.2)
structure RowsAt (H : Hp) (d : Addr) (es : List Rw) : Prop where
  dct : ∃ ep, H d = some (.dX ep (rwV es))
  lst : ∀ e ∈ es, H e.2.1 = some (.lst (e.2.2.map V.str))
  nd : (es.map (·.1)).Nodup
theorem RowsAt.same {H H' : Hp} {d : Addr} {es : List Rw} (h : RowsAt H d es) (s : Same H H') : RowsAt H' d es := ⟨let ⟨ep, e⟩ := h.dct; ⟨ep, s _ _ e⟩, fun e he => s _ _ (h.lst e he), h.nd⟩
theorem valV_rw : ∀ {es : List Rw} {e : Rw}, (es.map (·.1)).Nodup → e ∈ es → valV (rwV es) (shelfP e.1) = some (.ref e.2.1)
  | x :: es, e, nd, he => by
    rw [List.map_cons, List.nodup_cons] at nd
    rcases List.mem_cons.mp he with rfl | h
    · exact valV_pos rfl
    · have hne : ¬ shelfP x.1 = shelfP e.1 := fun q => by
        obtain ⟨q1, q2⟩ := shelf_inj q
        exact nd.1 (List.mem_map.mpr ⟨e, h, Prod.ext q1.symm q2.symm⟩)
      show valV ((shelfP x.1, V.ref x.2.1) :: rwV es) (shelfP e.1) = _
      rw [valV_neg hne]
      exact valV_rw nd.2 h
theorem valV_rw_none : ∀ {es : List Rw} {k : Str × Str}, k ∉ es.map (·.1) → valV (rwV es) (shelfP k) = none
  | [], _, _ => rfl
  | x :: es, k, h => by
    rw [List.map_cons, List.mem_cons, not_or] at h
    have hne : ¬ shelfP x.1 = shelfP k := fun q => by
      obtain ⟨q1, q2⟩ := shelf_inj q
      exact h.1 (Prod.ext q1.symm q2.symm)
    show valV ((shelfP x.1, V.ref x.2.1) :: rwV es) (shelfP k) = _
    rw [valV_neg hne]
    exact valV_rw_none h.2
def strsD (ss : List Str) : PyData := .list (ss.map PyData.str)
theorem flat_strs (ss : List Str) : (ss.map V.str).all flatV = true := by
  rw [List.all_map, List.all_eq_true]
  intro s _
  rfl
theorem inV_strs (s : Str) (ss : List Str) : inV (.str s) (ss.map V.str) = decide (s ∈ ss) := by
  unfold inV
  rw [List.any_map, Bool.eq_iff_iff, List.any_eq_true, decide_eq_true_eq]
  constructor
  · rintro ⟨x, hx, e⟩
    have e : (x == s) = true := e
    rw [← eq_of_beq e]
    exact hx
  · intro h
    exact ⟨s, h, beq_self_eq_true s⟩
/-- s in ss, s not in ss -/
theorem in_strs {K : PySem.W.Frag} {H : Hp} {p : Addr} {ss : List Str} {s : Str} {Q : VK} (hp : H p = some (.lst (ss.map V.str))) (k : Q (.bl (decide (s ∈ ss))) H) : rIn K false (.str s) (.ref p) H Q :=
  ⟨p, _, rfl, .inl (SqL.of hp), rfl, flat_strs ss, by rw [inV_strs]; exact k⟩
/-! ### names that break a row -/
def brcS (f : Str → Bool) : Option Str → List Str → Option (Str × Str)
  | _, [] => none
  | none, x :: r => if f x then brcS f none r else brcS f (some x) r
  | some a, x :: r => if f x then some (a, x) else brcS f (some a) r
def shwP (f : Str → Bool) (row : List Str) : Option (Str × Str) :=
  match row.filter (fun s => !f s) with
  | [] => none
  | a :: _ => match (row.drop (row.idxOf a)).filter f with
    | [] => none
    | b :: _ => some (a, b)
/-! ### the first shelf in the order of shelves -/
def cont (ps : List ((Str × Str) × List Str)) (k : Str × Str) : List Str := ((ps.find? fun p => decide (p.1 = k)).map (·.2)).getD []
def dueP (ps : List ((Str × Str) × List Str)) (f : Str → Bool) (ks : List (Str × Str)) : Option ((Str × Str) × Str × Str) := ks.findSome? fun k => (brcS f none (cont ps k)).map fun r => (k, r)
/-- what broken tells -/
def ResAt (H : Hp) (v : V) : Option ((Str × Str) × Str × Str) → Prop
  | none => v = .non
  | some (k, a, b) => ∃ t t2, v = .ref t ∧ H t = some (.tup [.ref t2, .str a, .str b]) ∧ H t2 = some (.tup [.str k.1, .str k.2])
theorem ResAt.same {H H' : Hp} {v : V} : ∀ {r : Option ((Str × Str) × Str × Str)}, ResAt H v r → Same H H' → ResAt H' v r
  | none, h, _ => h
  | some (k, a, b), ⟨t, t2, e, h1, h2⟩, s => ⟨t, t2, e, s _ _ h1, s _ _ h2⟩
def ResAt2 (H : Hp) (v : V) : Option (Str × Str) → Prop
  | none => v = .non
  | some (a, b) => ∃ t, v = .ref t ∧ H t = some (.tup [.str a, .str b])
/-! ### a dict of names -/
def mkd (ss : List Str) : List (KD × V) := ss.map fun s => (.inl (.inr s), .bl true)
theorem at_strs {ss : List Str} {j : Int} (j0 : 0 ≤ j) (j1 : j < ss.length) : atI (ss.map V.str) j = some (.str (ss.getD j.toNat "")) ∧ ss.getD j.toNat "" ∈ ss := by
  refine ⟨?_, ?_⟩
  · rw [atI_lt (.str "") j0 (by rw [List.length_map]; exact j1)]
    rw [List.getD_eq_getElem?_getD, List.getD_eq_getElem?_getD, List.getElem?_map]
    cases ss[j.toNat]? <;> rfl
  · rw [List.getD_eq_getElem?_getD, List.getElem?_eq_getElem (by omega)]
    exact List.getElem_mem _
def putR (es : List Rw) (k : Str × Str) (r : Addr) (zs : List Str) : List Rw := if k ∈ es.map (·.1) then es.map (fun e => if e.1 = k then (k, r, zs) else e) else es ++ [(k, r, zs)]
theorem shelfP_inj {a b : Str × Str} (h : shelfP a = shelfP b) : a = b := by
  obtain ⟨q1, q2⟩ := shelf_inj h
  exact Prod.ext q1 q2
theorem putK_rw (es : List Rw) (k : Str × Str) (r : Addr) (zs : List Str) : putK (rwV es) (shelfP k) (.ref r) = rwV (putR es k r zs) := by
  unfold putK putR
  by_cases h : k ∈ es.map (·.1)
  · have ha : ((rwV es).any fun kv => decide (kv.1 = shelfP k)) = true := by
      obtain ⟨e, he, rfl⟩ := List.mem_map.mp h
      exact List.any_eq_true.mpr ⟨_, List.mem_map.mpr ⟨e, he, rfl⟩, decide_eq_true rfl⟩
    rw [if_pos ha, if_pos h]
    unfold rwV
    rw [List.map_map, List.map_map]
    refine List.map_congr_left fun e _ => ?_
    simp only [Function.comp]
    by_cases he : e.1 = k
    · rw [if_pos (by rw [he]), if_pos he, he]
    · rw [if_neg (fun q => he (shelfP_inj q)), if_neg he]
  · have ha : ¬ ((rwV es).any fun kv => decide (kv.1 = shelfP k)) = true := fun q => by
      obtain ⟨kv, h1, h2⟩ := List.any_eq_true.mp q
      obtain ⟨e, he, rfl⟩ := List.mem_map.mp h1
      exact h (List.mem_map.mpr ⟨e, he, shelfP_inj (of_decide_eq_true h2)⟩)
    rw [if_neg ha, if_neg h]
    unfold rwV
    rw [List.map_append]
    rfl
theorem putR_mem {es : List Rw} {k : Str × Str} {r : Addr} {zs : List Str} {e : Rw} (h : e ∈ putR es k r zs) : e ∈ es ∨ e = (k, r, zs) := by
  unfold putR at h
  split at h
  · obtain ⟨x, hx, rfl⟩ := List.mem_map.mp h
    split
    · exact .inr rfl
    · exact .inl hx
  · rcases List.mem_append.mp h with h | h
    · exact .inl h
    · exact .inr (List.mem_singleton.mp h)
theorem putR_nd {es : List Rw} (nd : (es.map (·.1)).Nodup) (k : Str × Str) (r : Addr) (zs : List Str) : ((putR es k r zs).map (·.1)).Nodup := by
  unfold putR
  split
  · rw [List.map_map]
    have : es.map ((·.1) ∘ fun e => if e.1 = k then (k, r, zs) else e) = es.map (·.1) := List.map_congr_left fun e _ => by
      simp only [Function.comp]
      split
      · rename_i h; exact h.symm
      · rfl
    rw [this]
    exact nd
  · rename_i h
    rw [List.map_append, List.nodup_append]
    refine ⟨nd, by simp, fun a ha b hb e1 => ?_⟩
    rw [List.mem_singleton.mp hb] at e1
    have e2 : a = k := e1
    exact h (e2 ▸ ha)
theorem RowsAt.put {H : Hp} {d : Addr} {es : List Rw} (h : RowsAt H d es) {k : Str × Str} {r : Addr} {zs : List Str} (hr : H r = some (.lst (zs.map V.str))) (ep : Nat) : RowsAt (upd H d (.dX ep (putK (rwV es) (shelfP k) (.ref r)))) d (putR es k r zs) := by
  obtain ⟨ep0, hd⟩ := h.dct
  have hne : ∀ q ys, H q = some (.lst ys) → q ≠ d := fun q ys hq e1 => by
    rw [e1, hd] at hq
    cases hq
  refine ⟨⟨ep, by rw [upd_same, putK_rw es k r zs]⟩, fun e he => ?_, putR_nd h.nd k r zs⟩
  rcases putR_mem he with h1 | rfl
  · have := h.lst e h1
    rw [upd_ne (hne _ _ this)]
    exact this
  · show upd H d _ r = _
    rw [upd_ne (hne _ _ hr)]
    exact hr
def resD (k : Str × Str) (a b : Str) : PyData := .tuple [.tuple [.str k.1, .str k.2], .str a, .str b]
/-- a cut between two statements: what is left to show of the first one hangs on no more than R -/
theorem seq_cut {t1 t2 : TS} {D : Ends} {σ : St} {H : Hp} (R : St → Hp → Prop) (g : ∀ N : St → Hp → Prop, (∀ σ' H', R σ' H' → N σ' H') → t1 { D with nx := N } σ H) (h : ∀ σ' H', R σ' H' → t2 D σ' H') : tSeq t1 t2 D σ H := g (fun σ' H' => t2 D σ' H') h
end L2

namespace L2
open PySem PySem.Spec PyProof.Rows KS
open Sem (wp)

/-! ### rows with their lists' addresses: new ones, no two alike; what they hold as a function of the shelf -/
abbrev RFn := Str × Str → List Str
structure RF (H0 H : Hp) (d : Addr) (es : List Rw) (F : RFn) : Prop where
  at_ : RowsAt H d es
  fr : ∀ e ∈ es, H0 e.2.1 = none
  an : (es.map (·.2.1)).Nodup
  val : ∀ e ∈ es, e.2.2 = F e.1
  ne : ∀ e ∈ es, e.2.2 ≠ []
  all : ∀ k, F k ≠ [] → k ∈ es.map (·.1)
theorem RF.same {H0 H H' : Hp} {d : Addr} {es : List Rw} {F : RFn} (R : RF H0 H d es F) (s : Same H H') : RF H0 H' d es F := ⟨R.at_.same s, R.fr, R.an, R.val, R.ne, R.all⟩
theorem RF.congr {H0 H : Hp} {d : Addr} {es : List Rw} {F F' : RFn} (R : RF H0 H d es F) (h : ∀ k, F k = F' k) : RF H0 H d es F' := by
  have : F = F' := funext h
  exact this ▸ R
/-- a function of rows over few shelves -/
structure FOk (U : List (Str × Str)) (m : Nat) (F : RFn) : Prop where
  sub : ∀ k, F k ≠ [] → k ∈ U
  len : ∀ k, (F k).length ≤ m
  good : ∀ k, ∀ s ∈ F k, goodNm s
theorem FOk.mono {U : List (Str × Str)} {m m' : Nat} {F : RFn} (h : FOk U m F) (hm : m ≤ m') : FOk U m' F := ⟨h.sub, fun k => Nat.le_trans (h.len k) hm, h.good⟩
theorem RF.few {H0 H : Hp} {d : Addr} {es : List Rw} {F : RFn} (R : RF H0 H d es F) {U : List (Str × Str)} {m : Nat} (h : FOk U m F) : es.length ≤ U.length := by
  have := nodup_sub_len (a := es.map (·.1)) (b := U) R.at_.nd fun k hk => by
    obtain ⟨e, he, rfl⟩ := List.mem_map.mp hk
    exact h.sub _ (by rw [← R.val e he]; exact R.ne e he)
  rw [List.length_map] at this
  exact this
theorem RF.keys {H0 H H0' H' : Hp} {d d' : Addr} {es es' : List Rw} {F : RFn} (R : RF H0 H d es F) (R' : RF H0' H' d' es' F) {e : Rw} (he : e ∈ es) : ∃ e' ∈ es', e'.1 = e.1 ∧ e'.2.2 = e.2.2 := by
  obtain ⟨e', he', h⟩ := List.mem_map.mp (R'.all e.1 (by rw [← R.val e he]; exact R.ne e he))
  exact ⟨e', he', h, by rw [R'.val e' he', R.val e he, h]⟩
def setF (F : RFn) (k : Str × Str) (zs : List Str) : RFn := fun k' => if k' = k then zs else F k'
theorem putR_an : ∀ {es : List Rw} {k : Str × Str} {r : Addr} {zs : List Str}, (es.map (·.1)).Nodup → (es.map (·.2.1)).Nodup → (∀ e ∈ es, e.2.1 ≠ r) → ((putR es k r zs).map (·.2.1)).Nodup := by
  intro es k r zs nk na hr
  unfold putR
  split
  · rename_i hk0
    clear hk0
    induction es with
    | nil => simp
    | cons x es ih =>
      rw [List.map_cons, List.nodup_cons] at nk na
      rw [List.map_cons, List.map_cons, List.nodup_cons]
      refine ⟨fun hm => ?_, ih nk.2 na.2 fun e he => hr e (List.mem_cons_of_mem _ he)⟩
      obtain ⟨y, hy, e1⟩ := List.mem_map.mp hm
      obtain ⟨z, hz, rfl⟩ := List.mem_map.mp hy
      have hzr := hr z (List.mem_cons_of_mem _ hz)
      have hxr := hr x List.mem_cons_self
      by_cases h1 : x.1 = k
      · rw [if_pos h1] at e1
        by_cases h2 : z.1 = k
        · exact nk.1 (List.mem_map.mpr ⟨z, hz, by rw [h1, h2]⟩)
        · rw [if_neg h2] at e1
          exact hzr e1
      · rw [if_neg h1] at e1
        by_cases h2 : z.1 = k
        · rw [if_pos h2] at e1
          exact hxr e1.symm
        · rw [if_neg h2] at e1
          exact na.1 (List.mem_map.mpr ⟨z, hz, e1⟩)
  · rw [List.map_append, List.nodup_append]
    refine ⟨na, by simp, fun a ha b hb e1 => ?_⟩
    obtain ⟨e, he, rfl⟩ := List.mem_map.mp ha
    rw [List.mem_singleton.mp hb] at e1
    exact hr e he e1
theorem putR_val {es : List Rw} {F : RFn} (nk : (es.map (·.1)).Nodup) {k : Str × Str} {r : Addr} {zs : List Str} (h : ∀ e ∈ es, e.2.2 = F e.1) : ∀ e ∈ putR es k r zs, e.2.2 = setF F k zs e.1 := by
  intro e he
  unfold putR at he
  unfold setF
  split at he
  · obtain ⟨x, hx, rfl⟩ := List.mem_map.mp he
    by_cases h1 : x.1 = k
    · rw [if_pos h1, if_pos rfl]
    · rw [if_neg h1, if_neg h1]; exact h x hx
  · rename_i hk
    rcases List.mem_append.mp he with h1 | h1
    · have : e.1 ≠ k := fun q => hk (List.mem_map.mpr ⟨e, h1, q⟩)
      rw [if_neg this]; exact h e h1
    · rw [List.mem_singleton.mp h1, if_pos rfl]
theorem putR_keys {es : List Rw} {k k' : Str × Str} {r : Addr} {zs : List Str} (h : k' = k ∨ k' ∈ es.map (·.1)) : k' ∈ (putR es k r zs).map (·.1) := by
  unfold putR
  split
  · rename_i hk
    have hm : k' ∈ es.map (·.1) := by
      rcases h with rfl | h
      · exact hk
      · exact h
    obtain ⟨e, he, rfl⟩ := List.mem_map.mp hm
    refine List.mem_map.mpr ⟨_, List.mem_map.mpr ⟨e, he, rfl⟩, ?_⟩
    split
    · rename_i h1; exact h1.symm
    · rfl
  · rw [List.map_append]
    rcases h with rfl | h
    · exact List.mem_append_right _ (by simp)
    · exact List.mem_append_left _ h
theorem RF.put {H0 H : Hp} {d : Addr} {es : List Rw} {F : RFn} (R : RF H0 H d es F) {k : Str × Str} {r : Addr} {zs : List Str} (hr : H r = some (.lst (zs.map V.str))) (hz : zs ≠ []) (hr0 : H0 r = none) (hrn : ∀ e ∈ es, e.2.1 ≠ r) (ep : Nat) :
    RF H0 (upd H d (.dX ep (putK (rwV es) (shelfP k) (.ref r)))) d (putR es k r zs) (setF F k zs) := by
  refine ⟨R.at_.put hr ep, fun e he => ?_, putR_an R.at_.nd R.an hrn, putR_val R.at_.nd R.val, fun e he => ?_, fun k' hk' => ?_⟩
  · rcases putR_mem he with h | rfl
    · exact R.fr e h
    · exact hr0
  · rcases putR_mem he with h | rfl
    · exact R.ne e h
    · exact hz
  · unfold setF at hk'
    by_cases h : k' = k
    · exact putR_keys (.inl h)
    · rw [if_neg h] at hk'
      exact putR_keys (.inr (R.all k' hk'))
theorem RF.nil {H0 H : Hp} {d : Addr} {ep : Nat} (h : H d = some (.dX ep [])) : RF H0 H d [] (fun _ => []) := ⟨⟨⟨ep, h⟩, by simp, by simp⟩, by simp, by simp, by simp, by simp, fun k hk => absurd rfl hk⟩
/-- what stands under a shelf, or the empty list -/
theorem RF.get {H0 H : Hp} {d : Addr} {es : List Rw} {F : RFn} (R : RF H0 H d es F) (k : Str × Str) {pe : Addr} (hpe : H pe = some (.lst [])) : ∃ b, (valV (rwV es) (shelfP k)).getD (.ref pe) = .ref b ∧ H b = some (.lst ((F k).map V.str)) := by
  by_cases h : k ∈ es.map (·.1)
  · obtain ⟨e, he, rfl⟩ := List.mem_map.mp h
    refine ⟨e.2.1, by rw [valV_rw R.at_.nd he]; rfl, ?_⟩
    rw [← R.val e he]
    exact R.at_.lst e he
  · refine ⟨pe, by rw [valV_rw_none h]; rfl, ?_⟩
    have : F k = [] := by
      by_cases q : F k = []
      · exact q
      · exact absurd (R.all k q) h
    rw [this]
    exact hpe
/-- rows built one by one of others -/
def resF (es : List Rw) (i : Nat) (G : RFn) : RFn := fun k => if k ∈ (es.take i).map (·.1) then G k else []
def addF (F : RFn) (nm : Str) (ks : List (Str × Str)) : RFn := fun k => if k ∈ ks then F k ++ [nm] else F k
def lessF (F : RFn) (ss : List Str) : RFn := fun k => (F k).filter fun s => !decide (s ∈ ss)
/-! ### what changed: the lists at some addresses alone -/
def Mt (As : List Addr) (H H' : Hp) : Prop := ∀ b o, b ∉ As → H b = some o → H' b = some o
theorem Mt.refl (As : List Addr) (H : Hp) : Mt As H H := fun _ _ _ h => h
theorem Mt.trans {As : List Addr} {H H1 H2 : Hp} (a : Mt As H H1) (b : Mt As H1 H2) : Mt As H H2 := fun c o n h => b c o n (a c o n h)
theorem Mt.of {As : List Addr} {H H' : Hp} (s : Same H H') : Mt As H H' := fun c o _ h => s c o h
theorem Mt.upd {As : List Addr} {H : Hp} {p : Addr} {o : HO} (h : p ∈ As) : Mt As H (L2.upd H p o) := fun c u n e => by
  have hne : c ≠ p := fun q => n (by rw [q]; exact h)
  rw [upd_ne hne]
  exact e
theorem Mt.more {As Bs : List Addr} {H H' : Hp} (m : Mt As H H') (h : ∀ a ∈ As, a ∈ Bs) : Mt Bs H H' := fun c o n e => m c o (fun q => n (h c q)) e
def morE (w : Str) (e : Rw) : Rw := (e.1, e.2.1, e.2.2 ++ [w])
def partM (w : Str) (es : List Rw) (j : Nat) : List Rw := (es.take j).map (morE w) ++ es.drop j
theorem rwV_part (w : Str) (es : List Rw) (j : Nat) : rwV (partM w es j) = rwV es := by
  unfold partM rwV
  rw [List.map_append, List.map_map]
  have : (es.take j).map ((fun e : Rw => (shelfP e.1, V.ref e.2.1)) ∘ morE w) = (es.take j).map fun e : Rw => (shelfP e.1, V.ref e.2.1) := rfl
  rw [this, ← List.map_append, List.take_append_drop]
theorem part_get (w : Str) {es : List Rw} {j : Nat} {e : Rw} (he : es[j]? = some e) : partM w es j = (es.take j).map (morE w) ++ e :: es.drop (j + 1) ∧ partM w es (j + 1) = (es.take j).map (morE w) ++ morE w e :: es.drop (j + 1) := by
  obtain ⟨h1, h2⟩ := List.getElem?_eq_some_iff.mp he
  unfold partM
  refine ⟨by rw [List.drop_eq_getElem_cons h1, h2], ?_⟩
  rw [List.take_add_one, he, List.map_append, List.append_assoc]
  rfl
theorem KeysAt.lst {H : Hp} {kvs : List (KD × V)} {ys : List V} {p : Addr} {xs : List V} {o : HO} (h : KeysAt H kvs ys) (hp : H p = some (.lst xs)) : KeysAt (upd H p o) kvs ys :=
  Paired.mapP h fun kv y hy => hy.mono fun b zs hb => by
    have hne : b ≠ p := fun q => by rw [q, hp] at hb; cases hb
    rw [upd_ne hne]
    exact hb
/-- one more list of them has the word at its end -/
theorem RowsAt.step {H : Hp} {d : Addr} {es : List Rw} {w : Str} {j : Nat} {e : Rw} (R : RowsAt H d (partM w es j)) (an : (es.map (·.2.1)).Nodup) (he : es[j]? = some e) : H e.2.1 = some (.lst (e.2.2.map V.str)) ∧ RowsAt (upd H e.2.1 (.lst (e.2.2.map V.str ++ [.str w]))) d (partM w es (j + 1)) := by
  obtain ⟨p1, p2⟩ := part_get w he
  have hR := R.lst
  rw [p1] at hR
  have h1 : H e.2.1 = some (.lst (e.2.2.map V.str)) := hR e (List.mem_append_right _ List.mem_cons_self)
  refine ⟨h1, ?_⟩
  have key : (partM w es (j + 1)).map (·.1) = (partM w es j).map (·.1) := by
    have a := congrArg (List.map (·.1)) (rwV_part w es (j + 1))
    have b := congrArg (List.map (·.1)) (rwV_part w es j)
    unfold rwV at a b
    rw [List.map_map, List.map_map] at a b
    have c := a.trans b.symm
    have inj : ∀ {l l' : List Rw}, l.map ((fun x : KD × V => x.1) ∘ fun e => (shelfP e.1, V.ref e.2.1)) = l'.map ((fun x : KD × V => x.1) ∘ fun e => (shelfP e.1, V.ref e.2.1)) → l.map (·.1) = l'.map (·.1) := by
      intro l
      induction l with
      | nil => intro l' h; cases l' with | nil => rfl | cons y l' => cases h
      | cons x l ih =>
        intro l' h
        cases l' with
        | nil => cases h
        | cons y l' =>
          rw [List.map_cons, List.map_cons] at h
          injection h with h1 h2
          rw [List.map_cons, List.map_cons, ih h2, shelfP_inj h1]
    exact inj c
  obtain ⟨ep, hd⟩ := R.dct
  have hne : d ≠ e.2.1 := fun q => by rw [q, h1] at hd; cases hd
  refine ⟨⟨ep, ?_⟩, fun x hx => ?_, by rw [key]; exact R.nd⟩
  · rw [upd_ne hne, rwV_part, ← rwV_part w es j]; exact hd
  · rw [p2] at hx
    have an' : ((es.take j).map (·.2.1) ++ e.2.1 :: (es.drop (j + 1)).map (·.2.1)).Nodup := by
      have : es = es.take j ++ e :: es.drop (j + 1) := by
        obtain ⟨h1, h2⟩ := List.getElem?_eq_some_iff.mp he
        rw [← h2, ← List.drop_eq_getElem_cons h1, List.take_append_drop]
      rw [this, List.map_append, List.map_cons] at an
      exact an
    rw [List.nodup_append] at an'
    obtain ⟨a1, a2, a3⟩ := an'
    rw [List.nodup_cons] at a2
    rcases List.mem_append.mp hx with hx | hx
    · have hold := hR x (List.mem_append_left _ hx)
      obtain ⟨y, hy, rfl⟩ := List.mem_map.mp hx
      have : y.2.1 ≠ e.2.1 := a3 _ (List.mem_map.mpr ⟨y, hy, rfl⟩) _ List.mem_cons_self
      show upd H e.2.1 _ y.2.1 = _
      rw [upd_ne this]
      exact hold
    · rcases List.mem_cons.mp hx with rfl | hx
      · show upd H e.2.1 _ e.2.1 = some (.lst ((e.2.2 ++ [w]).map V.str))
        rw [upd_same, List.map_append]
        rfl
      · have hold := hR x (List.mem_append_right _ (List.mem_cons_of_mem _ hx))
        have : x.2.1 ≠ e.2.1 := fun q => a2.1 (by rw [← q]; exact List.mem_map.mpr ⟨x, hx, rfl⟩)
        rw [upd_ne this]
        exact hold
def TwosAt (H : Hp) : List (Str × Str) → List Addr → Prop := Paired fun (k : Str × Str) r => H r = some (.tup [.str k.1, .str k.2])
theorem TwosAt.same {H H' : Hp} {ks : List (Str × Str)} {rs : List Addr} (h : TwosAt H ks rs) (s : Same H H') : TwosAt H' ks rs := Paired.mapP h fun _ _ e => s _ _ e
def givers (ls : List Leg) : List (Str × Str) := ls.map fun l => (l.1, l.2.2.1)
def unsh : KD → Str × Str
  | .inr [.inr a, .inr b] => (a, b)
  | _ => ("", "")
end L2

namespace L2
open PySem PySem.Spec PyProof.Rows
open Sem (wp)

/-! ### exceptions: raised in a def, caught in its caller -/
/-- what lies behind a call that raised: over B, the heap at the raise without the frames -/
structure Thrown (P : Program) (w : World) (outer : List Env) (H : Hp) (s : Shared) (B : Heap) (H' : Hp) : Prop where
  old : ∀ b o, s.heap.get? b = some o → H b = none → b ∉ frs outer → B.get? b = some o
  fre : ∀ b o, s.heap.get? b = some o → H b = none → H' b = none
  thr : ∀ b o, s.heap.get? b = some o → b ∉ frs outer → ∃ o', B.get? b = some o'
  tups : ∀ b xs, H b = some (.tup xs) → H' b = some (.tup xs)
  frzs : ∀ b o u, H b = some (.frz o u) → H' b = some (.frz o u)
  tbls : ∀ b ps, H b = some (.tbl ps) → ∃ more, H' b = some (.tbl (ps ++ more))
  hok : HOk P w H' B
def CXe (P : Program) (w : World) : CXT := fun outer H s E e s' => ∃ (xa C : Addr) (a0 : Value) (B : Heap) (H' : Hp), e = .ref xa ∧ s'.os = s.os ∧ AllBare s'.gens ∧ Thrown P w outer H s B H' ∧ Heap.FlyingW B outer xa (.ref C) a0 s'.heap ∧
  (∀ b o, s.heap.get? b = some o → H b = none → b ∈ frs outer → ∃ sl, s'.heap.get? b = some { o with slots := sl }) ∧ H' xa = none ∧ E (.ref C) none H'
section
variable {X : Cx} {pins : List (Addr × Obj)} {σ : St} {H : Hp} {s : Shared}
theorem stk_mem (hst : X.stack = X.env :: X.outer) (hf : X.env.frame = some X.env.locals) (b : Addr) : b ∈ frs X.stack ↔ b = X.env.locals ∨ b ∈ frs X.outer := by
  rw [hst]
  unfold frs
  rw [List.filterMap_cons, hf, List.mem_cons]
theorem thrown_of (I : Inv X pins σ H s) (hst : X.stack = X.env :: X.outer) (hf : X.env.frame = some X.env.locals) (hex : X.ex = []) : Thrown X.prog X.w X.outer X.H₀ X.s₀ (PySem.W.hideAll s.heap (frs X.stack)) H := by
  have nx : ∀ b : Addr, b ∉ X.ex := fun b => by rw [hex]; simp
  have nl : ∀ b o, X.s₀.heap.get? b = some o → b ∉ frs X.outer → b ∉ frs X.stack := fun b o e hb hm => by
    rcases (stk_mem hst hf b).mp hm with q | q
    · exact absurd (Nat.lt_of_lt_of_le (Heap.lt_size e) I.ok.above) (by rw [q]; exact Nat.lt_irrefl _)
    · exact hb q
  refine ⟨fun b o e n hb => ?_, fun b o e n => I.base.free b o e n (nx b), fun b o e hb => ?_, I.base.tups, I.base.frzs, I.base.tbls, fun a o e => ?_⟩
  · exact PySem.W.hideAll_get _ (I.base.keep b o e n hb (nx b)) (nl b o e hb)
  · obtain ⟨o', e'⟩ := I.base.there b o e (nx b)
    exact ⟨o', PySem.W.hideAll_get _ e' (nl b o e hb)⟩
  · refine (I.hok a o e).stay (fun b u hb q => PySem.W.hideAll_get _ q fun hm => ?_) (fun _ q => q) fun _ _ q => q
    have hn := I.stkFree b hm
    rcases hb with rfl | z
    · rw [hn] at e; cases e
    · rw [hn] at z; cases z
theorem exc_obj {K : PySem.W.Frag} {h : Heap} {C : Addr} {bmB : List Value} {newId : String} (X : K.In h) (q : PySem.W.excIn K C bmB newId = true) :
    ∃ (bm : List Value) (N : Addr) (nm qn : Str) (bs : List Value) (hd : Bool) (sn : List Str) (sub : List Value) (ab : Bool) (col : Option Bool) (dd : Option Addr) (k0 k1 k2 k3 k5 : Option Value) (mN : Str → Option Value),
      h.get? C = some (excClassObj nm qn C N bs bm hd sn sub ab col dd k0 k1 k2 k3 k5 newId) ∧ h.Ns N mN ∧ mN "__init__" = none ∧ OwnTail h bmB bm := by
  unfold PySem.W.excIn at q
  split at q
  · rename_i dd cd sl ho
    split at q
    · rename_i C' bm k0 k1 k2 k3 n k5 hm hs
      simp only [Bool.and_eq_true, beq_iff_eq, Bool.not_eq_true'] at q
      obtain ⟨⟨⟨⟨⟨rfl, rfl⟩, hdel⟩, ht⟩, hok⟩, hni⟩ := q
      obtain ⟨nm, bs, mro, ns, qn, hd, sn, sub, ab, col, del⟩ := cd
      dsimp only at hm hdel hok hni
      subst hm hdel
      have hsl : sl = #[k0, k1, k2, k3, some (.builtin n), k5] := by
        obtain ⟨l⟩ := sl
        simp only at hs
        rw [hs]
      subst hsl
      exact ⟨bm, ns, nm, qn, bs, hd, sn, sub, ab, col, dd, k0, k1, k2, k3, k5, _, X _ _ ho, .of_isNs (PySem.W.isNs_of_in X hok), PySem.W.nsMap_none_of_in X hok hni, PySem.W.tail_of_in X ht⟩
    · cases q
  · cases q
/-- raise C(a, ..) -/
def tRaise (C : Addr) (E : XK) (t : TA) : TS := fun _ σ H => t σ H fun vs H1 => vs.length ≤ sizeLine ∧ E (.ref C) none H1
theorem ps_raise {C : Addr} {x : Str} {np cpos pos : Pos} {a : Expr} {as : List Expr} {t : TA} {E : XK} {bmB : List Value} {Bn newId initId : String} (F : ExcBaseFacts Bn newId initId bmB) (hg : Gl X x) (hm : X.mg x = some (.ref C)) (hq : PySem.W.excIn X.K C bmB newId = true)
    (hc : X.calm = true) (hst : X.stack = X.env :: X.outer) (hf : X.env.frame = some X.env.locals) (hex : X.ex = [])
    (hxe : ∀ e s', wpAny (model X.prog X.w) X.A (leaving X.env e) (fun _ s'' => CXe X.prog X.w X.outer X.H₀ X.s₀ E e s'') (fun e' s'' => CXe X.prog X.w X.outer X.H₀ X.s₀ E e' s'') s' → X.xe e s')
    (ha : PA X (a :: as) t) (hd : (x == ("__debug__" : Str)) = false := by decide) (he : starEach (a :: as) X.env = (false, eval a X.env) :: starEach as X.env := by rfl) (hpl : (backTo cpos (starEach (a :: as) X.env)).any (·.1) = false := by rfl) :
    PS X (.Raise (some (.Call (.Name x np) (a :: as) [] cpos)) none pos) (tRaise C E t) := by
  intro pins s σ H D I h
  obtain ⟨bm, N, nm, qn, bs, hdc, sn, sub, ab, col, dd, k0, k1, k2, k3, k5, mN, hC, hN, hni, TL⟩ := exc_obj I.mod.kin hq
  refine wpAny_Raise_call_subT (C := C) (N := N) (nm := nm) (q := qn) (bs := bs) (bm := bm) (hdct := hdc) (sn := sn) (sub := sub) (ab := ab) (col := col) (dd := dd) (k0 := k0) (k1 := k1) (k2 := k2) (k3 := k3) (k5 := k5) F (TL.hasType F.hasBase) (I.ok.hd hc) hpl hni ?_
  refine ld_glob I hg hm ⟨rfl, ?_⟩ hd
  have ha' := ha cpos pins s σ H _ I h
  rw [he] at ha' ⊢
  refine PySem.Calls.evalArgs_plain (thn ha' fun us s2 ⟨vs, H2, I2, r, hl, q⟩ => ?_)
  refine ⟨rfl, by rw [← r.length]; exact hl, I2.bk _ _ hC, hN.keeps I2.bk, TL.keeps I2.bk, fun h' e hm => hxe _ _ ?_⟩
  have hin : ∀ env ∈ X.env :: X.outer, ∀ b, env.frame = some b → b ∈ frs X.stack := fun env he b hb => by
    rw [hst]
    exact List.mem_filterMap.mpr ⟨env, he, hb⟩
  refine wpAny_leaves_madeW (base := PySem.W.hideAll s2.heap (frs X.stack)) (h := s2.heap) (by rw [I2.ok.frames, hst]) hf (fun b o q => PySem.W.of_hideAll _ q) (PySem.W.funFrames_hide (by rw [← hst]; exact I2.stack) hin) hm fun h'' t x1 x2 x3 x4 => ?_
  refine ⟨e, C, _, _, H2, rfl, I2.os, I2.bare, thrown_of I2 hst hf hex, x1, fun b o e1 n hb => ?_, ?_, q⟩
  · obtain ⟨sl, e2⟩ := I2.base.slot b o e1 n hb (by rw [hex]; simp)
    obtain ⟨_, o', ho', hnf⟩ := I2.funs.mem hb
    rw [e2] at ho'
    cases ho'
    obtain ⟨sl', e3⟩ := x4 b _ (hm.keeps _ _ e2) hnf
    exact ⟨sl', e3⟩
  · cases z : H2 e with
    | none => rfl
    | some u =>
      obtain ⟨ob, hob⟩ := (I2.hok e u z).some
      rw [hm.new] at hob
      cases hob
end
end L2

namespace L2
open PySem PySem.Spec PyProof.Rows PySem.W PySem.Builtin PySem.Builtin.ObjectAttr PySem.Builtin.Getset_descriptor
open Sem (wp)

/-! ### isinstance(e, C), e a caught exception of a class of the program -/
structure ExK (K : Frag) (C : Addr) : Prop where
  ga : findIn K (.ref C) "__getattribute__" = some (some (.builtin "BaseException.__getattribute__"))
  gn : findIn K (.ref C) "__getattr__" = some none
  ha : findIn K (.ref C) "__class__" = some (some (.builtin "object.__class__"))
  hn : specialIn K (.builtin "object.__class__") "__get__" = some (some (.builtin "getset_descriptor.__get__"))
  tk : takesIn K (.builtin "object.__class__") = some true
  ob : mroIn K C (.type "object") = some true
  be : mroIn K C (.type "BaseException") = some true
  cl : (clsIn K C).isSome = true
def ExAt (xa C : Addr) (h : Heap) : Prop := ∃ o vs, h.get? xa = some o ∧ o.cls = .ref C ∧ o.data = .fields vs
theorem ExAt.type {M : Model} {xa C : Addr} {h : Heap} (x : ExAt xa C h) : Looks M h (typeOf (.ref xa)) (.ref C) := let ⟨_, _, h1, h2, _⟩ := x; h2 ▸ (Looks.ld h1).andThen .now
section
variable {prog : Program} {w : World} {A : Around} {E : Value → Shared → Prop} {s : Shared} {K : Frag} {xa C : Addr}
theorem exc_find {M : Model} {h : Heap} (X : K.In h) (Z : ExK K C) : Looks M h (PySem.Builtin.ObjectAttr.find (.ref xa) (.ref C) "__class__") (Found.bind (.builtin "getset_descriptor.__get__") (.builtin "object.__class__")) := by
  have L1 := looks_findIn (M := M) X Z.ha
  have L2 := looks_specialIn (M := M) X Z.hn
  have L3 := looks_takesIn (M := M) X Z.tk
  refine L1.andThen (L2.andThen ?_)
  refine Looks.andThen (a := some (.builtin "getset_descriptor.__get__", .builtin "object.__class__")) (L3.andThen ?_) ?_
  · rw [if_pos rfl]; exact .now
  · exact Looks.tag .now
theorem exc_class_get {R : Result → Shared → Prop} {tp : Value} (X : K.In s.heap) (Z : ExK K C) (I : ExAt xa C s.heap) (h : R (.ok (.ret (.ref C))) s) : codeAny (model prog w) A (.call (.builtin "getset_descriptor.__get__") ⟨[.builtin "object.__class__", .ref xa, tp], []⟩) R s := by
  obtain ⟨hh, g, dr, t, os⟩ := s
  have L0 := I.type (M := model prog w)
  have L1 := looks_mroIn (M := model prog w) X Z.ob
  refine codeAny_call_builtin KF.slot_gs.plain KF.entry_gs (KF.slot_gs.check _ _ _ _ _ _ _ _ KF.type_class (KF.args_gs _ _ _) ?_)
  unfold Builtin.«getset_descriptor.__get__» descrGet
  rw [dga_obj]
  refine wpAny_bind (wpAny_pure ?_)
  unfold descrGetter descrCheckInstance descrNameAndClass isInstance
  simp only [KF.owner_class]
  repeat lk
  refine ⟨Code.quiet_builtin _ (by decide +kernel), codeAny_builtin KF.entry_class ?_⟩
  unfold Builtin.«object.__class__» shownTypeOf
  repeat lk
  exact h
theorem exc_check {nameV : Value} {Q : Unit → Shared → Prop} (X : K.In s.heap) (Z : ExK K C) (I : ExAt xa C s.heap) (hq : Q () s) : wpAny (model prog w) A (checkBuiltinCall "BaseException.__getattribute__" ⟨[.ref xa, nameV], []⟩) Q E s := by
  have hk : builtinKind "BaseException.__getattribute__" = some .slot := by decide +kernel
  have hsplit : splitId "BaseException.__getattribute__" = some ("BaseException", "__getattribute__") := by decide +kernel
  have ha := PySem.F.args_bexc_ga (.ref xa) nameV
  obtain ⟨hh, g, d, t, os⟩ := s
  have L0 := I.type (M := model prog w)
  have L1 := looks_mroIn (M := model prog w) X Z.be
  simp only [checkBuiltinCall, hk, hsplit]
  refine wpAny_bind ?_
  unfold isInstance
  repeat (first | lk | wp_step)
  exact hq
theorem exc_entry {tk : Tok} {Q : Fin → Shared → Prop} (X : K.In s.heap) (Z : ExK K C) (I : ExAt xa C s.heap) (hq : Q (.done (.ret (.ref C))) s) :
    wpAny (model prog w) A (Builtin.«object.__getattribute__» ⟨[.ref xa, .str "__class__" tk], []⟩) Q E s := by
  obtain ⟨hh, g, d, t, os⟩ := s
  have L0 := I.type (M := model prog w)
  have L1 := exc_find (M := model prog w) (xa := xa) X Z
  refine wpAny_bind (wpAny_pure (wpAny_bind (wpAny_pure (wpAny_bind (L0.at (wpAny_bind (L1.at ?_)))))))
  show wpAny _ _ (holding [Value.builtin "object.__class__"] (call (.builtin "getset_descriptor.__get__") [.builtin "object.__class__", .ref xa, .ref C]) >>= ret) _ _ _
  exact wpAny_bind (wpAny_holding (wpAny_call (exc_class_get (s := ⟨hh, g, d, t, os⟩) X Z I (wpAny_pure hq))))
theorem exc_call {tk : Tok} {R : Result → Shared → Prop} (X : K.In s.heap) (Z : ExK K C) (I : ExAt xa C s.heap) (hq : R (.ok (.ret (.ref C))) s) :
    codeAny (model prog w) A (.call (.builtin "BaseException.__getattribute__") ⟨[.ref xa, .str "__class__" tk], []⟩) R s :=
  codeAny_call_builtin (by decide +kernel) PySem.F.entry_bexc_ga (exc_check X Z I (exc_entry X Z I hq))
theorem bexc_bind (x : Value) : bindSpecial (.builtin "BaseException.__getattribute__") x = pure (.builtin "BaseException.__getattribute__", [x]) := by kernel_rfl
theorem exc_ca {Q : Option Value → Shared → Prop} (X : K.In s.heap) (Z : ExK K C) (I : ExAt xa C s.heap) (hq : Q (some (.ref C)) { s with toks := s.toks + 1 }) : wpAny (model prog w) A (getAttr? (.ref xa) "__class__") Q E s := by
  obtain ⟨hh, g, d, t, os⟩ := s
  have L0 := I.type (M := model prog w)
  have L1 := looks_findIn (M := model prog w) X Z.ga
  have L2 := looks_findIn (M := model prog w) X Z.gn
  unfold getAttr? getAttrBy? getAttrBy
  refine wpAny_bind (wpAny_mkText (wpAny_bind (wpAny_attempt (wpAny_holding (wpAny_bind (L0.at (wpAny_bind (L1.at ?_))))))))
  have hx2 : (Value.builtin "BaseException.__getattribute__" == Value.builtin "object.__getattribute__") = false := by decide +kernel
  have hx1 : (onTheHeap (Value.ref C) && Value.builtin "BaseException.__getattribute__" == Value.builtin "object.__getattribute__") = false := by rw [hx2]; rfl
  show wpAny _ _ (if (onTheHeap (Value.ref C) && Value.builtin "BaseException.__getattribute__" == Value.builtin "object.__getattribute__") = true then _ else _) _ _ _
  rw [if_neg (by rw [hx1]; decide)]
  unfold getAttrByItsOwn hookBefore
  rw [if_pos (show onTheHeap (Value.ref C) = true from rfl)]
  refine wpAny_bind (L2.at ?_)
  refine wpAny_bind (wpAny_attempt (wpAny_holding ?_))
  show wpAny _ _ (boundAndCalled (.builtin "BaseException.__getattribute__") (.ref xa) (.str "__class__" t)) _ _ _
  unfold boundAndCalled
  refine wpAny_bind (wpAny_of_eq (bexc_bind _) ?_)
  refine wpAny_call (exc_call (s := ⟨hh, g, d, t + 1, os⟩) X Z I ?_)
  show wpAny _ _ (handedOut (.ref C)) _ _ _
  exact wpAny_pure (wpAny_pure hq)
end
/-- what an exception answers to isinstance -/
theorem kitx_exc {K : Frag} {xa C : Addr} (Z : ExK K C) : KitX K (.ref xa) (.ref C) (ExAt xa C) where
  ty := fun _ _ _ p => p.type
  it := fun _ _ X _ => by
    have hc := Z.cl
    unfold clsIn at hc
    split at hc
    · rename_i c' d' cd' sl' ho
      intro A' Q' E' s' k q
      unfold isType loadHead
      exact wpAny_bind (wpAny_loadPart (k _ _ (X _ _ ho)) (wpAny_pure q))
    · cases hc
  ne := fun h tp dd its n sl X htp => by
    have hc := Z.cl
    refine Bool.eq_false_iff.mpr fun q => ?_
    have e : C = tp := Value.ref.inj (beq_iff_eq.mp q)
    subst e
    unfold clsIn at hc
    split at hc
    · rename_i c' d' cd' sl' ho
      have z := (X _ _ ho).symm.trans htp
      cases z
    · cases hc
  ca := fun X p k => exc_ca X Z p k
/-- a caught exception, tracked -/
def excO (xa C : Addr) : HO := .ext (ExAt xa C)
theorem excO_ok {P : Program} {w : World} {H : Hp} {h : Heap} {xa C : Addr} (x : ExAt xa C h) : ObjOk P w H h xa (excO xa C) := by
  obtain ⟨o, vs, h1, r⟩ := id x
  refine ⟨x, ⟨o, h1⟩, fun h1 h2 q k => ?_⟩
  obtain ⟨o, vs, e, r⟩ := q
  exact ⟨o, vs, k o e, r⟩
/-- isinstance(e, c), isinstance(e, (c, ..)) -/
def rIsiE (K : Frag) : List V → Hp → VK → Prop := fun xs H Q => ∃ xa C c b, xs = [.ref xa, c] ∧ H xa = some (excO xa C) ∧ ExK K C ∧
  ((∃ T, c = .ty T ∧ kitOne K (.ref C) (.type T) = some b) ∨ (∃ D, c = .ref D ∧ kitOne K (.ref C) (.ref D) = some b) ∨ ∃ (tp : Addr) (ds : List Addr), c = .ref tp ∧ H tp = some (.tup (ds.map V.ref)) ∧ kitAny K (.ref C) (ds.map Value.ref) = some b) ∧ Q (.bl b) H
theorem vals_ref_inv : ∀ {ds : List Addr} {us : List Value}, Vals (ds.map V.ref) us → us = ds.map Value.ref
  | [], _, .nil => rfl
  | d :: ds, _, .cons r t => by
    cases r
    rw [vals_ref_inv t]
    rfl
theorem call_isiE {X : Cx} : CallR X (.builtin "isinstance") (rIsiE X.K) := by
  intro pins s σ H xs us Q I r h
  obtain ⟨xa, C, c, b, rfl, hx, Z, hc, q⟩ := h
  obtain ⟨u, u', rfl, ru, ru'⟩ := vals2 r
  cases ru
  obtain ⟨p, _, _⟩ := (show ObjOk X.prog X.w H s.heap xa (excO xa C) from I.hok xa _ hx)
  rcases hc with ⟨T, rfl, e⟩ | ⟨D, rfl, e⟩ | ⟨tp, ds, rfl, ht, e⟩
  · cases (show u' = Value.type T from ru')
    exact kia_one (kitx_exc Z) I.kIn p e (fun z => nomatch z) fun tk => ⟨.bl b, H, I.tok tk, rfl, q⟩
  · cases ru'
    exact kia_one (kitx_exc Z) I.kIn p e (fun z => nomatch z) fun tk => ⟨.bl b, H, I.tok tk, rfl, q⟩
  · cases ru'
    obtain ⟨_, its, rv, ob, ho, hcl, n, hd⟩ := (show ObjOk X.prog X.w H s.heap tp (.tup (ds.map V.ref)) from I.hok tp _ ht)
    obtain ⟨cc, dd, dt, sl⟩ := ob
    simp only at hcl hd
    subst hcl hd
    have hit := vals_ref_inv rv
    subst hit
    exact kia_tup (kitx_exc Z) I.kIn p ho e (fun z => nomatch z) fun tk => ⟨.bl b, H, I.tok tk, rfl, q⟩
theorem call_isiEk {X : Cx} {K : Frag} (hK : X.K = K) : CallR X (.builtin "isinstance") (rIsiE K) := hK ▸ call_isiE
end L2

namespace L2
open PySem PySem.Spec PyProof.Rows
open Sem (wp)

/-! ### try: y = f(..) except C as e: .. -/
/-- the context of a clause's rows -/
def Cx.mk' (X : Cx) (xa : Addr) : Cx := { X with A := X.A.mark (some (.ref xa)), calm := false, xe := fun _ _ => False }
section
variable {X : Cx} {pins : List (Addr × Obj)} {σ : St} {H : Hp} {s : Shared} {xa : Addr}
theorem Inv.mark (I : Inv X pins σ H s) (xa : Addr) : Inv (X.mk' xa) pins σ H s :=
  ⟨⟨I.ok.mod, I.ok.kind, I.ok.glob, I.ok.blt, I.ok.above, I.ok.inj, I.ok.has, I.ok.cab, fun z => Bool.noConfusion z, I.ok.frames, I.ok.stk, I.ok.exf, I.ok.bs, I.ok.bsz, I.ok.noex, I.ok.exfs, I.ok.funs, I.ok.frf⟩, I.os, I.bare, I.base, I.loc, I.cell, I.free, I.freeC, I.pin, I.hok, I.len⟩
theorem Inv.unmark (I : Inv (X.mk' xa) pins σ H s) (ok : X.Ok) : Inv X pins σ H s :=
  ⟨ok, I.os, I.bare, I.base, I.loc, I.cell, I.free, I.freeC, I.pin, I.hok, I.len⟩
/-- behind the raise: the caller's state again -/
theorem Thrown.un {P : Program} {w : World} {outer : List Env} {H H' : Hp} {s : Shared} {B h : Heap} (T : Thrown P w outer H s B H') (k : B.StaysIn h) (sl : ∀ b o, s.heap.get? b = some o → H b = none → b ∈ frs outer → ∃ sl, h.get? b = some { o with slots := sl })
    (fr : ∀ b ∈ frs outer, ∃ o, h.get? b = some o) : Un (frs outer) [] H H' s.heap h where
  keep := fun b o e n hb _ => k b o (T.old b o e n hb)
  slot := fun b o e n hb _ => sl b o e n hb
  free := fun b o e n _ => T.fre b o e n
  there := fun b o e _ => by
    by_cases hb : b ∈ frs outer
    · exact fr b hb
    · obtain ⟨o', e'⟩ := T.thr b o e hb
      exact ⟨o', k b o' e'⟩
  tups := T.tups
  frzs := T.frzs
  tbls := T.tbls
/-- an object that stood untracked is tracked from here on -/
theorem Inv.track {a : Addr} {o : HO} {B : Heap} (I : Inv X pins σ H s) (hn : H a = none) (hL : a ≠ X.env.locals) (hc : ∀ x c, X.env.cells.lookup x = some c → c ≠ a) (hp : ∀ p ∈ X.pn ++ pins, p.1 ≠ a) (h0 : ∀ ob, X.s₀.heap.get? a = some ob → a ∈ X.ex ∨ X.H₀ a ≠ none) (new : ObjOk X.prog X.w (upd H a o) s.heap a o) : Inv X pins σ (upd H a o) s := by
  have tn : ∀ b u, H b = some u → b ≠ a := fun b u e q => by rw [q, hn] at e; cases e
  refine ⟨I.ok, I.os, I.bare, ⟨I.base.keep, I.base.slot, fun b ob e n hx => ?_, I.base.there, fun b xs e => ?_, fun b u xs e => ?_, fun b ps e => ?_⟩, I.loc, I.cell, by rw [upd_ne (Ne.symm hL)]; exact I.free, fun x c e => by rw [upd_ne (hc x c e)]; exact I.freeC x c e, fun p hp' => ?_, fun b u e => ?_, I.len⟩
  · have hne : b ≠ a := fun q => by
      subst q
      rcases h0 ob e with z | z
      · exact hx z
      · exact z n
    rw [upd_ne hne]
    exact I.base.free b ob e n hx
  · have := I.base.tups b xs e
    rw [upd_ne (tn b _ this)]; exact this
  · have := I.base.frzs b u xs e
    rw [upd_ne (tn b _ this)]; exact this
  · obtain ⟨m, this⟩ := I.base.tbls b ps e
    exact ⟨m, by rw [upd_ne (tn b _ this)]; exact this⟩
  · obtain ⟨e, n, r⟩ := I.pin p hp'
    exact ⟨e, by rw [upd_ne (hp p hp')]; exact n, r⟩
  · by_cases hb : b = a
    · subst hb; rw [upd_same] at e; cases e; exact new
    · rw [upd_ne hb] at e
      exact (I.hok b u e).stay (fun _ _ _ q => q) (fun c q => by rw [upd_ne (tn c _ q)]; exact q) fun c xs q => by rw [upd_ne (tn c _ q)]; exact q
/-- the clause's name goes -/
theorem name_goes {M : Model} {A : Around} {E : Value → Shared → Prop} {Q : Unit → Shared → Prop} {j : Nat} {n : Str} {pos : Pos} (I : Inv X pins σ H s) (hN : X.N.Nodup) (hj : X.N[j]? = some n) (hl : X.env.kindOf n = some .local)
    (h : ∀ s', Inv X pins (σ.set j none) H s' → Q () s') : wpAny M A (do bindName X.env n .none; unbindBehindTheSuite X.env n pos) Q E s := by
  obtain ⟨m, hn, hloc⟩ := id I.loc
  have hp : (X.env.scope.kind == .class || (X.env.scope.kind == .module && X.env.locals != X.env.globals)) = false := by rw [I.ok.kind]; rfl
  refine wpAny_bind (wpAny_bindName (wpAny_storeName_local hl hn (fun h₁ hn₁ hs₁ => ?_) hp))
  unfold unbindBehindTheSuite
  refine wpAny_onRaise ?_
  unfold unbindName
  refine wpAny_bind (wpAny_point (wpAny_bind ?_))
  unfold deleteName
  simp only [hl, hp]
  rw [if_neg (by decide)]
  refine wpAny_bind (wpAny_nsDel_keeps hn₁ fun h₂ v hn₂ hs₂ => ?_)
  simp only [if_true, Option.isSome_some, Bool.not_true, Bool.false_eq_true, if_false]
  refine wpAny_pure (wpAny_point (h _ ?_))
  have hs := hs₁.trans hs₂
  have sm : ∀ b, b ≠ X.env.locals → h₂.get? b = s.heap.get? b := fun b hb => hs.2 b hb
  have neL : ∀ b o, X.s₀.heap.get? b = some o → b ≠ X.env.locals := fun b o e => Nat.ne_of_lt (Nat.lt_of_lt_of_le (Heap.lt_size e) I.ok.above)
  have tn : ∀ b u, H b = some u → b ≠ X.env.locals := fun b u e q => by rw [q, I.free] at e; cases e
  have frL : ∃ o, h₂.get? X.env.locals = some o := let ⟨o, _, _, e, _⟩ := hn₂; ⟨o, e⟩
  refine ⟨I.ok, I.os, I.bare, ⟨fun b o e n' hb hx => (sm b (neL b o e)).trans (I.base.keep b o e n' hb hx), fun b o e n' hb hx => ?_, I.base.free, fun b o e hx => ?_, I.base.tups, I.base.frzs, I.base.tbls⟩, ?_, fun x c e => ?_, I.free, I.freeC, fun p hp' => ?_, fun b u e => ?_, by rw [List.length_set]; exact I.len⟩
  · obtain ⟨sl, q⟩ := I.base.slot b o e n' hb hx
    exact ⟨sl, (sm b (neL b o e)).trans q⟩
  · obtain ⟨o', q⟩ := I.base.there b o e hx
    exact ⟨o', (sm b (neL b o e)).trans q⟩
  · refine ⟨_, hn₂, fun i x v' e1 e2 e3 => ?_⟩
    have hij : i ≠ j := fun q => by
      rw [q, List.getElem?_set] at e2
      simp at e2
    rw [List.getElem?_set_ne (Ne.symm hij)] at e2
    have hxn : x ≠ n := fun q => hij (nodup_ix hN e1 (q ▸ hj))
    obtain ⟨u, r, l⟩ := hloc i x v' e1 e2 e3
    refine ⟨u, r, ?_⟩
    rcases l with ⟨l1, l2⟩ | ⟨k, c, ec, o, ho, hd⟩
    · refine .inl ⟨l1, ?_⟩
      simp only [hxn, if_false]
      exact l2
    · exact .inr ⟨k, c, ec, o, (sm c (I.cne x c ec)).trans ho, hd⟩
  · obtain ⟨v', o, ho, hd⟩ := I.cell x c e
    exact ⟨v', o, (sm c (I.cne x c e)).trans ho, hd⟩
  · obtain ⟨e, n', ne, r⟩ := I.pin p hp'
    exact ⟨(sm _ ne).trans e, n', ne, r⟩
  · refine (I.hok b u e).stay (fun c v' hc q => (sm c ?_).trans q) (fun _ q => q) fun _ _ q => q
    rcases hc with rfl | z
    · exact tn _ _ e
    · exact tn _ _ z
end
structure HasE (P : Program) (w : World) (K : PySem.W.Frag) (mg : Str → Option Value) (base : Heap) (k : Nat) (x : Str) (ps : List Str) (sp : Sp) : Prop where
  ex : ∃ f fd, FnOk P w K mg base (CXe P w) k f fd ps sp ∧ mg x = some (.ref f) ∧ PySem.W.keepIn K (.ref f) = true ∧ Binds K fd ps []
theorem Dfn.hasE {P : Program} {w : World} {K : PySem.W.Frag} {mg : Str → Option Value} {base : Heap} {x : Str} {st : Stmt} {N ps : List Str} {k : Nat} {sp : Sp} (D : Dfn K mg x st ps) (S : FnScope N ps (defScope st)) (len : ∀ vs H Q E, sp vs H Q E → vs.length = ps.length)
    (hbody : ∀ (f : Addr) (cdv : Value) (A : Around) (outer : List Env) (s : Shared) (H : Hp) (vs : List V) (Q : VK) (E : XK), Room k (A.deeper (envOfC x (defScope st) s.heap.objs.size f cdv)) → sp vs H Q E →
      ∃ t, PSs (cxOf (CXe P w) P w K mg base N x (defScope st) f cdv A outer s H E) (defBody st) t ∧ t { nx := fun _ H' => Q .non H', rt := Q } (start N vs) H) : HasE P w K mg base (k + 1) x ps sp := by
  obtain ⟨f, fd, F, hm, hb⟩ := D.ex
  obtain ⟨oc, od, kV, doc, pm, an, cdv, ct, osl, rfl, lk, hcd⟩ := F.ex
  exact ⟨f, _, fn_of lk hcd S len (fun A outer s H vs Q E hr h => hbody f cdv A outer s H vs Q E hr h), hm, F.kp, hb⟩
/-- y = f(..), in slot i; the exception in slot j; D: the class that is caught -/
def tTry1 (K : PySem.W.Frag) (i j : Nat) (D : Addr) (sp : Sp) (t : TA) (ts : TS) : TS := fun Dn σ H => t σ H fun vs H1 => ∃ E : XK, sp vs H1 (fun v H2 => Dn.nx (σ.set i (some v)) H2) E ∧
  ∀ C dx H2, E (.ref C) dx H2 → PySem.W.exmOne K (.ref C) (.ref D) = some true ∧ ∀ xa, H2 xa = none →
    ts { nx := fun σ' H' => Dn.nx (σ'.set j none) H', rt := fun _ _ => False } (σ.set j (some (.ref xa))) (upd H2 xa (excO xa C))
theorem ps_try1 {X : Cx} {k i j : Nat} {y ev fn cls : Str} {ps : List Str} {sp : Sp} {D : Addr} {p1 p2 p3 p4 p5 p6 pos : Pos} {e : Expr} {es : List Expr} {b₀ : Stmt} {suite : List Stmt} {t : TA} {ts : TS}
    (F : HasE X.prog X.w X.K X.mg X.base k fn ps sp) (hr : Room k X.A) (hgf : Gl X fn) (hxf : X.xe = fun _ _ => False) (hst : X.stack = X.env :: X.outer) (hf : X.env.frame = some X.env.locals) (hex : X.ex = [])
    (hN : X.N.Nodup) (hi : X.N[i]? = some y) (hy : X.env.scope.names.lookup y = some .local) (hj : X.N[j]? = some ev) (hev : X.env.scope.names.lookup ev = some .local) (hgc : Gl X cls) (hcl : X.mg cls = some (.ref D))
    (ha : PA X (e :: es) t) (hs : ∀ xa, PSs (X.mk' xa) (b₀ :: suite) ts)
    (hsw : swapsWith (.Call (.Name fn p2) (e :: es) [] p3) (some (.Name y p1)) p4.line X.env = pure false := by rfl) (hdb : (fn == ("__debug__" : Str)) = false := by decide) (hdc : (cls == ("__debug__" : Str)) = false := by decide)
    (h1 : isStar e = false := by rfl) (h2 : es.all (fun x => !isStar x) = true := by rfl) :
    PS X (.Try [.Assign [.Name y p1] (.Call (.Name fn p2) (e :: es) [] p3) p4] [.ExceptHandler (some (.Name cls p5)) (some ev) (b₀ :: suite) p6] [] [] pos) (tTry1 X.K i j D sp t ts) := by
  intro pins s σ H Dn I h
  obtain ⟨f, fd, G, hm, hk, hb⟩ := F.ex
  refine wpAny_Try_except ?_
  refine wpAny_execs_cons (wpAny_Assign_Name (wpAny_Call_Name_kw (ld_glob I hgf hm ?_ hdb)) hsw)
  refine PySem.W.callWith_K (h₀ := X.base) I.ok.mod.kin hk (wpAny_mono (ha _ pins s σ H _ I h) (fun us s1 q => ?_) (fun _ _ z => by rw [hxf] at z; exact False.elim z)) (star_cons h1) (star_plain h2)
  obtain ⟨vs, H1, I1, r, E, hsp, hE⟩ := q
  refine ⟨I1.kIn, ?_⟩
  have hl : us.length = ps.length := by rw [← r.length]; exact G.len _ _ _ _ hsp
  refine wpAny_call (codeAny_mono (G.run X.A X.stack s1 H1 ⟨us, []⟩ us vs _ E hr I1.env0 (by have := hb s1 us I1.kIn (by simpa using hl); simpa using this) r hsp) fun rr s' hq => ?_)
  cases rr with
  | ok fl =>
    cases fl with
    | ret u =>
      obtain ⟨v, H2, I2, rv, q⟩ := I1.after hq
      exact store_ok I2 hN hi (.inl hy) rv (fun s2 I3 => wpAny_execs_nil (wpAny_execs_nil ⟨_, H2, I3, q⟩)) (.inr hy)
    | next => exact False.elim hq
    | brk => exact False.elim hq
    | cont => exact False.elim hq
  | error ex =>
    obtain ⟨xa, C, a0, B, H', rfl, hos, hbare, T, hfl, hsl, hxn, hEC⟩ := hq
    obtain ⟨hx1, hts⟩ := hE C none H' hEC
    have hts := hts xa hxn
    have hfr : X.A.frames = some (X.env :: X.outer) := by rw [I1.ok.frames, hst]
    have hfl' : Heap.FlyingW B (X.env :: X.outer) xa (.ref C) a0 s'.heap := by rw [← hst]; exact hfl
    have frm : ∀ {h : Heap}, Heap.FlyingW B (X.env :: X.outer) xa (.ref C) a0 h → ∀ b ∈ frs X.stack, ∃ o, h.get? b = some o ∧ ∀ vs, o.data ≠ .fields vs := fun {h} hh b hb => by
      have q := hh.2.2.1
      rw [← hst] at q
      exact (q.mem hb).2
    have mkI : ∀ h : Heap, Heap.FlyingW B (X.env :: X.outer) xa (.ref C) a0 h → s'.heap.UpToSlots h → Inv X pins σ H' { s' with heap := h } := fun h hh sm => by
      refine I1.call' (s' := { s' with heap := h }) (ch := []) hos (T.un hh.1 (fun b o e n hb => ?_) (fun b hb => let ⟨o, q, _⟩ := frm hh b hb; ⟨o, q⟩)) (T.hok.kept hh.1) hbare (fun _ z => nomatch z)
      obtain ⟨sl, e1⟩ := hsl b o e n hb
      obtain ⟨o', e2, hnf⟩ := frm hfl' b hb
      rw [e1] at e2
      cases e2
      obtain ⟨sl', e3⟩ := sm b _ e1 hnf
      exact ⟨sl', e3⟩
    have exAt : ∀ {h : Heap}, Heap.FlyingW B (X.env :: X.outer) xa (.ref C) a0 h → ExAt xa C h := fun {h} hh => by
      obtain ⟨oe, vs, q1, q2, q3, _⟩ := hh.first
      exact ⟨oe, vs, q1, q2, q3⟩
    refine wpAny_looks_onW hfr hf hfl' fun h4 hheld4 sm4 => ?_
    refine wpAny_landsW hheld4 fun h5 hfl5 sm5 => ?_
    have I5 := mkI h5 hfl5 (sm4.trans sm5)
    refine wpAny_handleBy_cons (codeAny_handlers_test (ld_glob (X := X.mk' xa) (I5.mark xa) hgc hcl ?_ hdc)) (by intro q; cases q)
    refine (PySem.W.exm_one I5.kIn (exAt hfl5).type hx1) _ _ _ _ (fun _ _ q => q) ?_
    show codeAny _ _ (.handlers _ [.ExceptHandler none (some ev) (b₀ :: suite) p6] _) _ _
    refine codeAny_handlers_suite_as ?_
    refine lands_againW hfl5 fun h6 hfl6 sm6 => ?_
    have I6 := mkI h6 hfl6 ((sm4.trans sm5).trans sm6)
    have hxB : B.get? xa = none := hfl6.2.1
    obtain ⟨ox, vx, ex1, ex2, ex3⟩ := exAt hfl6
    have nfr : ∀ b ∈ frs X.stack, b ≠ xa := fun b hb q => by
      obtain ⟨o, q1, q2⟩ := frm hfl6 b hb
      rw [q, ex1] at q1
      cases q1
      exact q2 vx ex3
    have hlf : X.env.locals ∈ frs X.stack := (stk_mem hst hf _).mpr (.inl rfl)
    have I6t : Inv X pins σ (upd H' xa (excO xa C)) { s' with heap := h6 } := by
      refine I6.track (B := B) hxn (fun q => nfr _ hlf q.symm) (fun x c e q => ?_) (fun p hp q => ?_) (fun ob e0 => ?_) (excO_ok (exAt hfl6))
      · obtain ⟨v', o, ho, hd⟩ := I6.cell x c e
        rw [q, ex1] at ho
        cases ho
        rw [ex3] at hd
        cases hd
      · obtain ⟨e1, n1, ne, nf, _⟩ := I1.pin p hp
        have := T.old p.1 p.2 e1 n1 (fun z => ((stk_mem hst hf _).mp z).elim ne nf)
        rw [q, hxB] at this
        cases this
      · refine .inr fun n0 => ?_
        have hxf' : xa ∉ X.fs := fun z => nfr xa ((stk_mem hst hf _).mpr (.inr z)) rfl
        have hx1' := I1.base.keep xa ob e0 n0 hxf' (by rw [hex]; simp)
        have := T.old xa ob hx1' (I1.base.free xa ob e0 n0 (by rw [hex]; simp)) (fun z => nfr xa z rfl)
        rw [hxB] at this
        cases this
    refine store_ok (X := X.mk' xa) (I6t.mark xa) hN hj (.inl hev) (v := .ref xa) rfl (fun s7 I7 => ?_) (.inr hev)
    refine wpAny_mono (hs xa pins s7 _ _ _ I7 hts) (fun fl s8 q => ?_) (fun _ _ z => False.elim z)
    cases fl with
    | next =>
      obtain ⟨σ8, H8, I8, q⟩ := q
      exact name_goes (I8.unmark I1.ok) hN hj hev (fun s9 I9 => ⟨_, H8, I9, q⟩)
    | ret u =>
      obtain ⟨_, _, _, _, _, z⟩ := q
      exact False.elim z
    | brk => obtain ⟨_, _, _, z⟩ := q; exact False.elim z
    | cont => obtain ⟨_, _, _, z⟩ := q; exact False.elim z
end L2

namespace L2
open PySem PySem.Spec PyProof.Rows PySem.MeetsSeq
open Sem (wp)

/-! ### xs.remove(s), xs.insert(i, y), f'{s} ..', a class by its name -/
def eqS (s : Str) : Value → Bool
  | .str x _ => x.cps.toList == s.cps.toList
  | _ => false
def rRemove : V → List V → Hp → VK → Prop := fun x vs H Q => ∃ l ss s, x = .ref l ∧ vs = [.str s] ∧ H l = some (.lst (List.map V.str ss)) ∧ s ∈ ss ∧ Q .non (upd H l (.lst (List.map V.str (ss.eraseIdx (ss.idxOf s)))))
def rInsert : V → List V → Hp → VK → Prop := fun x vs H Q => ∃ l xs i y, x = .ref l ∧ vs = [.int i, y] ∧ H l = some (.lst xs) ∧ 0 ≤ i ∧ i ≤ xs.length ∧ xs.length < 1000000 ∧ Q .non (upd H l (.lst (xs.take i.toNat ++ y :: xs.drop i.toNat)))
section
variable {X : Cx} {e : Expr} {te : TE} {p1 p2 pos : Pos} {x : Str} {D : Addr}
theorem pe_globC (hg : Gl X x) (hm : X.mg x = some (.ref D)) (hd : (x == ("__debug__" : Str)) = false := by decide) : PE X (.Name x pos) (tC (.ref D)) := pe_glob hg hm rfl hd
/-- f'{e}c' of a text -/
def tFmt (c : Str) (te : TE) : TE := fun σ H Q => te σ H fun v H1 => ∃ s, v = .str s ∧ s.length + c.length ≤ 1000 ∧ Q (.str (Str.empty ++ s ++ c)) H1
end
end L2

namespace L2
open PySem PySem.Spec PyProof.Rows
open Sem (wp)

/-! ### a name put to a place of a row -/
def StOk (st : Int) : Prop := st = 1 ∨ st = 3 ∨ st = 5 ∨ st = 7 ∨ st = 9 ∨ st = 11 ∨ st = 15 ∨ st = 17 ∨ st = 19 ∨ st = 21 ∨ st = 23 ∨ st = 25
theorem StOk.at {j : Int} (h0 : 0 ≤ j) (h1 : j < 12) : ∃ st : Int, atI [V.int 1, V.int 3, V.int 5, V.int 7, V.int 9, V.int 11, V.int 15, V.int 17, V.int 19, V.int 21, V.int 23, V.int 25] j = some (V.int st) ∧ StOk st := by
  have h12 : j = 0 ∨ j = 1 ∨ j = 2 ∨ j = 3 ∨ j = 4 ∨ j = 5 ∨ j = 6 ∨ j = 7 ∨ j = 8 ∨ j = 9 ∨ j = 10 ∨ j = 11 := by omega
  rcases h12 with h | h | h | h | h | h | h | h | h | h | h | h <;> rw [h] <;> exact ⟨_, rfl, by unfold StOk; decide⟩
theorem StOk.pos {st : Int} (h : StOk st) : 1 ≤ st ∧ st ≤ 25 := by
  unfold StOk at h
  omega
theorem StOk.inj {st b i j : Int} (h : StOk st) (i0 : 0 ≤ i) (i1 : i < 26) (j0 : 0 ≤ j) (j1 : j < 26) (e : (b + st * i) % 26 = (b + st * j) % 26) : i = j := by
  unfold StOk at h
  rcases h with rfl | rfl | rfl | rfl | rfl | rfl | rfl | rfl | rfl | rfl | rfl | rfl <;> omega
def othN (row : List Str) (nm : Str) : List Str := row.filter fun s => !decide (s = nm)
def putN (row : List Str) (nm : Str) (n : Nat) : List Str := (othN row nm).take n ++ nm :: (othN row nm).drop n
theorem oth_len (row : List Str) (nm : Str) : (othN row nm).length ≤ row.length := List.length_filter_le _ _
theorem putN_len (row : List Str) (nm : Str) (n : Nat) : (putN row nm n).length ≤ row.length + 1 := by
  have := oth_len row nm
  unfold putN
  rw [List.length_append, List.length_cons, List.length_take, List.length_drop]
  omega
theorem putN_mem {row : List Str} {nm s : Str} {n : Nat} (h : s ∈ putN row nm n) : s ∈ row ∨ s = nm := by
  unfold putN at h
  rcases List.mem_append.mp h with h | h
  · exact .inl (List.mem_filter.mp (List.mem_of_mem_take h)).1
  · rcases List.mem_cons.mp h with h | h
    · exact .inr h
    · exact .inl (List.mem_filter.mp (List.mem_of_mem_drop h)).1
theorem putN_nd {row : List Str} (nd : row.Nodup) (nm : Str) (n : Nat) : (putN row nm n).Nodup := by
  unfold putN
  have hp : ((othN row nm).take n ++ nm :: (othN row nm).drop n).Perm (nm :: othN row nm) := by
    refine List.perm_middle.trans ?_
    rw [List.take_append_drop]
  refine hp.nodup_iff.mpr (List.nodup_cons.mpr ⟨fun h => ?_, nd.filter _⟩)
  have := (List.mem_filter.mp h).2
  simp at this
def FNd (F : RFn) : Prop := ∀ k, (F k).Nodup
theorem FOk.putN {U : List (Str × Str)} {m : Nat} {F : RFn} (h : FOk U m F) {nm : Str} {k : Str × Str} (hn : nm ∈ F k) (n : Nat) : FOk U (m + 1) (setF F k (putN (F k) nm n)) := by
  refine ⟨fun k' q => ?_, fun k' => ?_, fun k' s hs => ?_⟩
  · unfold setF at q
    by_cases e : k' = k
    · rw [e]; exact h.sub k (fun z => by rw [z] at hn; cases hn)
    · rw [if_neg e] at q; exact h.sub k' q
  · unfold setF
    by_cases e : k' = k
    · rw [if_pos e]
      have := putN_len (F k) nm n
      have := h.len k
      omega
    · rw [if_neg e]
      have := h.len k'
      omega
  · unfold setF at hs
    by_cases e : k' = k
    · rw [if_pos e] at hs
      rcases putN_mem hs with q | q
      · exact h.good k s q
      · rw [q]; exact h.good k nm hn
    · rw [if_neg e] at hs
      exact h.good k' s hs
theorem FNd.putN {F : RFn} (h : FNd F) (nm : Str) (k : Str × Str) (n : Nat) : FNd (setF F k (putN (F k) nm n)) := by
  intro k'
  unfold setF
  by_cases e : k' = k
  · rw [if_pos e]; exact putN_nd (h k) nm n
  · rw [if_neg e]; exact h k'
def setE (es : List Rw) (k : Str × Str) (zs : List Str) : List Rw := es.map fun e => if e.1 = k then (e.1, e.2.1, zs) else e
theorem cutV_to (ss : List Str) {i : Int} (h : 0 ≤ i) : cutV (ss.map V.str) none (some i) = (ss.take i.toNat).map V.str := by
  obtain ⟨n, rfl⟩ := Int.eq_ofNat_of_zero_le h
  rw [cutV_map, HT.sIx_none, HT.sIx_nat, List.drop_zero, Int.toNat_natCast, Nat.sub_zero]
  by_cases q : n ≤ ss.length
  · rw [Nat.min_eq_left q]
  · rw [Nat.min_eq_right (by omega), List.take_of_length_le (Nat.le_refl _), List.take_of_length_le (by omega)]
theorem cutV_on (ss : List Str) {i : Int} (h : 0 ≤ i) : cutV (ss.map V.str) (some i) none = (ss.drop i.toNat).map V.str := by
  obtain ⟨n, rfl⟩ := Int.eq_ofNat_of_zero_le h
  rw [cutV_map, HT.sIx_none, HT.sIx_nat, Int.toNat_natCast]
  by_cases q : n ≤ ss.length
  · rw [Nat.min_eq_left q, List.take_of_length_le (by rw [List.length_drop]; omega)]
  · rw [Nat.min_eq_right (by omega), List.drop_eq_nil_of_le (Nat.le_refl _), List.drop_eq_nil_of_le (by omega)]
    simp
end L2

namespace L2
open PySem PySem.Spec PyProof.Rows
open Sem (wp)

/-! ### pairs of rows that are kept -/
structure Hl2 where
  f : Addr
  d : Addr
  ef : List Rw
  ed : List Rw
  F : RFn
def Hl2At (H : Hp) (h : Hl2) (t : Addr) : Prop := H t = some (.tup [.ref h.f, .ref h.d])
structure Hd (U : List (Str × Str)) (A : List Addr) (H : Hp) (hs : List Hl2) : Prop where
  f : ∀ h ∈ hs, ∃ H0, RF H0 H h.f h.ef h.F
  d : ∀ h ∈ hs, ∃ H0, RF H0 H h.d h.ed h.F
  ok : ∀ h ∈ hs, FOk U 1000 h.F
  nf : ∀ h ∈ hs, ∀ e ∈ h.ef, e.2.1 ∉ A
  nd : ∀ h ∈ hs, ∀ e ∈ h.ed, e.2.1 ∉ A
theorem Hd.nil (U : List (Str × Str)) (A : List Addr) (H : Hp) : Hd U A H [] := ⟨by simp, by simp, by simp, by simp, by simp⟩
theorem RF.notA {H0 H : Hp} {d : Addr} {es : List Rw} {F : RFn} (R : RF H0 H d es F) {A : List Addr} (hA : ∀ a ∈ A, H a = none) : ∀ e ∈ es, e.2.1 ∉ A := fun e he q => by
  have := R.at_.lst e he
  rw [hA _ q] at this
  cases this
theorem Hd.old {U : List (Str × Str)} {A : List Addr} {HX H : Hp} {hs : List Hl2} (O : Hd U [] HX hs) (hA : ∀ a ∈ A, HX a = none) (s : Same HX H) : Hd U A H hs :=
  ⟨fun h hh => let ⟨H0, R⟩ := O.f h hh; ⟨H0, R.same s⟩, fun h hh => let ⟨H0, R⟩ := O.d h hh; ⟨H0, R.same s⟩, O.ok, fun h hh => let ⟨_, R⟩ := O.f h hh; R.notA hA, fun h hh => let ⟨_, R⟩ := O.d h hh; R.notA hA⟩
theorem FOk.set {U : List (Str × Str)} {m : Nat} {F : RFn} (h : FOk U m F) {k : Str × Str} (hk : k ∈ U) {zs : List Str} (hz : zs.length ≤ m) (hg : ∀ s ∈ zs, goodNm s) : FOk U m (setF F k zs) := by
  refine ⟨fun k' q => ?_, fun k' => ?_, fun k' s hs => ?_⟩
  · unfold setF at q
    by_cases e : k' = k
    · rw [e]; exact hk
    · rw [if_neg e] at q; exact h.sub k' q
  · unfold setF
    by_cases e : k' = k
    · rw [if_pos e]; exact hz
    · rw [if_neg e]; exact h.len k'
  · unfold setF at hs
    by_cases e : k' = k
    · rw [if_pos e] at hs; exact hg s hs
    · rw [if_neg e] at hs; exact h.good k' s hs
theorem FNd.set {F : RFn} (h : FNd F) {k : Str × Str} {zs : List Str} (hz : zs.Nodup) : FNd (setF F k zs) := by
  intro k'
  unfold setF
  by_cases e : k' = k
  · rw [if_pos e]; exact hz
  · rw [if_neg e]; exact h k'
end L2

namespace L2
open PySem PySem.Spec PyProof.Rows PySem.W

/-! ### a class of the program that is an exception: what a written part must show -/
theorem nsOk_mk {K : Frag} {N : Addr} {c : Value} {d : Option Addr} {es : Array DictEntry} {n : Nat} {sl : Array (Option Value)} (h : K.lookup N = some ⟨c, d, .dict es n, sl⟩) (q : (es.toList.all fun e => match e.key with | .str _ _ => true | _ => false) = true) : nsOkIn K N = true := by
  unfold nsOkIn
  rw [h]
  simp only []
  rw [← Array.all_toList]
  exact q
theorem tail_base {K : Frag} {bmB : List Value} {v : Value} {r : List Value} (e : v :: r = bmB) : tailIn K bmB (v :: r) = true := by
  unfold tailIn
  rw [e]
  simp
theorem tail_ref {K : Frag} {A : Addr} {bmB r : List Value} {c : Value} {d : Option Addr} {cd : ClassData} {sl : Array (Option Value)} (h : K.lookup A = some ⟨c, d, .cls cd, sl⟩) (hok : nsOkIn K cd.ns = true) (hni : nsIn K cd.ns "__init__" = some none) (ht : tailIn K bmB r = true) : tailIn K bmB (.ref A :: r) = true := by
  unfold tailIn
  simp only []
  rw [h]
  simp only [hok, hni, ht]
  simp
theorem exc_mk {K : Frag} {C : Addr} {bmB bm : List Value} {newId : String} {d : Option Addr} {cd : ClassData} {sl : Array (Option Value)} {k0 k1 k2 k3 k5 : Option Value} (h : K.lookup C = some ⟨.type "type", d, .cls cd, sl⟩) (hm : cd.mro = .ref C :: bm) (hs : sl.toList = [k0, k1, k2, k3, some (.builtin newId), k5])
    (hdel : cd.hasDel = false) (ht : tailIn K bmB bm = true) (hok : nsOkIn K cd.ns = true) (hni : nsIn K cd.ns "__init__" = some none) : excIn K C bmB newId = true := by
  unfold excIn
  rw [h]
  simp only [hm, hs]
  rw [hdel, ht, hok, hni]
  simp
end L2

namespace L2
open PySem PySem.Spec PyProof.Rows
open Sem (wp)

/-! ### s[a:b] of a text -/
def rSlS : V → Option Int → Option Int → Hp → VK → Prop := fun x lo hi H Q => ∃ z, x = .str z ∧ z.length ≤ sizeLine ∧ Q (.str (Txt.slice z lo hi)) H
theorem part_of {v : Value} {o : Option Int} (p : IsPart v o) : ∃ q : Option (Int × Tok), v = partValue q ∧ q.map (·.1) = o := by
  cases p with
  | none => exact ⟨none, rfl, rfl⟩
  | int i t => exact ⟨some (i, t), rfl, rfl⟩
theorem sl_str {X : Cx} : SlR X rSlS := by
  intro pins s σ H x v vl vu lo hi sl Q I rx hs pl pu h
  obtain ⟨z, rfl, hz, q⟩ := h
  obtain ⟨t, rfl⟩ := rx
  obtain ⟨l, rfl, rfl⟩ := part_of pl
  obtain ⟨u, rfl, rfl⟩ := part_of pu
  refine ⟨"str", _, F.slot_str_getitem.lookup, typeIs_str _ _ _, wpAny_getItem_str_slice (l := l) (u := u) (st := none) hs rfl ?_⟩
  refine post_val_or_str ⟨Nat.le_trans (Txt.slice_le z _ _) hz, fun t' k => ⟨.str (Txt.slice z (l.map (·.1)) (u.map (·.1))), H, I.tok k, ⟨_, rfl⟩, q⟩⟩
theorem slice_to (x : Str) (n : Nat) : (Txt.slice x none (some (n : Int))).cps.toList = x.cps.toList.take n := by
  by_cases h : (x.length : Int) ≤ n
  · rw [slice_to_beyond h]
    show (StrLaws.sliceText x none (some (x.length : Int))).cps.toList = _
    rw [StrLaws.sliceText_to ⟨by omega, by rw [str_len]; omega⟩]
    have := str_len x
    show (x.cps.toList.drop 0).take _ = _
    rw [List.drop_zero, List.take_of_length_le (by omega), List.take_of_length_le (by omega)]
  · have := str_len x
    show (StrLaws.sliceText x none (some (n : Int))).cps.toList = _
    rw [StrLaws.sliceText_to ⟨by omega, by omega⟩]
    show (x.cps.toList.drop 0).take ((n : Int) - 0).toNat = _
    rw [List.drop_zero, show ((n : Int) - 0).toNat = n by omega]
theorem slice_from (x : Str) (n : Nat) : (Txt.slice x (some (n : Int)) none).cps.toList = x.cps.toList.drop n := by
  have hl := str_len x
  by_cases h : (x.length : Int) ≤ n
  · rw [slice_from_beyond h, List.drop_eq_nil_of_le (by omega)]
  · show (StrLaws.sliceText x (some (n : Int)) none).cps.toList = _
    rw [StrLaws.sliceText_from ⟨by omega, by omega⟩]
    show (x.cps.toList.drop (n : Int).toNat).take _ = _
    rw [Int.toNat_natCast, List.take_of_length_le (by rw [List.length_drop]; omega)]
end L2

namespace L2
open PySem PySem.Spec PyProof.Rows PySem.Builtin PySem.Builtin.Str PySem.StrLaws
open Sem (wp)

/-! ### a text's parts between the places of another one -/
def occL (y : List Nat) : Nat → Nat → List Nat → List Nat
  | _, _, [] => []
  | i, free, a :: r => if free ≤ i ∧ (a :: r).take y.length = y then i :: occL y (i + 1) (i + y.length) r else occL y (i + 1) free r
theorem occL_cons (y : List Nat) (i free a : Nat) (r : List Nat) : occL y i free (a :: r) = if free ≤ i ∧ (a :: r).take y.length = y then i :: occL y (i + 1) (i + y.length) r else occL y (i + 1) free r := rfl
theorem occ_list (s sub : Str) (hm : 1 ≤ sub.length) : ∀ (k i : Nat) (st : Array Nat × Nat), i + k = s.length + 1 → st.1.size ≤ i →
    (forIn (List.range' i k) st (occBody s sub s.length (s.length + 1))).run.fst.toList = st.1.toList ++ occL sub.cps.toList i st.2 (s.cps.toList.drop i)
  | 0, i, st, hi, hs => by
    have hn := str_len s
    rw [List.drop_eq_nil_of_le (by omega)]
    show st.1.toList = st.1.toList ++ []
    rw [List.append_nil]
  | k + 1, i, st, hi, hs => by
    have hn := str_len s
    have hy := str_len sub
    rw [List.range'_succ, List.forIn_cons]
    by_cases hlt : i < s.length
    · obtain ⟨a, ha⟩ : ∃ a, s.cps.toList[i]? = some a := ⟨_, List.getElem?_eq_getElem (by omega)⟩
      have hd : s.cps.toList.drop i = a :: s.cps.toList.drop (i + 1) := by
        obtain ⟨h1, h2⟩ := List.getElem?_eq_some_iff.mp ha
        rw [← h2, ← List.drop_eq_getElem_cons h1]
      have hsub : subAt s sub i = true ↔ (s.cps.toList.drop i).take sub.cps.toList.length = sub.cps.toList := by
        rw [subAt_eq, beq_iff_eq, hy]
      by_cases hc : st.2 ≤ i ∧ (s.cps.toList.drop i).take sub.cps.toList.length = sub.cps.toList
      · have hfit : i + sub.length ≤ s.length := by
          have := congrArg List.length hc.2
          rw [List.length_take, List.length_drop] at this
          omega
        have hb : occBody s sub s.length (s.length + 1) i st = pure (ForInStep.yield (st.fst.push i, i + sub.length)) := by
          unfold occBody
          rw [if_pos ⟨⟨⟨by omega, hc.1⟩, hfit⟩, hsub.mpr hc.2⟩]
        rw [hb]
        show (forIn (List.range' (i + 1) k) (st.fst.push i, i + sub.length) (occBody s sub s.length (s.length + 1))).run.fst.toList = _
        rw [occ_list s sub hm k (i + 1) _ (by omega) (by rw [Array.size_push]; omega), Array.toList_push, hd]
        rw [hd] at hc
        rw [occL_cons, if_pos hc, ← hy, List.append_assoc]
        rfl
      · have hb : occBody s sub s.length (s.length + 1) i st = pure (ForInStep.yield (st.fst, st.snd)) := by
          unfold occBody
          rw [if_neg (fun z => hc ⟨z.1.1.2, hsub.mp z.2⟩)]
        rw [hb]
        show (forIn (List.range' (i + 1) k) (st.fst, st.snd) (occBody s sub s.length (s.length + 1))).run.fst.toList = _
        rw [occ_list s sub hm k (i + 1) (st.fst, st.snd) (by omega) (show st.fst.size ≤ i + 1 by omega), hd]
        rw [hd] at hc
        rw [occL_cons, if_neg hc]
    · have hb : occBody s sub s.length (s.length + 1) i st = pure (ForInStep.yield (st.fst, st.snd)) := by
        unfold occBody
        rw [if_neg (fun z => by have := z.1.2; omega)]
      rw [hb]
      show (forIn (List.range' (i + 1) k) (st.fst, st.snd) (occBody s sub s.length (s.length + 1))).run.fst.toList = _
      rw [occ_list s sub hm k (i + 1) (st.fst, st.snd) (by omega) (show st.fst.size ≤ i + 1 by omega), List.drop_eq_nil_of_le (by omega), List.drop_eq_nil_of_le (by omega)]
      rfl
theorem occ_is (s sub : Str) (hm : 1 ≤ sub.length) : occurrences s sub 0 s.length (s.length + 1) = occL sub.cps.toList 0 0 s.cps.toList := by
  rw [occ_eq, Nat.sub_zero, occ_list s sub hm (s.length + 1) 0 (#[], 0) (by omega) (Nat.le_refl _)]
  rfl
/-- the parts: k signs still to be passed over, the part so far -/
def splG (y : List Nat) : Nat → List Nat → List Nat → List (List Nat)
  | _, acc, [] => [acc]
  | k + 1, acc, _ :: r => splG y k acc r
  | 0, acc, a :: r => if (a :: r).take y.length = y then acc :: splG y (y.length - 1) [] r else splG y 0 (acc ++ [a]) r
theorem splG_cons (y acc : List Nat) (a : Nat) (r : List Nat) : splG y 0 acc (a :: r) = if (a :: r).take y.length = y then acc :: splG y (y.length - 1) [] r else splG y 0 (acc ++ [a]) r := rfl
theorem parts_spl (x y : Str) (hm : 1 ≤ y.length) : ∀ (l : List Nat) (i a : Nat), x.cps.toList.drop i = l → i ≤ x.length →
    (partsFrom x y.length a (occL y.cps.toList i a l)).map (·.cps.toList) = splG y.cps.toList (a - i) ((x.cps.toList.drop a).take (i - a)) l
  | [], i, a, hl, hi => by
    have hn := str_len x
    have : x.cps.toList.length ≤ i := by
      have h := congrArg List.length hl
      rw [List.length_drop, List.length_nil] at h
      omega
    have e : i = x.length := by omega
    subst e
    show [(strSub x a x.length).cps.toList] = _
    rw [strSub_toList]
    cases a - x.length <;> rfl
  | c :: r, i, a, hl, hi => by
    have hn := str_len x
    have hy := str_len y
    have hlt : i < x.cps.toList.length := by
      have := congrArg List.length hl
      rw [List.length_drop, List.length_cons] at this
      omega
    have hr : x.cps.toList.drop (i + 1) = r := by
      rw [← List.drop_drop, hl]
      rfl
    have hci : x.cps.toList[i]? = some c := by
      have h0 : (x.cps.toList.drop i)[0]? = some c := by rw [hl]; rfl
      rw [List.getElem?_drop] at h0
      exact h0
    by_cases ha : i < a
    · obtain ⟨k, hk⟩ : ∃ k, a - i = k + 1 := ⟨a - i - 1, by omega⟩
      have ih := parts_spl x y hm r (i + 1) a hr (by omega)
      rw [occL_cons, if_neg (fun z => by have := z.1; omega), ih, hk, show a - (i + 1) = k by omega, show i + 1 - a = 0 by omega, show i - a = 0 by omega]
      rfl
    · rw [show a - i = 0 by omega, occL_cons, splG_cons]
      by_cases hc : (c :: r).take y.cps.toList.length = y.cps.toList
      · rw [if_pos ⟨by omega, hc⟩, if_pos hc]
        show (strSub x a i).cps.toList :: (partsFrom x y.length (i + y.length) (occL y.cps.toList (i + 1) (i + y.cps.toList.length) r)).map (·.cps.toList) = _
        rw [← hy, parts_spl x y hm r (i + 1) (i + y.length) hr (by omega), strSub_toList, show i + y.length - (i + 1) = y.length - 1 by omega, show i + 1 - (i + y.length) = 0 by omega]
        rfl
      · rw [if_neg (fun z => hc z.2), if_neg hc, parts_spl x y hm r (i + 1) a hr (by omega), show a - (i + 1) = 0 by omega]
        rw [show i + 1 - a = (i - a) + 1 by omega, List.take_add_one, List.getElem?_drop, show a + (i - a) = i by omega, hci]
        rfl
theorem splG_len (y : List Nat) : ∀ (l : List Nat) (k : Nat) (acc : List Nat), (splG y k acc l).length ≤ l.length + 1
  | [], k, acc => by cases k <;> simp [splG]
  | a :: r, k + 1, acc => by
    have := splG_len y r k acc
    show (splG y k acc r).length ≤ _
    rw [List.length_cons]
    omega
  | a :: r, 0, acc => by
    rw [splG_cons]
    split
    · have := splG_len y r (y.length - 1) []
      rw [List.length_cons, List.length_cons]
      omega
    · have := splG_len y r 0 (acc ++ [a])
      rw [List.length_cons]
      omega
theorem splG_short (y : List Nat) : ∀ (l acc : List Nat), l.length < y.length → splG y 0 acc l = [acc ++ l]
  | [], acc, _ => by simp [splG]
  | a :: r, acc, h => by
    have hne : ¬ (a :: r).take y.length = y := fun e => by
      have := congrArg List.length e
      rw [List.length_take] at this
      omega
    rw [splG_cons, if_neg hne, splG_short y r (acc ++ [a]) (by rw [List.length_cons] at h; omega)]
    simp
/-- a part that has not the first sign of the other text, with the other text behind it -/
theorem splG_word {c : Nat} {y' : List Nat} : ∀ {w : List Nat} (acc rest : List Nat), c ∉ w → splG (c :: y') 0 acc (w ++ (c :: y') ++ rest) = (acc ++ w) :: splG (c :: y') 0 [] rest
  | [], acc, rest, _ => by
    have hskip : ∀ (u : List Nat) (acc rest : List Nat), splG (c :: y') u.length acc (u ++ rest) = splG (c :: y') 0 acc rest := by
      intro u
      induction u with
      | nil => intro acc rest; rfl
      | cons a u ih => intro acc rest; exact ih acc rest
    show splG (c :: y') 0 acc (c :: (y' ++ rest)) = _
    rw [splG_cons, if_pos (by rw [show c :: (y' ++ rest) = (c :: y') ++ rest from rfl, List.take_left]), List.append_nil]
    show acc :: splG (c :: y') y'.length [] (y' ++ rest) = _
    rw [hskip]
  | a :: w, acc, rest, h => by
    have hac : a ≠ c := fun e => h (by rw [e]; exact List.mem_cons_self)
    show splG (c :: y') 0 acc (a :: (w ++ (c :: y') ++ rest)) = _
    rw [splG_cons, if_neg (fun e => hac (by injection e with e))]
    rw [splG_word (acc ++ [a]) rest (fun z => h (List.mem_cons_of_mem _ z))]
    simp
theorem splG_end {c : Nat} {y' : List Nat} : ∀ {w : List Nat} (acc : List Nat), c ∉ w → splG (c :: y') 0 acc w = [acc ++ w]
  | [], acc, _ => by simp [splG]
  | a :: w, acc, h => by
    have hac : a ≠ c := fun e => h (by rw [e]; exact List.mem_cons_self)
    rw [splG_cons, if_neg (fun e => hac (by injection e with e)), splG_end (acc ++ [a]) (fun z => h (List.mem_cons_of_mem _ z))]
    simp
theorem split_eq (x y : Str) (hm : 1 ≤ y.length) (hk : Builtin.Str.strKind y = 1) : (Txt.split x y).map (·.cps.toList) = splG y.cps.toList 0 [] x.cps.toList := by
  have hx := str_len x
  have hy := str_len y
  have base : (partsBetween x (occurrences x y 0 x.length (x.length + 1)) y.length).map (·.cps.toList) = splG y.cps.toList 0 [] x.cps.toList := by
    rw [partsBetween_eq, occ_is x y hm]
    exact parts_spl x y hm x.cps.toList 0 0 rfl (Nat.zero_le _)
  unfold Txt.split
  split
  · rename_i h
    have hlt : x.length < y.length := by
      rw [Bool.or_eq_true, decide_eq_true_eq, decide_eq_true_eq] at h
      rcases h with h | h
      · exact h
      · have : 1 ≤ Builtin.Str.strKind x := by unfold Builtin.Str.strKind; split <;> (try split) <;> omega
        omega
    rw [splG_short _ _ _ (by omega)]
    rfl
  · split
    · rename_i h
      rw [← base, List.isEmpty_iff.mp h, partsBetween_eq]
      show _ = [(strSub x 0 x.length).cps.toList]
      rw [sub_whole]
      rfl
    · exact base
/-- s.split(t) -/
def rSplit : V → List V → Hp → VK → Prop := fun x vs H Q => ∃ z y, x = .str z ∧ vs = [.str y] ∧ 1 ≤ y.length ∧ Builtin.Str.strKind y = 1 ∧ z.length ≤ 100000 ∧ ∀ p, H p = none → Q (.ref p) (upd H p (.lst ((Txt.split z y).map V.str)))
theorem vals_strs : ∀ (ps : List Str) (tk : Nat), Vals (ps.map V.str) (strsFrom tk ps)
  | [], _ => .nil
  | p :: ps, tk => .cons ⟨tk, rfl⟩ (vals_strs ps (tk + 1))
theorem split_len (z y : Str) (hm : 1 ≤ y.length) (hk : Builtin.Str.strKind y = 1) : (Txt.split z y).length ≤ z.length + 1 := by
  have h := congrArg List.length (split_eq z y hm hk)
  rw [List.length_map] at h
  have := splG_len y.cps.toList z.cps.toList 0 []
  rw [← str_len] at this
  omega
theorem mt_split {X : Cx} : MtR X "str.split" rSplit := by
  intro pins s σ H x vs v us Q I rx rv h
  obtain ⟨z, y, rfl, rfl, hm, hk, hz, q⟩ := h
  obtain ⟨t, rfl⟩ := rx
  obtain ⟨u', rfl, u, rfl⟩ := rv.one
  have hsb := sizeLine_big
  have hl := split_len z y hm hk
  have hy : (y.length == 0) = false := by
    rw [beq_eq_false_iff_ne]
    omega
  have hone : Vals (List.map V.str [z]) [Value.str z t] := .cons ⟨t, rfl⟩ .nil
  cases h1 : (decide (z.length < y.length) || decide (Builtin.Str.strKind z < Builtin.Str.strKind y))
  · cases hf : (occurrences z y 0 z.length (z.length + 1)).isEmpty
    · have e : Txt.split z y = partsBetween z (occurrences z y 0 z.length (z.length + 1)) y.length := by
        unfold Txt.split
        rw [if_neg (by rw [h1]; decide), if_neg (by rw [hf]; decide)]
      rw [e] at hl q
      refine call_meets PySem.F.slot_str_split (typeIs_str _ _ _) PySem.F.entry_str_split (PySem.F.args_str_split_2 _ _) (meets_str_split_sep z y t u h1 hy hf (by omega) (by omega)) ?_
      exact ⟨.ref s.heap.objs.size, _, I.lnew (vals_strs _ _) (by rw [List.length_map]; omega), rfl, q _ I.fresh⟩
    · have e : Txt.split z y = [z] := by
        unfold Txt.split
        rw [if_neg (by rw [h1]; decide), if_pos hf]
      rw [e] at q
      refine call_meets PySem.F.slot_str_split (typeIs_str _ _ _) PySem.F.entry_str_split (PySem.F.args_str_split_2 _ _) (meets_str_split_not_found z y t u h1 hy hf) ?_
      exact ⟨.ref s.heap.objs.size, _, I.lnew (t' := s.toks) hone (show 1 ≤ sizeLine by omega), rfl, q _ I.fresh⟩
  · have e : Txt.split z y = [z] := by
      unfold Txt.split
      rw [if_pos h1]
    rw [e] at q
    refine call_meets PySem.F.slot_str_split (typeIs_str _ _ _) PySem.F.entry_str_split (PySem.F.args_str_split_2 _ _) (meets_str_split_cannot_occur z y t u h1) ?_
    exact ⟨.ref s.heap.objs.size, _, I.lnew (t' := s.toks) hone (show 1 ≤ sizeLine by omega), rfl, q _ I.fresh⟩
/-- words with one blank between -/
def strOf' (l : List Nat) : Str := ⟨l.toArray⟩
theorem str_back (x : Str) : strOf' x.cps.toList = x := by
  cases x
  simp [strOf']
theorem str_ext9 {x y : Str} (h : x.cps.toList = y.cps.toList) : x = y := by rw [← str_back x, ← str_back y, h]
theorem map_chars_inj : ∀ {a b : List Str}, a.map (·.cps.toList) = b.map (·.cps.toList) → a = b
  | [], [], _ => rfl
  | [], _ :: _, h => by cases h
  | _ :: _, [], h => by cases h
  | x :: a, y :: b, h => by
    rw [List.map_cons, List.map_cons] at h
    injection h with h1 h2
    rw [str_ext9 h1, map_chars_inj h2]
/-- x has not the sign c -/
def noC (c : Nat) (x : Str) : Prop := c ∉ x.cps.toList
/-- the texts of ws with y between -/
def glue (y : Str) : List Str → Str
  | [] => Str.empty
  | [w] => w
  | w :: ws => w ++ y ++ glue y ws
theorem glue_chars {c : Nat} {y' : List Nat} {y : Str} (hy : y.cps.toList = c :: y') : ∀ {ws : List Str}, ws ≠ [] → (∀ w ∈ ws, noC c w) → splG (c :: y') 0 [] (glue y ws).cps.toList = ws.map (·.cps.toList)
  | [w], _, h => by
    show splG (c :: y') 0 [] w.cps.toList = [w.cps.toList]
    rw [splG_end [] (h w List.mem_cons_self)]
    rfl
  | w :: v :: ws, _, h => by
    show splG (c :: y') 0 [] (w ++ y ++ glue y (v :: ws)).cps.toList = _
    rw [app_chars, app_chars, hy, splG_word [] _ (h w List.mem_cons_self), glue_chars hy (List.cons_ne_nil _ _) (fun z hz => h z (List.mem_cons_of_mem _ hz))]
    rfl
/-- what was put together of parts without the sign comes apart into them -/
theorem split_glue {c : Nat} {y' : List Nat} {y : Str} (hy : y.cps.toList = c :: y') (hk : Builtin.Str.strKind y = 1) {ws : List Str} (hne : ws ≠ []) (h : ∀ w ∈ ws, noC c w) : Txt.split (glue y ws) y = ws := by
  apply map_chars_inj
  rw [split_eq _ _ (by rw [str_len, hy]; simp) hk, hy]
  exact glue_chars hy hne h
end L2

namespace L2
open PySem PySem.Spec PyProof.Rows PySem.NumText
open Sem (wp)

/-! ### numbers as texts of figures -/
/-- int(s) of a text of figures -/
def rIntT : List V → Hp → VK → Prop := fun xs H Q => ∃ x : Str, xs = [.str x] ∧ AllDigits x.cps.toList ∧ x.cps.toList ≠ [] ∧ x.length ≤ 640 ∧ Q (.int (digitsVal x.cps.toList : Nat)) H
theorem call_int_text {X : Cx} : CallR X (.type "int") rIntT := by
  intro pins s σ H xs us Q I r h
  obtain ⟨x, rfl, hd, hne, hl, q⟩ := h
  obtain ⟨u, rfl, t, rfl⟩ := vals1 r
  exact PySem.W.KIN.call_text (intText_digits hd hne (by omega)) hl ⟨.int (digitsVal x.cps.toList : Nat), H, I.tok _, ⟨_, rfl⟩, q⟩
/-- the text of a number from 0 on -/
def figs (n : Nat) : Str := Str.ofString (toString ((n : Nat) : Int))
theorem figs_chars (n : Nat) : (figs n).cps.toList = (Nat.toDigits 10 n).map Char.toNat := PySem.W.KIN.signs_num n
theorem figs_of {i : Int} (h : 0 ≤ i) : Str.ofString (toString i) = figs i.toNat := by
  obtain ⟨n, rfl⟩ := Int.eq_ofNat_of_zero_le h
  rfl
theorem figs_digits (n : Nat) : AllDigits (figs n).cps.toList := by
  intro c hc
  rw [figs_chars] at hc
  obtain ⟨ch, hch, e⟩ := List.mem_map.mp hc
  have r := PyProof.Rows.digit_range (Nat.isDigit_of_mem_toDigits (by decide) (by decide) hch)
  rw [← e]
  exact r
theorem figs_ne (n : Nat) : (figs n).cps.toList ≠ [] := by
  rw [figs_chars]
  intro e
  have h := toDigits_len_ge 10 n
  rw [List.map_eq_nil_iff.mp e] at h
  exact absurd h (by decide)
theorem figs_val (n : Nat) : digitsVal (figs n).cps.toList = n := by
  rw [figs_chars]
  exact PySem.W.KIN.val_back n
theorem figs_len {n k : Nat} (hk : 1 ≤ k) (h : n < 10 ^ k) : (figs n).length ≤ k := by
  rw [str_len, figs_chars, List.length_map]
  exact toDigits_len_pow (by decide) hk h
theorem chars_back : ∀ {cs : List Nat}, AllDigits cs → (cs.map Char.ofNat).map Char.toNat = cs
  | [], _ => rfl
  | c :: cs, h => by
    have hc := h.head
    have key : ∀ c : Nat, 48 ≤ c → c ≤ 57 → (Char.ofNat c).toNat = c := by
      intro c h1 h2
      have : c = 48 ∨ c = 49 ∨ c = 50 ∨ c = 51 ∨ c = 52 ∨ c = 53 ∨ c = 54 ∨ c = 55 ∨ c = 56 ∨ c = 57 := by omega
      rcases this with rfl | rfl | rfl | rfl | rfl | rfl | rfl | rfl | rfl | rfl <;> rfl
    rw [List.map_cons, List.map_cons, key c hc.1 hc.2, chars_back h.tail]
/-- a text of figures with no 0 ahead is the text of its number -/
theorem figs_back {x : Str} (hd : AllDigits x.cps.toList) (hne : x.cps.toList ≠ []) (h0 : x.length = 1 ∨ x.cps.toList.getD 0 0 ≠ 48) : figs (digitsVal x.cps.toList) = x := by
  apply str_ext
  rw [figs_chars]
  have hl := str_len x
  generalize x.cps.toList = cs at *
  cases cs with
  | nil => exact absurd rfl hne
  | cons c r =>
    have hc := hd.head
    rw [toDigits_digitsVal r.length (c :: r) rfl hd ?_, chars_back hd]
    rcases h0 with h | h
    · left
      rw [hl, List.length_cons] at h
      omega
    · right
      have h : c ≠ 48 := h
      exact ⟨c, r, rfl, by omega⟩
/-- the first figure of a number that is not 0 -/
theorem figs_first {n : Nat} (h : n ≠ 0) : (figs n).cps.toList.getD 0 0 ≠ 48 := by
  have hd := figs_digits n
  have hv := figs_val n
  have ha := toDigits_all _ hd
  rw [hv] at ha
  have hc := figs_chars n
  rw [ha] at hc
  intro e
  generalize (figs n).cps.toList = cs at *
  cases hw : cs.dropWhile (· == 48) with
  | nil =>
    rw [hw] at hc
    have hc : cs = [48] := hc
    rw [hc] at hv
    exact h hv.symm
  | cons c r =>
    rw [hw] at hc
    have hall : AllDigits (c :: r) := fun d hd' => hd d ((List.dropWhile_suffix (· == 48)).subset (by rw [hw]; exact hd'))
    have hc : cs = ((c :: r).map Char.ofNat).map Char.toNat := hc
    rw [chars_back hall] at hc
    have hne := List.head?_dropWhile_not (· == 48) cs
    rw [hw] at hne
    have hc48 : ¬ (c == 48) = true := by simpa using hne
    rw [hc] at e
    exact hc48 (by rw [beq_iff_eq]; exact e)
theorem figs_log {n : Int} (h0 : 0 ≤ n) (h1 : n < 10 ^ 70) : n.natAbs.log2 < 1920 := by
  have : n.natAbs < 2 ^ 1920 := Nat.lt_of_lt_of_le (show n.natAbs < 10 ^ 70 by omega) (by decide +kernel)
  by_cases e : n.natAbs = 0
  · rw [e]; decide
  · exact (Nat.log2_lt e).mpr this
/-- a text of figures is short: its number is small -/
theorem digits_small : ∀ {cs : List Nat}, AllDigits cs → digitsVal cs < 10 ^ cs.length := by
  intro cs
  have key : ∀ (cs : List Nat) (a : Nat), AllDigits cs → cs.foldl (fun acc c => acc * 10 + (c - 48)) a < (a + 1) * 10 ^ cs.length := by
    intro cs
    induction cs with
    | nil => intro a _; simp
    | cons c r ih =>
      intro a h
      have h1 := ih (a * 10 + (c - 48)) h.tail
      have h2 := h.head
      rw [List.foldl_cons, List.length_cons, Nat.pow_succ]
      refine Nat.lt_of_lt_of_le h1 ?_
      have h3 : a * 10 + (c - 48) + 1 ≤ (a + 1) * 10 := by omega
      calc (a * 10 + (c - 48) + 1) * 10 ^ r.length ≤ ((a + 1) * 10) * 10 ^ r.length := Nat.mul_le_mul_right _ h3
        _ = (a + 1) * (10 ^ r.length * 10) := by rw [Nat.mul_assoc, Nat.mul_comm 10]
  intro h
  have := key cs 0 h
  simpa [digitsVal] using this
end L2

namespace L2
open PySem PySem.Spec PyProof.Rows
open Sem (wp)

/-! ### an exception of a callee goes on through its caller -/
theorem CXe.mono {P : Program} {w : World} {outer : List Env} {H : Hp} {s s' : Shared} {E E' : XK} {e : Value} (h : CXe P w outer H s E e s') (k : ∀ C dx H', E C dx H' → E' C dx H') : CXe P w outer H s E' e s' := by
  obtain ⟨xa, C, a0, B, H', h1, h2, h3, h4, h5, h6, h7, h8⟩ := h
  exact ⟨xa, C, a0, B, H', h1, h2, h3, h4, h5, h6, h7, k _ _ _ h8⟩
/-- where an exception leaves this def: as CXe says -/
def Leaves (X : Cx) (E : XK) : Prop := X.stack = X.env :: X.outer ∧ X.env.frame = some X.env.locals ∧ X.ex = [] ∧
  ∀ e s', wpAny (model X.prog X.w) X.A (leaving X.env e) (fun _ s'' => CXe X.prog X.w X.outer X.H₀ X.s₀ E e s'') (fun e' s'' => CXe X.prog X.w X.outer X.H₀ X.s₀ E e' s'') s' → X.xe e s'
section
variable {X : Cx} {pins : List (Addr × Obj)} {σ : St} {H : Hp} {s : Shared}
theorem Thrown.pass {B : Heap} {H' : Hp} (I : Inv X pins σ H s) (hst : X.stack = X.env :: X.outer) (hf : X.env.frame = some X.env.locals) (hex : X.ex = []) (T : Thrown X.prog X.w X.stack H s B H') : Thrown X.prog X.w X.outer X.H₀ X.s₀ B H' := by
  have nx : ∀ b : Addr, b ∉ X.ex := fun b => by rw [hex]; simp
  have nl : ∀ b o, X.s₀.heap.get? b = some o → b ∉ frs X.outer → b ∉ frs X.stack := fun b o e hb hm => by
    rcases (stk_mem hst hf b).mp hm with q | q
    · exact absurd (Nat.lt_of_lt_of_le (Heap.lt_size e) I.ok.above) (by rw [q]; exact Nat.lt_irrefl _)
    · exact hb q
  refine ⟨fun b o e n hb => ?_, fun b o e n => ?_, fun b o e hb => ?_, fun b xs e => T.tups b xs (I.base.tups b xs e), fun b o u e => T.frzs b o u (I.base.frzs b o u e), fun b ps e => ?_, T.hok⟩
  · exact T.old b o (I.base.keep b o e n hb (nx b)) (I.base.free b o e n (nx b)) (nl b o e hb)
  · obtain ⟨o', e'⟩ := I.base.there b o e (nx b)
    exact T.fre b o' e' (I.base.free b o e n (nx b))
  · obtain ⟨o', e'⟩ := I.base.there b o e (nx b)
    exact T.thr b o' e' (nl b o e hb)
  · obtain ⟨m1, e1⟩ := I.base.tbls b ps e
    obtain ⟨m2, e2⟩ := T.tbls b _ e1
    exact ⟨m1 ++ m2, by rw [e2, Array.append_assoc]⟩
theorem passE {E : XK} (L : Leaves X E) : Passes (CXe X.prog X.w) X E := by
  obtain ⟨hst, hf, hex, hxe⟩ := L
  intro pins σ H s e s' I h
  obtain ⟨xa, C, a0, B, H', rfl, hos, hbare, T, hfl, hsl, hxn, hE⟩ := h
  refine hxe _ _ ?_
  have hfl' : Heap.FlyingW B (X.env :: X.outer) xa (.ref C) a0 s'.heap := by rw [← hst]; exact hfl
  refine wpAny_leaves_onW (by rw [I.ok.frames, hst]) hf hfl' fun h'' x1 x2 => ?_
  refine ⟨xa, C, a0, B, H', rfl, hos.trans I.os, hbare, T.pass I hst hf hex, x1, fun b o e n hb => ?_, hxn, hE⟩
  have nx : b ∉ X.ex := by rw [hex]; simp
  obtain ⟨sl, e2⟩ := I.base.slot b o e n hb nx
  obtain ⟨sl', e3⟩ := hsl b _ e2 (I.base.free b o e n nx) ((stk_mem hst hf b).mpr (.inr hb))
  obtain ⟨_, o', ho', hnf⟩ := x1.2.2.1.mem hb
  obtain ⟨_, o2, ho2, hnf2⟩ := hfl.2.2.1.mem ((stk_mem hst hf b).mpr (.inr hb))
  rw [e3] at ho2
  cases ho2
  obtain ⟨sl'', e4⟩ := x2 b _ e3 hnf2
  exact ⟨sl'', e4⟩
end
section
variable {X : Cx} {k : Nat} {x : Str} {ps : List Str} {sp : Sp} {p pos : Pos} {e : Expr} {es : List Expr} {t : TA} {E : XK}
/-- f(..), f may raise -/
theorem pe_callE (F : HasE X.prog X.w X.K X.mg X.base k x ps sp) (hr : Room k X.A) (hg : Gl X x) (hx : Passes (CXe X.prog X.w) X E) (ha : PA X (e :: es) t) (hdb : (x == ("__debug__" : Str)) = false := by decide)
    (h1 : isStar e = false := by rfl) (h2 : es.all (fun x => !isStar x) = true := by rfl) : PE X (.Call (.Name x p) (e :: es) [] pos) (tCall sp [] E t) := by
  obtain ⟨f, fd, G, hm, hk, hb⟩ := F.ex
  exact pe_call G hr hg hm hk hb .nil hx ha hdb (star_cons h1) (star_plain h2)
end

/-! ### an exception out of a comprehension's element -/
section
variable {M : Model} {A : Around} {E : Value → Shared → Prop} {s : Shared}
theorem noteFrame_env {env env' : Env} (h : env.frame = env'.frame) (e : Value) : noteFrame e env = noteFrame e env' := by
  unfold noteFrame PySem.frameOf
  rw [h]
theorem funFrames_to {h h' base base' : Heap} : ∀ {l : List Env}, h.FunFrames base l → (∀ b, base.get? b = none → base'.get? b = none) → (∀ b ∈ frs l, h'.get? b = h.get? b) → h'.FunFrames base' l
  | [], _, _, _ => trivial
  | env :: l, ⟨hk, ⟨L, o, hf, hn, ho, hd⟩, hr⟩, k1, k2 => by
    have hm : L ∈ frs (env :: l) := by unfold frs; rw [List.filterMap_cons, hf]; exact List.mem_cons_self
    refine ⟨hk, ⟨L, o, hf, k1 _ hn, (k2 L hm).trans ho, hd⟩, funFrames_to hr k1 fun b hb => k2 b ?_⟩
    unfold frs
    rw [List.filterMap_cons, hf]
    exact List.mem_cons_of_mem _ hb
/-- the exception leaves, whatever flight is noted -/
theorem leaves_any {base : Heap} {env : Env} {outer : List Env} {L e : Addr} {cls a0 fl : Value} {Q : Unit → Shared → Prop}
    (hfr : A.frames = some (env :: outer)) (hf : env.frame = some L) (hkb : base.StaysIn s.heap) (hen : base.get? e = none) (hl : s.heap.FunFrames base (env :: outer)) (ht : s.heap.TracedAtW base e cls a0 fl)
    (hQ : ∀ h', Heap.FlyingW base outer e cls a0 h' → s.heap.UpToSlots h' → Q () { s with heap := h' }) : wpAny M A (leaving env (.ref e)) Q E s := by
  by_cases hfl : fl = rawInt L
  · subst hfl
    unfold leaving
    refine wpAny_bind (wpAny_noteFrame_againW hf ht ?_)
    refine wpAny_landsW ⟨hkb, hen, hl, ht⟩ fun h' x sm => ?_
    obtain ⟨k1, k2, ⟨_, _, k3⟩, k4⟩ := x
    exact hQ h' ⟨k1, k2, k3, k4⟩ sm
  · obtain ⟨oe, vs, T, oT, ts, he, ⟨hcls, h0⟩, hd, h1, hnT, hTe, hT, hdT, h3⟩ := ht
    subst hcls
    unfold leaving noteFrame
    simp only [hf]
    refine wpAny_bind (wpAny_bind (wpAny_field he hd h1 ?_))
    rw [if_pos (show (Value.ref T != Value.none) = true from by simp)]
    refine wpAny_bind (wpAny_field hT hdT h3 ?_)
    rw [if_neg (show ¬ ((fl == rawInt L) = true) from by simpa using hfl)]
    refine wpAny_bind (wpAny_setField hT hdT (Array.getElem?_eq_some_iff.mp h3).1 ?_)
    have other : ∀ b, b ≠ T → (s.heap.update T (Obj.mapFields (·.setIfInBounds 3 Value.none))).get? b = s.heap.get? b := fun b hb => Heap.get?_update_other _ _ (Ne.symm hb)
    have noRecord : ∀ b o, s.heap.get? b = some o → (∀ vs, o.data ≠ .fields vs) → b ≠ T := fun b o hb hnf q => by
      rw [q, hT] at hb; injection hb with hb; subst hb; exact hnf ts hdT
    refine wpAny_newEntryW hfr (hl.of_keeps fun b o hb hnf => ⟨o, (other b (noRecord b o hb hnf)).trans hb, rfl⟩) hf ((other e (Ne.symm hTe)).trans he)
      (fun b o hbo => (other b fun q => by rw [q, hnT] at hbo; cases hbo).trans (hkb b o hbo)) hen hd (Array.getElem?_eq_some_iff.mp h1).1 h0
      fun h' ⟨x1, ⟨_, _, x2⟩, x3, x4⟩ => hQ h' ⟨x1, hen, x2, x3⟩ fun b o hb hnf => x4 b o ((other b (noRecord b o hb hnf)).trans hb) hnf
theorem passOn_any {α : Type} {base : Heap} {l : List Env} {e : Addr} {cls a0 fl : Value} {what : String} {cenv : Env} {Q : α → Shared → Prop}
    (hkb : base.StaysIn s.heap) (hl : s.heap.FunFrames base l) (ht : s.heap.TracedAtW base e cls a0 fl)
    (h : ∀ h' fl', base.StaysIn h' → h'.FunFrames base l → h'.TracedAtW base e cls a0 fl' → (∀ b o, s.heap.get? b = some o → (∀ vs, o.data ≠ .fields vs) → h'.get? b = some o) → E (.ref e) { s with heap := h' }) :
    wpAny M A (PySem.passOn what (.ref e) cenv : Sem α) Q E s := by
  obtain ⟨oe, vs, T, oT, ts, he, hcls, hd, h1, hnT, hTe, hT, hdT, h3⟩ := ht
  have hsz3 : 3 < ts.size := (Array.getElem?_eq_some_iff.mp h3).1
  unfold PySem.passOn
  refine wpAny_bind (wpAny_field he hd h1 ?_)
  rw [if_neg (show ¬ ((Value.ref T == Value.none) = true) from by simp)]
  refine wpAny_bind ?_
  unfold setFlight
  refine wpAny_bind (wpAny_field he hd h1 ?_)
  rw [if_pos (show (Value.ref T != Value.none) = true from by simp)]
  refine wpAny_setField hT hdT hsz3 (wpAny_throw ?_)
  have other : ∀ b, b ≠ T → (s.heap.update T (Obj.mapFields (·.setIfInBounds 3 (cenv.frame.elim Value.none fun f => rawInt f)))).get? b = s.heap.get? b :=
    fun b hb => Heap.get?_update_other _ _ (Ne.symm hb)
  have noRecord : ∀ b o, s.heap.get? b = some o → (∀ vs, o.data ≠ .fields vs) → b ≠ T := fun b o hb hnf q => by
    rw [q, hT] at hb; injection hb with hb; subst hb; exact hnf ts hdT
  refine h _ (cenv.frame.elim Value.none fun f => rawInt f) (fun b o hbo => (other b fun q => by rw [q, hnT] at hbo; cases hbo).trans (hkb b o hbo))
    (hl.of_keeps fun b o hb hnf => ⟨o, (other b (noRecord b o hb hnf)).trans hb, rfl⟩) ?_ fun b o hb hnf => (other b (noRecord b o hb hnf)).trans hb
  exact ⟨oe, vs, T, _, _, (other e (Ne.symm hTe)).trans he, hcls, hd, h1, hnT, hTe, Heap.get?_update_self _ hT (Obj.isFreed_of_fields (Obj.data_mapFields hdT _)), Obj.data_mapFields hdT _, by simp [hsz3]⟩
end
theorem comp_back0 {X : Cx} {pins pins' : List (Addr × Obj)} {σ σ' : St} {H H' : Hp} {s s' : Shared} {N' : List Str} {scope : Scope} {fp : List Addr}
    (I : Inv X pins σ H s) (hfp : ∀ b ∈ fp, FpOk X pins H b) (J : Inv (compCx X N' scope { s with heap := s.heap.push (lobj [] 0) } H (s.heap.objs.size :: fp)) pins' σ' H' s') : Inv X pins σ H' s' := by
  have hU := J.base
  have old0 : ∀ b o, s.heap.get? b = some o → (s.heap.push (lobj [] 0)).get? b = some o := fun b o e => Heap.get?_push_of_some _ e
  have nex : ∀ b o, s.heap.get? b = some o → b ∉ fp → b ∉ s.heap.objs.size :: fp := fun b o e hb z => by
    rcases List.mem_cons.mp z with z | z
    · exact Nat.ne_of_lt (Heap.lt_size e) z
    · exact hb z
  refine I.call' (ch := fp) J.os ⟨fun b o e q hb hx => ?_, fun b o e q hb hx => ?_, fun b o e q hx => ?_, fun b o e hx => ?_, fun b xs e => hU.tups b xs e, fun b o u e => hU.frzs b o u e, fun b ps e => hU.tbls b ps e⟩ J.hok J.bare (fun b hb => ?_)
  · exact hU.keep b o (old0 b o e) q hb (nex b o e hx)
  · exact hU.slot b o (old0 b o e) q hb (nex b o e hx)
  · exact hU.free b o (old0 b o e) q (nex b o e hx)
  · exact hU.there b o (old0 b o e) (nex b o e hx)
  · obtain ⟨f0, f1, f2, f3, f4, f5⟩ := hfp b hb
    exact ⟨f3, f1, f4, f5⟩
/-- what an exception of the element is, within the block -/
def BlockX (X : Cx) (E : XK) (N' : List Str) (scope : Scope) (s3 : Shared) (H2 : Hp) (ex : List Addr) (e : Value) (s' : Shared) : Prop :=
  ∃ pins σ H s, Inv (compCx X N' scope s3 H2 ex) pins σ H s ∧ CXe X.prog X.w X.stack H s E e s'
def compCxE (X : Cx) (E : XK) (N' : List Str) (scope : Scope) (s3 : Shared) (H2 : Hp) (ex : List Addr) : Cx := (compCx X N' scope s3 H2 ex).wish (BlockX X E N' scope s3 H2 ex)
theorem passC {X : Cx} {E : XK} {N' : List Str} {scope : Scope} {s3 : Shared} {H2 : Hp} {ex : List Addr} : Passes (CXe X.prog X.w) (compCxE X E N' scope s3 H2 ex) E :=
  fun pins σ H s e s' I h => ⟨pins, σ, H, s, I.unwish, h⟩
theorem comp_raise {X : Cx} {E : XK} {pins : List (Addr × Obj)} {σ : St} {H : Hp} {s s' : Shared} {N' : List Str} {scope : Scope} {fp : List Addr} {e : Value} {use : Option (Value → Sem Unit)} {Q : Value → Shared → Prop} {acc : Value}
    (L : Leaves X E) (I : Inv X pins σ H s) (hfp : ∀ b ∈ fp, FpOk X pins H b) (h : BlockX X E N' scope { s with heap := s.heap.push (lobj [] 0) } H (s.heap.objs.size :: fp) e s') (cl : List (Str × Addr)) :
    notedBy (model X.prog X.w) X.A (compEnvC scope cl (s.heap.push (lobj [] 0)).objs.size X.env) (fun e s'' => compPost (model X.prog X.w) X.A X.xe use Q acc (s.heap.push (lobj [] 0)).objs.size (.error e) s'') e s' := by
  obtain ⟨hst, hf, hex, hxe⟩ := L
  obtain ⟨pins', σ', H1, s1, J, xa, Cc, a0, B, H', rfl, hos, hbare, T, hfl, hsl, hxn, hE⟩ := h
  have I1 := comp_back0 I hfp J
  have hC : (s.heap.push (lobj [] 0)).objs.size = s.heap.objs.size + 1 := by rw [Heap.size_push]
  unfold notedBy
  rw [noteFrame_env (env := compEnvC scope cl (s.heap.push (lobj [] 0)).objs.size X.env) (env' := X.env) rfl]
  have hfr : X.A.frames = some (X.env :: X.outer) := by rw [I.ok.frames, hst]
  have hfl' : Heap.FlyingW B (X.env :: X.outer) xa (.ref Cc) a0 s'.heap := by rw [← hst]; exact hfl
  refine wpAny_looks_onW hfr hf hfl' fun h2 hheld sm2 => ?_
  obtain ⟨m, o, es, ep, ho, hd, hr⟩ : ∃ m, s1.heap.Ns (s.heap.push (lobj [] 0)).objs.size m := let ⟨m, hn, _⟩ := J.loc; ⟨m, hn⟩
  have hCf : (s.heap.push (lobj [] 0)).objs.size ∉ frs X.stack := fun z => by
    obtain ⟨_, o, ho, _⟩ := I.stack.mem z
    have h9 : (s.heap.push (lobj [] 0)).objs.size < s.heap.objs.size := Heap.lt_size ho
    rw [hC] at h9
    exact absurd h9 (Nat.not_lt.mpr (Nat.le_succ _))
  have HC : H1 (s.heap.push (lobj [] 0)).objs.size = none := J.free
  generalize hCd : (s.heap.push (lobj [] 0)).objs.size = C at ho hCf HC hC ⊢
  have hBC := T.old C o ho HC hCf
  have hHC : H' C = none := T.fre C o ho HC
  have hns2 : h2.Ns C m := sm2.ns ⟨o, es, ep, hfl.1 _ _ hBC, hd, hr⟩
  show ∃ m, h2.Ns C m ∧ ∀ h', Heap.SameBut C h2 h' → ∀ cenv : Env, cenv.locals = C → wpAny (model X.prog X.w) X.A (PySem.passOn "comprehension.variables-let-go" (.ref xa) cenv : Sem Value) (fun _ _ => False) X.xe { s' with heap := h' }
  refine ⟨m, hns2, fun h3 hsb cenv _ => ?_⟩
  -- the base without the block's names
  have bn : ∀ b, B.get? b = none → (PySem.W.hideAll B [C]).get? b = none := fun b hb => by
    cases q : (PySem.W.hideAll B [C]).get? b with
    | none => rfl
    | some o' => have := PySem.W.of_hideAll _ q; rw [hb] at this; cases this
  have bs : ∀ b o', (PySem.W.hideAll B [C]).get? b = some o' → b ≠ C ∧ B.get? b = some o' := fun b o' q => by
    refine ⟨fun z => ?_, PySem.W.of_hideAll _ q⟩
    rw [z, PySem.W.hideAll_none [C] (List.mem_singleton.mpr rfl)] at q
    cases q
  obtain ⟨g1, g2, g3, oe, vs, Tb, oT, ts, he, hcls, hdd, h1, hnT, hTe, hT, hdT, hfl3⟩ := hheld
  have neC : ∀ b, B.get? b = none → b ≠ C := fun b hb z => by rw [z, hBC] at hb; cases hb
  have st3 : (PySem.W.hideAll B [C]).StaysIn h3 := fun b o' q => (hsb.2 b (bs b o' q).1).trans (g1 b o' (bs b o' q).2)
  have fr3 : h3.FunFrames (PySem.W.hideAll B [C]) (X.env :: X.outer) := funFrames_to g3 bn fun b hb => hsb.2 b fun z => by
    rw [z, ← hst] at hb
    exact hCf hb
  have tr3 : h3.TracedAtW (PySem.W.hideAll B [C]) xa (.ref Cc) a0 (rawInt X.env.locals) := ⟨oe, vs, Tb, oT, ts, (hsb.2 xa (neC _ g2)).trans he, hcls, hdd, h1, bn _ hnT, hTe, (hsb.2 Tb (neC _ hnT)).trans hT, hdT, hfl3⟩
  refine passOn_any (s := { s' with heap := h3 }) st3 fr3 tr3 fun h4 fl4 st4 fr4 tr4 kp4 => hxe _ _ ?_
  refine leaves_any (s := { s' with heap := h4 }) hfr hf st4 (bn _ g2) fr4 tr4 fun h5 x1 x2 => ?_
  have Tp := T.pass I1 hst hf hex
  have ltC : ∀ b o', X.s₀.heap.get? b = some o' → b ∉ [C] := fun b o' e z => by
    have h8 : b < X.s₀.heap.objs.size := Heap.lt_size e
    rw [List.mem_singleton.mp z, hC] at h8
    exact absurd (Nat.lt_of_lt_of_le h8 I.sz) (Nat.not_lt.mpr (Nat.le_succ _))
  refine ⟨xa, Cc, a0, PySem.W.hideAll B [C], H', rfl, hos.trans I1.os, hbare, ⟨fun b o' e n hb => PySem.W.hideAll_get _ (Tp.old b o' e n hb) (ltC b o' e), Tp.fre, fun b o' e hb => ?_, Tp.tups, Tp.frzs, Tp.tbls, fun a u q => ?_⟩, x1, fun b o' e n hb => ?_, hxn, hE⟩
  · obtain ⟨o2, e2⟩ := Tp.thr b o' e hb
    exact ⟨o2, PySem.W.hideAll_get _ e2 (ltC b o' e)⟩
  · refine (Tp.hok a u q).stay (fun b u' hb q' => PySem.W.hideAll_get _ q' fun z => ?_) (fun _ q => q) fun _ _ q => q
    rw [List.mem_singleton.mp z] at hb
    rcases hb with z | z
    · rw [← z, hHC] at q; cases q
    · rw [hHC] at z; cases z
  · have nx : b ∉ X.ex := by rw [hex]; simp
    have hbs : b ∈ frs X.stack := (stk_mem hst hf b).mpr (.inr hb)
    obtain ⟨sl, e2⟩ := I1.base.slot b o' e n hb nx
    obtain ⟨sl', e3⟩ := hsl b _ e2 (I1.base.free b o' e n nx) hbs
    obtain ⟨_, o2, ho2, hnf2⟩ := hfl.2.2.1.mem hbs
    rw [e3] at ho2
    cases ho2
    obtain ⟨sl2, e4⟩ := sm2 b _ e3 hnf2
    have e5 := kp4 b _ ((hsb.2 b fun z => hCf (z ▸ hbs)).trans e4) hnf2
    obtain ⟨sl3, e6⟩ := x2 b _ e5 hnf2
    exact ⟨sl3, e6⟩
end L2

namespace L2
open PySem PySem.Spec PyProof.Rows
open Sem (wp)
/-! ### comprehensions whose element may raise -/
theorem comp_coreE {X : Cx} {EE : XK} {tg iter elt : Expr} {ifs : List Expr} {scope fsc : Scope} {pos : Pos} {N' : List Str} {imp : List (Option Nat)} {g : TG} {tt : TT} {te : TE} {pins : List (Addr × Obj)} {s : Shared} {σ : St} {H : Hp}
    (hc : X.calm = true) (S : CompSc X.N N' fsc scope imp) (hsc : X.env.scope = fsc)
    (hg : ∀ s3 H2 ex, PG (compCx X N' scope s3 H2 ex) tg g) (hf : ∀ s3 H2 ex, PFs (compCx X N' scope s3 H2 ex) ifs tt) (he : ∀ s3 H2 ex, PE (compCxE X EE N' scope s3 H2 ex) elt te)
    {it : Addr} {fp : List Addr} {tn : Nat → Heap → Prop} {J : It} {W : Nat → Nat → St → List V → Hp → Prop} {Q : V → Hp → Prop} {RR : Value → Addr → Result → Shared → Prop}
    (I : Inv X pins σ H s) (T : Turn X.prog X.w X.K tg J fp it tn) (st0 : tn 0 s.heap) (hfp : ∀ b ∈ fp, FpOk X pins H b) (w0 : ∃ m, W 0 m (pull imp σ) [] H)
    (turn : ∀ i m σ1 acc H2, W i m σ1 acc H2 → (J.stop i H2 ∧ ∀ p, H2 p = none → Q (.ref p) (upd H2 p (.lst acc))) ∨
      (J.go i H2 ∧ acc.length < sizeLine ∧ ∃ Nn : St → List V → Hp → Prop, (∀ σ' acc' H', Nn σ' acc' H' → ∃ m', m' < m ∧ W (i + 1) m' σ' acc' H') ∧
        ∀ x H3, J.yld i H2 x H3 → g x σ1 H3 fun σ2 H4 => tt σ2 H4 fun b H5 => if b = true then te σ2 H5 fun v H6 => Nn σ2 (acc ++ [v]) H6 else Nn σ2 acc H5))
    (hRX : ∀ e s', BlockX X EE N' scope { s with heap := s.heap.push (lobj [] 0) } H (s.heap.objs.size :: fp) e s' → notedBy (model X.prog X.w) X.A (compEnvC scope (clOf scope.names X.env.cells) (s.heap.push (lobj [] 0)).objs.size X.env) (fun e s'' => RR (.ref s.heap.objs.size) (s.heap.push (lobj [] 0)).objs.size (.error e) s'') e s')
    (hR : ∀ (s' : Shared) (C : Addr) (m : Str → Option Value), s'.heap.Ns C m → s.heap.objs.size ≤ C →
      (∀ h2, Heap.SameBut C s'.heap h2 → ∃ H', Inv X pins σ H' { s' with heap := h2 } ∧ H' C = none ∧ Q (.ref s.heap.objs.size) H') → RR (.ref s.heap.objs.size) C (.ok .next) s') {E : Value → Shared → Prop} :
    wpAny (model X.prog X.w) X.A (newList []) (fun acc s₃ => wpAny (model X.prog X.w) X.A (newFunctionEnv scope X.env.globals (clOf scope.names X.env.cells) [] X.env.qual none .none (some X.env)) (fun cenv s₄ =>
      codeAny (model X.prog X.w) X.A (.compStart (.ListComp elt [⟨tg, iter, ifs, 0⟩] scope pos) 0 (.ref it) acc { cenv with scope := relabel scope X.env }) (RR acc cenv.locals) s₄) E s₃) E s := by
  refine wpAny_newObj_type (wpAny_newFunctionEnv S.nocell (by intro y hy; simp at hy) (fun h₁ hns₁ hsb₁ => ?_) S.kind)
  dsimp only at hns₁ hsb₁ ⊢
  have hfo : ∀ b ∈ fp, b < s.heap.objs.size := fun b hb => by
    obtain ⟨o, e, _⟩ := T.obj _ _ st0 b hb
    exact Heap.lt_size e
  have hC : (s.heap.push (lobj [] 0)).objs.size = s.heap.objs.size + 1 := by rw [Heap.size_push]
  have old : ∀ b o, (s.heap.push (lobj [] 0)).get? b = some o → h₁.get? b = some o := fun b o e => hsb₁.extBut b o (Nat.ne_of_lt (Heap.lt_size e)) (Heap.get?_push_of_some _ e)
  have old0 : ∀ b o, s.heap.get? b = some o → h₁.get? b = some o := fun b o e => old b o (Heap.get?_push_of_some _ e)
  have I1 := comp_inv (t := s.toks + ([] : List (Str × Value)).length) I hfp hfo S hsc hns₁ old
  have st1 : tn 0 h₁ := T.keep _ _ _ st0 fun b _ o e => old0 b o e
  -- the iterator's objects and the list may turn within the block
  have stat : ∀ {σ' : St} {pl : List (Addr × Obj)} {H' : Hp} {s' : Shared}, Inv (compCx X N' scope { s with heap := s.heap.push (lobj [] 0) } H (s.heap.objs.size :: fp)) pl σ' H' s' → (∀ p ∈ pl, p.1 = s.heap.objs.size) → (∀ b ∈ fp, H' b = none) →
      ∀ b ∈ fp, FpOk (compCx X N' scope { s with heap := s.heap.push (lobj [] 0) } H (s.heap.objs.size :: fp)) pl H' b := fun {σ' pl H' s'} J0 hpl hn b hb => by
    have z := J0.ok.exf b (List.mem_cons_of_mem _ hb)
    refine ⟨hn b hb, z.1, J0.ok.exfs b (List.mem_cons_of_mem _ hb), .inl (List.mem_cons_of_mem _ hb), z.2, fun p hp => ?_⟩
    have hp' : p ∈ pl := hp
    rw [hpl p hp']
    exact Ne.symm (Nat.ne_of_lt (hfo b hb))
  obtain ⟨m0, w0⟩ := w0
  have ENDS : ∀ (s' : Shared) (σ1 : St) (H1 : Hp) (acc : List V) (its : List Value) (n0 : Nat), Inv (compCx X N' scope { s with heap := s.heap.push (lobj [] 0) } H (s.heap.objs.size :: fp)) [] σ1 H1 s' → H1 s.heap.objs.size = none →
      s'.heap.get? s.heap.objs.size = some (lobj its n0) → Vals acc its → acc.length ≤ sizeLine → (∀ p, H1 p = none → Q (.ref p) (upd H1 p (.lst acc))) → RR (.ref s.heap.objs.size) (s.heap.push (lobj [] 0)).objs.size (.ok .next) s' := by
    intro s' σ1 H1 acc its n0 J1 hD ho hv hl q
    obtain ⟨m, hn, _⟩ := J1.loc
    refine hR s' _ m hn (by rw [hC]; exact Nat.le_succ _) fun h2 hsb => ⟨_, comp_back I hfp J1 hD hsb ho hv hl, ?_, q _ hD⟩
    rw [upd_ne (by rw [hC]; exact Nat.succ_ne_self _)]
    exact J1.free
  have loop : ∀ s₃ : Shared, s₃ = { s with heap := h₁, toks := s.toks + ([] : List (Str × Value)).length } →
      codeAny (model X.prog X.w) X.A (.compLoop (.ListComp elt [⟨tg, iter, ifs, 0⟩] scope pos) 0 (.ref it) (.ref s.heap.objs.size) (compEnvC scope (clOf scope.names X.env.cells) (s.heap.push (lobj [] 0)).objs.size X.env))
        (RR (.ref s.heap.objs.size) (s.heap.push (lobj [] 0)).objs.size) s₃ := by
    rintro s₃ rfl
    refine compLoop_any (fun n s' => ∃ i σ1 acc its n0 H1, Inv (compCx X N' scope { s with heap := s.heap.push (lobj [] 0) } H (s.heap.objs.size :: fp)) [] σ1 H1 s' ∧ tn i s'.heap ∧ (∀ b ∈ fp, H1 b = none) ∧ H1 s.heap.objs.size = none ∧
      s'.heap.get? s.heap.objs.size = some (lobj its n0) ∧ Vals acc its ∧ acc.length ≤ sizeLine ∧ W i n σ1 acc H1) ?_ m0
      ⟨0, pull imp σ, [], [], 0, H, I1, st1, fun b hb => (hfp b hb).1, I.hok.fresh (Nat.le_refl _), old _ _ (Heap.get?_push_size _ rfl), .nil, Nat.zero_le _, w0⟩
    rintro n s' ⟨i, σ1, acc, its, n0, H1, J1, st, fr, hD, ho, hv, hl, w⟩
    rcases turn i n σ1 acc H1 w with ⟨stop, qn⟩ | ⟨go, hlt, Nn, hN, step⟩
    · -- the end
      have P1 := J1.pins_of (pins' := [(s.heap.objs.size, lobj its n0)]) fun p hp => by
        have e : p = (s.heap.objs.size, lobj its n0) := by simpa using hp
        subst e
        exact ⟨ho, hD, (J1.ok.exf _ List.mem_cons_self).1, J1.ok.exfs _ List.mem_cons_self, fun v z => by have z' : Data.seq its.toArray n0 = Data.cell v := z; cases z'⟩
      have hpl : ∀ p ∈ [(s.heap.objs.size, lobj its n0)], p.1 = s.heap.objs.size := fun p hp => by
        have e : p = (s.heap.objs.size, lobj its n0) := by simpa using hp
        rw [e]
      refine thn (T.done (compCx X N' scope { s with heap := s.heap.push (lobj [] 0) } H (s.heap.objs.size :: fp)) rfl rfl rfl hc i _ s' σ1 H1 _ P1 (stat P1 hpl fr) st stop) fun r s1 ⟨hr, J2⟩ => ?_
      subst hr
      exact ENDS s1 σ1 H1 acc its n0 (J2.pins_of fun p hp => absurd hp (by simp)) hD (J2.pin (s.heap.objs.size, lobj its n0) (by simp [compCx])).1 hv hl qn
    · have hpl : ∀ p ∈ [(s.heap.objs.size, lobj its n0)], p.1 = s.heap.objs.size := fun p hp => by
        have e : p = (s.heap.objs.size, lobj its n0) := by simpa using hp
        rw [e]
      have P1 := J1.pins_of (pins' := [(s.heap.objs.size, lobj its n0)]) fun p hp => by
        have e : p = (s.heap.objs.size, lobj its n0) := by simpa using hp
        subst e
        exact ⟨ho, hD, (J1.ok.exf _ List.mem_cons_self).1, J1.ok.exfs _ List.mem_cons_self, fun v z => by have z' : Data.seq its.toArray n0 = Data.cell v := z; cases z'⟩
      refine thn (T.item (compCx X N' scope { s with heap := s.heap.push (lobj [] 0) } H (s.heap.objs.size :: fp)) rfl rfl rfl hc i _ s' σ1 H1 _ P1 (stat P1 hpl fr) st go) fun r s1 ⟨u, hr, h1⟩ => ?_
      subst hr
      refine thn h1 fun _ s2 ⟨x, H2, J2, rx, y2, st2, fr2⟩ => ?_
      have J2' := J2.pinned (stat J2 hpl fr2) (T.obj _ _ st2)
      -- what is true at the end of a turn
      have pinD : ∀ {σ7 : St} {H7 : Hp} {s7 : Shared}, Inv (compCx X N' scope { s with heap := s.heap.push (lobj [] 0) } H (s.heap.objs.size :: fp)) ([(s.heap.objs.size, lobj its n0)] ++ pinsAt fp s2.heap) σ7 H7 s7 →
          s7.heap.get? s.heap.objs.size = some (lobj its n0) ∧ H7 s.heap.objs.size = none ∧ tn (i + 1) s7.heap ∧ ∀ b ∈ fp, H7 b = none := fun {σ7 H7 s7} J7 => by
        have z := J7.pin (s.heap.objs.size, lobj its n0) (List.mem_append_right _ (List.mem_append_left _ (List.mem_singleton.mpr rfl)))
        refine ⟨z.1, z.2.1, T.keep _ _ _ st2 fun b hb o e => (J7.pin (b, o) (List.mem_append_right _ (List.mem_append_right _ (mem_pinsAt hb e)))).1, fun b hb => ?_⟩
        obtain ⟨o, e, d⟩ := T.obj _ _ st2 b hb
        exact (J7.pin (b, o) (List.mem_append_right _ (List.mem_append_right _ (mem_pinsAt hb e)))).2.1
      refine wpAny_mono (hg _ _ _ _ s2 σ1 H2 x u _ J2' rx (step x H2 y2)) (fun _ s3 ⟨σ3, H3, J3, q3⟩ => ?_) fun _ _ z => False.elim z
      refine wpAny_mono (hf _ _ _ _ s3 σ3 H3 _ J3 q3) (fun b s4 ⟨H4, J4, q4⟩ => ?_) fun _ _ z => False.elim z
      cases b with
      | false =>
        rw [if_neg Bool.false_ne_true] at q4
        rw [if_neg Bool.false_ne_true]
        obtain ⟨m', hm, w4⟩ := hN _ _ _ q4
        obtain ⟨a1, a2, a3, a4⟩ := pinD J4
        exact ⟨m', hm, i + 1, σ3, acc, its, n0, H4, J4.pins_of fun p hp => absurd hp (by simp), a3, a4, a2, a1, hv, hl, w4⟩
      | true =>
        rw [if_pos rfl] at q4
        rw [if_pos rfl]
        refine wpAny_mono (he _ _ _ _ s4 σ3 H4 _ (J4.wish _) q4) (fun uv s5 ⟨v, H5, J5w, r5, q5⟩ => ?_) fun e s' z => hRX e s' z
        have J5 := J5w.unwish
        obtain ⟨m', hm, w5⟩ := hN _ _ _ q5
        obtain ⟨a1, a2, a3, a4⟩ := pinD J5
        have hlen := hv.length
        refine call_meets F.slot_list_append ⟨_, a1, rfl⟩ F.entry_list_append (F.args_list_append_2 _ _) (PySem.list_append s.heap.objs.size its.toArray n0 uv (by rw [List.size_toArray]; omega)) ⟨a1, ?_⟩
        have qU := PySem.IsL.update a1 (·.push uv)
        have hex := J5.ok.exf _ (List.mem_cons_self (a := s.heap.objs.size) (l := fp))
        have keepU : ∀ b o, b ≠ s.heap.objs.size → s5.heap.get? b = some o → (s5.heap.update s.heap.objs.size (Obj.mapSeq (·.push uv))).get? b = some o := fun b o hb e => (Heap.get?_update_other s5.heap _ (Ne.symm hb)).trans e
        have J6 : Inv (compCx X N' scope { s with heap := s.heap.push (lobj [] 0) } H (s.heap.objs.size :: fp)) [] σ3 H5 { s5 with heap := s5.heap.update s.heap.objs.size (Obj.mapSeq (·.push uv)), toks := s5.toks } :=
          (J5.pins_of (pins' := []) fun p hp => absurd hp (by simp)).turned keepU a2 hex.1 (.inl List.mem_cons_self) hex.2 (fun p hp => absurd (show p ∈ ([] : List (Addr × Obj)) from hp) (by simp))
        refine ⟨m', hm, i + 1, σ3, acc ++ [v], its ++ [uv], _, H5, J6, T.keep _ _ _ a3 fun b hb o e => keepU b o (Nat.ne_of_lt (hfo b hb)) e, a4, a2, by simpa using qU, hv.append (.cons r5 .nil), ?_, w5⟩
        rw [List.length_append, List.length_singleton]
        omega
  exact codeAny_compStart_list (loop _ rfl) (T.self _ 0 _ _ _ st1 (loop _ rfl))

/-- name = [elt for tg in iter if c], on one line -/
theorem ps_setcompE {X : Cx} {EE : XK} {i : Nat} {y : Str} {tg iter elt : Expr} {ifs : List Expr} {scope fsc : Scope} {pos py spos : Pos} {N' : List Str} {imp : List (Option Nat)} {wi : TI} {g : TG} {tt : TT} {te : TE}
    (hN : X.N.Nodup) (hyi : X.N[i]? = some y) (hy : X.env.scope.names.lookup y = some .local) (S : CompSc X.N N' fsc scope imp) (hi : PI X tg iter wi)
    (hg : ∀ s3 H2 ex, PG (compCx X N' scope s3 H2 ex) tg g) (hf : ∀ s3 H2 ex, PFs (compCx X N' scope s3 H2 ex) ifs tt) (L : Leaves X EE) (he : ∀ s3 H2 ex, PE (compCxE X EE N' scope s3 H2 ex) elt te)
    (hsw : swapsWith (.ListComp elt [⟨tg, iter, ifs, 0⟩] scope pos) (some (.Name y py)) spos.line X.env = pure true := by rfl)
    (hc : X.calm = true := by rfl) (hsc : X.env.scope = fsc := by rfl) (hs : ∀ x, foldedSetIterable iter X.env x = pure x := by intro _; rfl) :
    PS X (.Assign [.Name y py] (.ListComp elt [⟨tg, iter, ifs, 0⟩] scope pos) spos) (tAsg (tComp imp wi g tt te) (gName i)) := by
  intro pins s σ H D I h
  rw [exec_Assign_Name_used _ _ _ _ hsw]
  refine wpAny_bind (wpAny_standAt (wpAny_bind ?_))
  show wpAny _ _ (do let _ ← comprehension (.ListComp elt [⟨tg, iter, ifs, 0⟩] scope pos) scope X.env _ (newList []) false (eval iter X.env) (some (assign (.Name y py) X.env))) _ _ s
  refine wpAny_bind (wpAny_mono (wpAny_comprehension_free (use := some (assign (.Name y py) X.env)) (Q := fun _ s' => SP X pins D .next s') rfl hs (compSc_cells I S hsc) S.kind S.names
    (thn (hi pins s σ H _ I h) fun xv s₁ h₁ => thn h₁ fun itv s₂ h₂ => ?_)) (fun _ s' hq => wpAny_pure (wpAny_pure hq)) fun _ _ e => e)
  obtain ⟨it, fp, tn, J, H2, e, I2, T, st2, f2, W, w0, turn⟩ := h₂
  subst e
  refine comp_coreE (Q := fun v H' => gName i v σ H' D.nx) (RR := fun acc C => compPost (model X.prog X.w) X.A X.xe (some (assign (.Name y py) X.env)) (fun _ s' => SP X pins D .next s') acc C) hc S hsc hg hf he I2 T st2 f2 w0 turn (fun e s' z => comp_raise L I2 f2 z _) ?_
  intro s' C m hn hCne k
  show wpAny _ _ (assign (.Name y py) X.env (.ref s₂.heap.objs.size)) _ _ s'
  obtain ⟨H0, J0, hC0, q0⟩ := k s'.heap (.refl ..)
  have J0' : Inv X pins σ H0 s' := J0
  refine wpAny_assign_Name (store_ok2 J0' hN hyi (.inl hy) (show RelV (.ref s₂.heap.objs.size) (.ref s₂.heap.objs.size) from rfl) (fun s3 J3 hch => ?_) (.inr hy))
  obtain ⟨a, hsa, ha⟩ := hch
  obtain ⟨f0, f1, f2', f3, f4, f5⟩ := I2.fpOk hCne hC0
  have haC : a ≠ C := by
    rcases ha with rfl | ha
    · exact Ne.symm f1
    · exact f4 _ _ ha
  have hn3 : s3.heap.Ns C m := hn.sameBut hsa (Ne.symm haC)
  refine ⟨m, hn3, fun h2 hsb => ?_⟩
  exact ⟨_, H0, J3.turned (fun b o hb e => (hsb.2 b hb).trans e) hC0 f1 f3 f4 f5, q0⟩
end L2

namespace L2
open PySem PySem.Spec PyProof.Rows PySem.Builtin.Str
open Sem (wp)

/-! ### a dict of the module, texts as keys -/
structure KDict (K : PySem.W.Frag) (pr : Params) (D : Addr) : Prop where
  ex : ∃ es n, K.lookup D = some ⟨.type "dict", none, .dict es n, #[]⟩ ∧ PySem.W.KeysLit pr es.toList
  lo : (D == sysModules) = false
def rKIn (K : PySem.W.Frag) (D : Addr) : R2 := fun y x H Q => x = .ref D ∧ ∃ z r, y = .str z ∧ PySem.W.nsIn K D z = some r ∧ Q (.bl r.isSome) H
theorem op_kin {X : Cx} {K : PySem.W.Frag} {D : Addr} (hK : X.K = K) (d : KDict K X.w.params D) : OpR X (compareOp .In) (rKIn K D) := by
  subst hK
  intro pins s σ H x y v u Q I rx ry h
  obtain ⟨rfl, z, r, rfl, e, q⟩ := h
  cases ry
  obtain ⟨t, rfl⟩ := rx
  obtain ⟨es, n, hl, hk⟩ := d.ex
  refine wpAny_in_of (PySem.strKind_is X.prog X.w z t) d.lo (PySem.W.mapOf_K (prog := X.prog) I.kIn hl hk) ?_
  rw [PySem.W.find_K hl e]
  exact ⟨.bl _, H, I.tok _, rfl, q⟩
def rKGet (K : PySem.W.Frag) (D : Addr) : R2 := fun x y H Q => x = .ref D ∧ ∃ z f, y = .str z ∧ PySem.W.nsIn K D z = some (some (.ref f)) ∧ Q (.ref f) H
theorem ix_kdict {X : Cx} {K : PySem.W.Frag} {D : Addr} (hK : X.K = K) (d : KDict K X.w.params D) : IxR X (rKGet K D) := by
  subst hK
  intro value slice pins s σ H x y v u Q I rx ry h hs
  obtain ⟨rfl, z, f, rfl, e, q⟩ := h
  cases rx
  obtain ⟨t, rfl⟩ := ry
  obtain ⟨es, n, hl, hk⟩ := d.ex
  have hm := PySem.W.mapOf_K (prog := X.prog) (w := X.w) I.kIn hl hk
  exact tail_any hm.typeIs slot_dict_getitem.lookup (wpAny_getItem_of (PySem.strKind_is X.prog X.w z t) hm (PySem.W.find_K hl e) ⟨.ref f, H, I.tok _, rfl, q⟩) hs

/-! ### a call of what an expression tells -/
def CallsE (P : Program) (w : World) (K : PySem.W.Frag) (mg : Str → Option Value) (base : Heap) (k : Nat) (f : Addr) (E : XK) (vs : List V) (H : Hp) (Q : VK) : Prop :=
  ∃ fd ps sp, FnOk P w K mg base (CXe P w) k f fd ps sp ∧ Binds K fd ps [] ∧ sp vs H Q E
def tCallV (P : Program) (w : World) (K : PySem.W.Frag) (mg : Str → Option Value) (base : Heap) (k : Nat) (E : XK) (tf : TE) (t : TA) : TE := fun σ H Q => tf σ H fun v H1 => ∃ f, v = .ref f ∧ PySem.W.keepIn K (.ref f) = true ∧
  t σ H1 fun vs H2 => CallsE P w K mg base k f E vs H2 Q
theorem pe_callV {X : Cx} {P : Program} {w : World} {K : PySem.W.Frag} {mg : Str → Option Value} {base : Heap} {k : Nat} {E : XK} {fe e : Expr} {es : List Expr} {pos : Pos} {tf : TE} {t : TA}
    (hP : X.prog = P) (hw : X.w = w) (hK : X.K = K) (hmg : X.mg = mg) (hb : X.base = base) (hf : PE X fe tf) (hr : Room k X.A) (hx : Passes (CXe X.prog X.w) X E) (ha : PA X (e :: es) t)
    (h1 : isStar e = false := by rfl) (h2 : es.all (fun x => !isStar x) = true := by rfl)
    (he : eval (.Call fe (e :: es) [] pos) X.env = (do callWith pos (← eval fe X.env) [] (backTo pos (starEach (e :: es) X.env)) (backToKw pos (keywordEach [] X.env))) := by rfl) :
    PE X (.Call fe (e :: es) [] pos) (tCallV P w K mg base k E tf t) := by
  subst hP hw hK hmg hb
  intro pins s σ H Q I h
  refine PyProof.Rows.Call_ (thn (hf pins s σ H _ I h) fun u s1 ⟨v, H1, I1, rv, f, ev, hk, q⟩ => ?_) he
  subst ev
  cases rv
  refine PySem.W.callWith_K (h₀ := X.base) I.ok.mod.kin hk (thn (ha pos pins s1 σ H1 _ I1 q) fun us s2 ⟨vs, H2, I2, r, fd, ps, sp, F, hb, q2⟩ => ⟨I2.kIn, ?_⟩) (star_cons h1) (star_plain h2)
  exact run_fn F hr hb .nil hx I2 r (by rw [List.append_nil]; exact q2)
theorem HasE.calls {P : Program} {w : World} {K : PySem.W.Frag} {mg : Str → Option Value} {base : Heap} {k j : Nat} {x : Str} {ps : List Str} {sp : Sp} {f : Addr} {E : XK} {vs : List V} {H : Hp} {Q : VK}
    (F : HasE P w K mg base j x ps sp) (hf : mg x = some (.ref f)) (hj : j ≤ k) (h : sp vs H Q E) : CallsE P w K mg base k f E vs H Q := by
  obtain ⟨f', fd, G, hm, hk, hb⟩ := F.ex
  rw [hf] at hm
  cases hm
  exact ⟨fd, ps, sp, G.mono hj, hb, h⟩
theorem HasE.keep {P : Program} {w : World} {K : PySem.W.Frag} {mg : Str → Option Value} {base : Heap} {j : Nat} {x : Str} {ps : List Str} {sp : Sp} {f : Addr} (F : HasE P w K mg base j x ps sp) (hf : mg x = some (.ref f)) : PySem.W.keepIn K (.ref f) = true := by
  obtain ⟨f', fd, G, hm, hk, hb⟩ := F.ex
  rw [hf] at hm
  cases hm
  exact hk

/-! ### methods and objects -/
def clsBody : Stmt → List Stmt
  | .ClassDef _ _ _ b _ _ _ _ _ _ _ => b
  | _ => []
/-- a def of a class (f its address), by its promise -/
structure HasM (P : Program) (w : World) (K : PySem.W.Frag) (mg : Str → Option Value) (base : Heap) (k : Nat) (f : Addr) (ps : List Str) (sp : Sp) : Prop where
  ex : ∃ fd, FnOk P w K mg base CX0 k f fd ps sp ∧ Binds K fd ps []
/-- a def of a class, as it stands -/
structure DfnM (K : PySem.W.Frag) (x q : Str) (st : Stmt) (ps : List Str) (f : Addr) : Prop where
  ex : ∃ fd, Fun K x q st f fd ∧ Binds K fd ps []
theorem DfnM.has {P : Program} {w : World} {K : PySem.W.Frag} {mg : Str → Option Value} {base : Heap} {x q : Str} {st : Stmt} {N ps : List Str} {k : Nat} {sp : Sp} {f : Addr} (D : DfnM K x q st ps f) (S : FnScope N ps (defScope st)) (len : ∀ vs H Q E, sp vs H Q E → vs.length = ps.length)
    (hbody : ∀ (cdv : Value) (A : Around) (outer : List Env) (s : Shared) (H : Hp) (vs : List V) (Q : VK) (E : XK), Room k (A.deeper (envOfC q (defScope st) s.heap.objs.size f cdv)) → sp vs H Q E →
      ∃ t, PSs (cxOf CX0 P w K mg base N q (defScope st) f cdv A outer s H E).nox (defBody st) t ∧ t { nx := fun _ H' => Q .non H', rt := Q } (start N vs) H) : HasM P w K mg base (k + 1) f ps sp := by
  obtain ⟨fd, F, hb⟩ := D.ex
  exact ⟨fd, F.ok S len hbody, hb⟩
section
variable {X : Cx} {k : Nat} {x : Str} {ps : List Str} {sp : Sp} {p pos apos : Pos} {e o : Expr} {es : List Expr} {t : TA} {ta : TE} {C f : Addr} {m : Str}
/-- C(..) -/
theorem pe_makeM (F : HasM X.prog X.w X.K X.mg X.base k f ps sp) (M : Mk X.K C f) (hr : Room (k + 1) X.A) (hg : Gl X x) (hm : X.mg x = some (.ref C)) (ha : PA X (e :: es) t) (hdb : (x == ("__debug__" : Str)) = false := by decide)
    (h1 : isStar e = false := by rfl) (h2 : es.all (fun x => !isStar x) = true := by rfl) : PE X (.Call (.Name x p) (e :: es) [] pos) (tMake C sp [] E0 t) := by
  obtain ⟨fd, G, hb⟩ := F.ex
  exact pe_make M G hr hg hm hb .nil pass0 ha hdb (star_cons h1) (star_plain h2)
end

/-! ### texts -/
def rStarts : V → List V → Hp → VK → Prop := fun x vs H Q => ∃ z y, x = .str z ∧ vs = [.str y] ∧ Q (.bl (Txt.startswith z y)) H
theorem mt_starts {X : Cx} : MtR X "str.startswith" rStarts := by
  intro pins s σ H x vs v us Q I rx rv h
  obtain ⟨z, y, rfl, rfl, q⟩ := h
  obtain ⟨t, rfl⟩ := rx
  obtain ⟨u', rfl, u, rfl⟩ := rv.one
  exact SC.startswith ⟨.bl _, H, I, rfl, q⟩
def rZfill : V → List V → Hp → VK → Prop := fun x vs H Q => ∃ z i, x = .str z ∧ vs = [.int i] ∧ PadOk i = true ∧ Q (.str (Txt.zfill z i)) H
def rSIndex : V → List V → Hp → VK → Prop := fun x vs H Q => ∃ z y i rest, x = .str z ∧ vs = [.str y] ∧ occurrences z y 0 z.length 1 = i :: rest ∧ Q (.int (i : Nat)) H
end L2

namespace L2
open PySem PySem.Spec PyProof.Rows PySem.Builtin.Str PySem.NumText

/-! ### words, figures, legs as texts -/
abbrev blank : Str := Str.ofString " "
abbrev comma : Str := Str.ofString ", "
abbrev figures : Str := Str.ofString "0123456789"
def isFig (c : Nat) : Bool := !(occurrences figures ⟨#[c]⟩ 0 figures.length 1).isEmpty
theorem figs_are : figures.cps.toList = [48, 49, 50, 51, 52, 53, 54, 55, 56, 57] := by decide +kernel
theorem blank_are : blank.cps.toList = [32] := by decide +kernel
theorem comma_are : comma.cps.toList = [44, 32] := by decide +kernel
theorem isFig_iff {c : Nat} : isFig c = true ↔ 48 ≤ c ∧ c ≤ 57 := by
  unfold isFig
  rw [StrLaws.found_one, figs_are, decide_eq_true_eq]
  simp only [List.mem_cons, List.not_mem_nil, or_false]
  omega
theorem all_digits {x : Str} : x.cps.toList.all isFig = true ↔ AllDigits x.cps.toList := by
  rw [List.all_eq_true]
  exact ⟨fun h c hc => isFig_iff.mp (h c hc), fun h c hc => isFig_iff.mpr (h c hc)⟩
theorem strjoin_glue (y : Str) : ∀ ws : List Str, Str.join y ws = glue y ws
  | [] => rfl
  | [w] => rfl
  | w :: v :: ws => by
    show w ++ y ++ Str.join y (v :: ws) = w ++ y ++ glue y (v :: ws)
    rw [strjoin_glue y (v :: ws)]
theorem join_glue (y : Str) (ws : List Str) : Txt.join y ws = glue y ws := by
  unfold Txt.join
  rw [StrLaws.glued_eq_join, strjoin_glue]
theorem join_split (x y : Str) : Txt.join y (Txt.split x y) = x := by
  unfold Txt.join
  rw [StrLaws.glued_eq_join]
  exact StrLaws.join_split x y
/-- a first word -/
theorem split_cons {w r : Str} (h : noC 32 w) : Txt.split (w ++ blank ++ r) blank = w :: Txt.split r blank := by
  apply map_chars_inj
  rw [split_eq _ _ (by decide +kernel) (by decide +kernel), List.map_cons, split_eq r _ (by decide +kernel) (by decide +kernel), app_chars, app_chars, blank_are]
  exact splG_word [] _ h
theorem split_one {w : Str} (h : noC 32 w) : Txt.split w blank = [w] := by
  apply map_chars_inj
  rw [split_eq _ _ (by decide +kernel) (by decide +kernel), blank_are]
  exact splG_end [] h
theorem split_comma {ws : List Str} (hne : ws ≠ []) (h : ∀ w ∈ ws, noC 44 w) : Txt.split (Txt.join comma ws) comma = ws := by
  rw [join_glue]
  exact split_glue comma_are (by decide +kernel) hne h
theorem digits_noC {x : Str} {c : Nat} (h : AllDigits x.cps.toList) (hc : c < 48) : noC c x := fun hm => by
  have := h c hm
  omega
/-! starting with 0 -/
abbrev nought : Str := Str.ofString "0"
theorem nought_are : nought.cps = #[48] := by decide +kernel
theorem starts0 (x : Str) : Txt.startswith x nought = decide (x.cps.toList.head? = some 48) := by
  unfold Txt.startswith subAt
  have hl : nought.length = 1 := by decide +kernel
  rw [hl, nought_are]
  obtain ⟨⟨l⟩⟩ := x
  cases l with
  | nil => simp [Str.length]
  | cons a r =>
    simp [Str.length]
    rw [Bool.eq_iff_iff]; simp
def numOk (x : Str) : Bool := (decide (1 ≤ x.length ∧ x.length ≤ 60) && x.cps.toList.all isFig) && (decide (x = nought) || !Txt.startswith x nought)
def numV (x : Str) : Int := (digitsVal x.cps.toList : Nat)
def amtOk (x : Str) : Bool := numOk x && decide (1 ≤ numV x)
theorem numOk_digits {x : Str} (h : numOk x = true) : AllDigits x.cps.toList ∧ x.cps.toList ≠ [] ∧ x.length ≤ 60 := by
  unfold numOk at h
  simp only [Bool.and_eq_true, decide_eq_true_eq] at h
  refine ⟨all_digits.mp h.1.2, fun e => ?_, h.1.1.2⟩
  have := h.1.1.1
  rw [str_len, e] at this
  simp at this
theorem numV_small {x : Str} (h : numOk x = true) : 0 ≤ numV x ∧ numV x < 10 ^ 60 := by
  obtain ⟨h1, _, h3⟩ := numOk_digits h
  have := digits_small h1
  rw [← str_len] at this
  have h4 : (10 : Nat) ^ x.length ≤ 10 ^ 60 := Nat.pow_le_pow_right (by decide) h3
  unfold numV
  refine ⟨Int.natCast_nonneg _, ?_⟩
  have h5 : digitsVal x.cps.toList < 10 ^ 60 := by omega
  exact_mod_cast h5
theorem splG_part (y : List Nat) : ∀ (l : List Nat) (k : Nat) (acc : List Nat), ∀ p ∈ splG y k acc l, p.length ≤ acc.length + l.length
  | [], k, acc, p, h => by
    cases k <;> simp [splG] at h <;> subst h <;> simp
  | a :: r, 0, acc, p, h => by
    rw [splG_cons] at h
    split at h
    · rcases List.mem_cons.mp h with rfl | h
      · exact Nat.le_add_right _ _
      · have := splG_part y r _ [] p h
        simp only [List.length_nil, List.length_cons] at *
        omega
    · have := splG_part y r 0 _ p h
      simp only [List.length_append, List.length_cons, List.length_nil] at *
      omega
  | a :: r, k + 1, acc, p, h => by
    have h' : p ∈ splG y k acc r := h
    have := splG_part y r k acc p h'
    simp only [List.length_cons]
    omega
theorem split_part {x y w : Str} (hm : 1 ≤ y.length) (hk : strKind y = 1) (h : w ∈ Txt.split x y) : w.length ≤ x.length := by
  have h' : w.cps.toList ∈ (Txt.split x y).map (·.cps.toList) := List.mem_map.mpr ⟨w, h, rfl⟩
  rw [split_eq x y hm hk] at h'
  have := splG_part _ _ _ _ _ h'
  rw [str_len, str_len]
  simpa using this
/-! zfill of figures -/
end L2

namespace L2
open PySem PySem.Spec PyProof.Rows PySem.W
open Sem (wp)

/-! ### C() of a class without __init__ -/
structure Mk0 (K : Frag) (C : Addr) : Prop where
  makes : makesIn K C = true
  init : findIn K (.ref C) "__init__" = some (some (.builtin "object.__init__"))
  kp : keepIn K (.ref C) = true
theorem make0 {prog : Program} {w : World} {A : Around} {K : Frag} {C : Addr} {s : Shared} {R : Result → Shared → Prop} (X : K.In s.heap) (hm : makesIn K C = true) (hi : findIn K (.ref C) "__init__" = some (some (.builtin "object.__init__")))
    (z : R (.ok (.ret (.ref (s.heap.objs.size + 1)))) { s with heap := (s.heap.push emptyDict).push (instObj C s.heap.objs.size) }) : codeAny (model prog w) A (.call (.ref C) ⟨[], []⟩) R s := by
  obtain ⟨hh, g, d, t, os⟩ := s
  have Y := makes_of (M := model prog w) X hm
  have e2 : ((hh.push emptyDict).push (instObj C hh.objs.size)).get? (hh.objs.size + 1) = some (instObj C hh.objs.size) := by
    have := Heap.get?_push_size (hh.push emptyDict) (o := instObj C hh.objs.size) rfl
    rwa [Heap.size_push] at this
  refine make_core Y (looks_findIn X hi) (fun self => Looks.of_pure (oi_bind self)) (.inr ⟨rfl, rfl⟩) ?_
  have t1 : Looks (model prog w) ((hh.push emptyDict).push (instObj C hh.objs.size)) (typeOf (.ref (hh.objs.size + 1))) (.ref C) := (Looks.ld e2).andThen .now
  have t2 : Looks (model prog w) ((hh.push emptyDict).push (instObj C hh.objs.size)) (isInstance (.ref (hh.objs.size + 1)) (.type "object")) true := t1.andThen (Y.top.keeps fun b o e => Heap.get?_push_of_some _ (Heap.get?_push_of_some _ e))
  refine codeAny_call_builtin oi_plain entry_oi (@check_slot (model prog w) _ _ _ "object.__init__" "object" "__init__" (.ref (hh.objs.size + 1)) [] [] _ oi_kind oi_split t2 (oi_args (.ref (hh.objs.size + 1))) ?_)
  rw [oi_run]
  exact wpAny_pure (And.intro rfl z)
def tNew0 (C : Addr) : TE := fun _ H Q => ∀ x dx, H x = none → H dx = none → dx ≠ x → Q (.ref x) (upd (upd H dx (.own x)) x (.ins C dx []))
theorem pe_new0 {X : Cx} {C : Addr} {x : Str} {p pos : Pos} (M : Mk0 X.K C) (hg : Gl X x) (hm : X.mg x = some (.ref C)) (hdb : (x == ("__debug__" : Str)) = false := by decide) : PE X (.Call (.Name x p) [] [] pos) (tNew0 C) := by
  intro pins s σ H Q I h
  refine wpAny_Call_Name_kw (ld_glob I hg hm ?_ hdb)
  refine callWith_K0 I.kIn M.kp (wpAny_call (make0 I.kIn M.makes M.init ?_))
  exact ⟨.ref (s.heap.objs.size + 1), _, Inv.made (C := C) I, rfl, h _ _ (I.hok.fresh (Nat.le_succ _)) (I.hok.fresh (Nat.le_refl _)) (Nat.ne_of_lt (Nat.lt_succ_self _))⟩

/-! ### isinstance of an instance -/
structure InsK (K : Frag) (C : Addr) : Prop where
  cl : Cls K C
  ha : findIn K (.ref C) "__class__" = some (some (.builtin "object.__class__"))
  hn : specialIn K (.builtin "object.__class__") "__get__" = some (some (.builtin "getset_descriptor.__get__"))
  tk : takesIn K (.builtin "object.__class__") = some true
  ob : mroIn K C (.type "object") = some true
theorem InsK.ty {K : Frag} {C a dx : Addr} {H : Hp} {fs : List (Str × V)} (k : InsK K C) (e : H a = some (.ins C dx fs)) : TyOf K H (.ref a) (.ref C) := .ins e k.cl k.ha k.hn k.tk k.ob
def rIsiO (K : Frag) : List V → Hp → VK → Prop := fun xs H Q => ∃ a C dx fs D b, xs = [.ref a, .ref D] ∧ H a = some (.ins C dx fs) ∧ InsK K C ∧ kitOne K (.ref C) (.ref D) = some b ∧ Q (.bl b) H
/-! ### a def that could raise, called where it doesn't -/
/-! ### o.m() by the class that o is of -/
def CallsM (P : Program) (w : World) (K : Frag) (mg : Str → Option Value) (base : Heap) (k : Nat) (f : Addr) (vs : List V) (H : Hp) (Q : VK) : Prop :=
  ∃ fd ps sp, FnOk P w K mg base CX0 k f fd ps sp ∧ Binds K fd ps [] ∧ sp vs H Q E0
def tMethV (P : Program) (w : World) (K : Frag) (mg : Str → Option Value) (base : Heap) (k : Nat) (m : Str) (ta : TE) : TE := fun σ H Q => ta σ H fun x H1 => ∃ a C dx fs g, x = .ref a ∧ H1 a = some (.ins C dx fs) ∧ Cls K C ∧ Meth K C m g ∧ fs.lookup m = none ∧
  CallsM P w K mg base k g [.ref a] H1 Q
theorem pe_methV {X : Cx} {P : Program} {w : World} {K : Frag} {mg : Str → Option Value} {base : Heap} {k : Nat} {o : Expr} {m : Str} {apos pos : Pos} {ta : TE} {pl : Sem Bool}
    (hP : X.prog = P) (hw : X.w = w) (hK : X.K = K) (hmg : X.mg = mg) (hb : X.base = base) (he : PE X o ta) (hr : Room k X.A)
    (ht : eval (.Call (.Attribute o m apos) [] [] pos) X.env = (do
      let ov ← eval o X.env
      standAt apos.atName
      let (f, first) ← holding [ov] (getMethod ov m pl)
      callWith pos f first (backTo pos (starEach [] X.env)) (backToKw pos (keywordEach [] X.env))) := by rfl) :
    PE X (.Call (.Attribute o m apos) [] [] pos) (tMethV P w K mg base k m ta) := by
  subst hP hw hK hmg hb
  intro pins s σ H Q I h
  refine methodCall_KW (pl := pl) (thn (he pins s σ H _ I h) fun u s1 ⟨x, H1, I1, rx, a, C, dx, fs, g, ex, ea, c, k', l, fd, ps, sp, F, hbd, q⟩ => ?_) ht
  subst ex
  cases rx
  refine getmeth_ok I1 ea c k' l ?_
  exact callWith_K0 (first := [.ref a]) I1.kIn k'.kp (run_fn (us := [.ref a]) (vs := [.ref a]) F hr hbd .nil pass0 I1 (.cons rfl .nil) q)
theorem HasM.calls {P : Program} {w : World} {K : Frag} {mg : Str → Option Value} {base : Heap} {k j : Nat} {ps : List Str} {sp : Sp} {f : Addr} {vs : List V} {H : Hp} {Q : VK}
    (F : HasM P w K mg base j f ps sp) (hj : j ≤ k) (h : sp vs H Q E0) : CallsM P w K mg base k f vs H Q := by
  obtain ⟨fd, G, hb⟩ := F.ex
  exact ⟨fd, ps, sp, G.mono hj, hb, h⟩
end L2

namespace L2
open PySem PySem.Spec PyProof.Rows
open Sem (wp)

/-! ### str(x) of a text or a number; a walk over a list or a tuple -/
def rStrA : List V → Hp → VK → Prop := fun xs H Q => (∃ x, xs = [.str x] ∧ Q (.str x) H) ∨ ∃ i : Int, xs = [.int i] ∧ i.natAbs.log2 < 1920 ∧ Q (.str (Str.ofString (toString i))) H
theorem call_strA {X : Cx} : CallR X (.type "str") rStrA := by
  intro pins s σ H xs us Q I r h
  rcases h with ⟨x, rfl, q⟩ | ⟨i, rfl, hz, q⟩
  · obtain ⟨u, rfl, t, rfl⟩ := vals1 r
    exact PySem.P.str_of_str ⟨.str x, H, I, ⟨_, rfl⟩, q⟩
  · obtain ⟨u, rfl, t, rfl⟩ := vals1 r
    exact PySem.P.str_of_int hz ⟨.str _, H, I.tok _, ⟨_, rfl⟩, q⟩
def iSeq (K : PySem.W.Frag) (tl : TE) : TI := fun σ H R => tl σ H fun v H1 => ∃ a, v = .ref a ∧ (((∃ xs, SqL K H1 a xs) ∧ R (Itl K a) H1) ∨ ((∃ xs, SqT K H1 a xs) ∧ R (Itt K a) H1))
theorem pi_seqk {X : Cx} {K : PySem.W.Frag} {tg l : Expr} {tl : TE} (hK : X.K = K) (hl : PE X l tl) : PI X tg l (iSeq K tl) := by
  subst hK
  intro pins s σ H R I h
  refine thn (hl pins s σ H _ I h) fun v s1 ⟨x, H1, I1, r1, q1⟩ => ?_
  obtain ⟨a, e, q1⟩ := q1
  subst e
  cases r1
  have fo : ∀ b ∈ [s1.heap.objs.size], FpOk X pins H1 b := fun b hb => by
    have e : b = s1.heap.objs.size := by simpa using hb
    subst e
    exact I1.fpOk (Nat.le_refl _) (I1.hok.fresh (Nat.le_refl _))
  rcases q1 with ⟨⟨xs, hq⟩, q⟩ | ⟨⟨xs, hq⟩, q⟩
  · obtain ⟨its, rv, p, hz⟩ := I1.list hq
    refine wpAny_pyIter_list p.isList ?_
    exact ⟨s1.heap.objs.size, [s1.heap.objs.size], _, _, H1, rfl, I1.kept (t' := s1.toks) fun b o e => Heap.get?_push_of_some _ e, turn_list a _, ⟨_, Heap.get?_push_size _ rfl, rfl, rfl⟩, fo, q⟩
  · obtain ⟨its, rv, p, hz⟩ := I1.tuple hq
    refine wpAny_pyIter_tuple (show s1.heap.IsTuple a its.toArray from p) ?_
    exact ⟨s1.heap.objs.size, [s1.heap.objs.size], _, _, H1, rfl, I1.kept (t' := s1.toks) fun b o e => Heap.get?_push_of_some _ e, turn_tuple a _, ⟨_, Heap.get?_push_size _ rfl, rfl, rfl⟩, fo, q⟩
end L2

namespace L2
open PySem PySem.Spec PyProof.Rows PySem.Builtin.Str
open Sem (wp)

/-! ### s.upper(): its length -/
theorem upper_several : ∀ p ∈ UnicodeData.severalUpper, p.2.length ≤ 3 := by decide +kernel
theorem lookup_mem {α β : Type} [BEq α] [LawfulBEq α] {l : List (α × β)} {a : α} {b : β} (h : l.lookup a = some b) : (a, b) ∈ l := by
  induction l with
  | nil => cases h
  | cons p l ih =>
    obtain ⟨x, y⟩ := p
    rw [List.lookup_cons] at h
    split at h
    · rename_i hx
      have hx := eq_of_beq hx
      cases h
      rw [hx]
      exact List.mem_cons_self
    · exact List.mem_cons_of_mem _ (ih h)
theorem upperOf_len (c : Nat) : (Unicode.upperOf c).length ≤ 3 := by
  unfold Unicode.upperOf Unicode.image
  split
  · rename_i cs h
    exact upper_several _ (lookup_mem h)
  · simp
theorem flat_len {l : List (Array Nat)} (h : ∀ a ∈ l, a.size ≤ 3) : (l.map Array.size).sum ≤ 3 * l.length := by
  induction l with
  | nil => simp
  | cons a l ih =>
    have h1 := h a List.mem_cons_self
    have h2 := ih fun x hx => h x (List.mem_cons_of_mem _ hx)
    simp only [List.map_cons, List.sum_cons, List.length_cons]
    omega
theorem upper_len (x : Str) : (Txt.upper x).length ≤ 3 * x.length := by
  show (placed x fun _ c => Unicode.upperOf c).size ≤ 3 * x.cps.size
  unfold placed
  rw [Array.size_flatten]
  have h : ((x.cps.mapIdx fun i c => (Unicode.upperOf c).toArray).map Array.size).sum = (((x.cps.mapIdx fun i c => (Unicode.upperOf c).toArray).toList).map Array.size).sum := by
    rw [← Array.sum_toList, Array.toList_map]
  rw [h]
  refine Nat.le_trans (flat_len fun a ha => ?_) ?_
  · rw [Array.mem_toList_iff, Array.mem_mapIdx] at ha
    obtain ⟨i, hi, rfl⟩ := ha
    simpa using upperOf_len _
  · simp
def rUpper : V → List V → Hp → VK → Prop := fun x vs H Q => ∃ z, x = .str z ∧ vs = [] ∧ z.length ≤ 100000 ∧ Q (.str (Txt.upper z)) H
theorem mt_upper {X : Cx} : MtR X "str.upper" rUpper := by
  intro pins s σ H x vs v us Q I rx rv h
  obtain ⟨z, rfl, rfl, hz, q⟩ := h
  obtain ⟨t, rfl⟩ := rx
  cases rv
  have hl := upper_len z
  refine SC.upper ?_ ⟨.str _, H, I.tok _, ⟨_, rfl⟩, q⟩
  unfold tooLong
  rw [decide_eq_false]
  have := sizeLine_big
  show ¬ _ > sizeLine
  omega
/-! ### a key that a dict of the module has not -/
def keysOf (es : List DictEntry) : List (Option Str) := es.map fun e => match e.key with | .str x _ => some x | _ => none
theorem keys_none {K : PySem.W.Frag} {D : Addr} {es : Array DictEntry} {n : Nat} {z : Str} (hl : K.lookup D = some ⟨.type "dict", none, .dict es n, #[]⟩) {ks : List Str} (hk : keysOf es.toList = ks.map some) (hr : es.toList.any (·.refKey) = false) (hz : z ∉ ks) : PySem.W.nsIn K D z = some none := by
  have hf : es.toList.find? (·.key.isStr z) = none := by
    rw [List.find?_eq_none]
    intro e he hq
    have hm : (match e.key with | .str x _ => some x | _ => none) ∈ keysOf es.toList := List.mem_map.mpr ⟨e, he, rfl⟩
    rw [hk] at hm
    obtain ⟨x, hx, e1⟩ := List.mem_map.mp hm
    cases hkey : e.key with
    | str y t =>
      rw [hkey] at e1 hq
      cases e1
      have : x = z := by simpa [Value.isStr] using hq
      exact hz (this ▸ hx)
    | _ => rw [hkey] at e1; cases e1
  unfold PySem.W.nsIn
  rw [hl]
  dsimp only
  rw [hf, hr]
  rfl
end L2

set_option maxHeartbeats 4000000

local macro_rules | `(tactic| walk_at "rd") => `(tactic| simp only [L2.tSeq, L2.tIfS, L2.tIf, L2.tTest, L2.tOp, L2.tUn, L2.tVar, L2.tC, L2.tRet, L2.tRetN, L2.tAsg, L2.tDrop, L2.tNext, L2.tBreak, L2.tCont, L2.gName, L2.gTup, L2.gCons_cons, L2.gNil_nil, L2.gSub, L2.tNot, L2.tAnd, L2.tOr, L2.tAndV, L2.tOrV, L2.tNotV, L2.tB, L2.tCall, L2.tCons, L2.tNil, L2.tCB, L2.tBM, L2.tBM0, L2.tTup, L2.tLst, L2.tSl, L2.tNoPart, L2.tPart, L2.tChain, L2.tAll, L2.tFld, L2.tXNew, L2.tRev, L2.tX1, L2.tFmt, L2.tRaise, L2.tTry1, L2.tMake, L2.tNew0, L2.tMethV, L2.iSeq, L2.sFld, L2.tCallV, L2.rKIn, L2.rKGet, L2.rStarts, L2.rZfill, L2.rSIndex, L2.rSplit, L2.rIntT, L2.rUpper,
  L2.rI, L2.rI0, L2.rU, L2.rEq, L2.rNe, L2.scal, L2.CDiv, L2.CMul, L2.CPow, L2.start, L2.cxOf, L2.Cx.wish, L2.dec_int, L2.V.int.injEq, L2.V.str.injEq, L2.V.bl.injEq, L2.V.ref.injEq, L2.V.ty.injEq, reduceCtorEq,
  List.map_cons, List.map_nil, List.length_cons, List.length_nil, List.replicate_succ, List.replicate_zero, List.replicate, List.cons_append, List.nil_append, List.append_nil, List.getElem?_cons_zero, List.getElem?_cons_succ, List.set_cons_zero, List.set_cons_succ,
  Option.some.injEq, exists_eq_left', exists_eq_left, exists_eq_right, exists_eq, exists_and_left, exists_and_right, List.cons.injEq, and_true, true_and, and_self, Bool.not_true, Bool.not_false, decide_eq_true_eq, Bool.not_eq_true', decide_eq_false_iff_not, if_true, if_false, Bool.false_eq_true, eq_self_iff_true,
  Nat.zero_add, Nat.reduceAdd, Nat.reduceSub, Int.reduceLT, Int.reduceLE, Int.reduceNeg, Int.reducePow, Nat.reduceLT, Nat.reducePow, Int.reduceToNat, or_true, true_or, L2.na_10, L2.sz_0, L2.sz_1, L2.sz_2, L2.sz_3, L2.sz_4, L2.sz_5, L2.sz_6, L2.sz_7, L2.sz_8, L2.sz_9, L2.sz_10, L2.sz_11, L2.sz_12, L2.sz_13, L2.sz_14])
local macro_rules | `(tactic| walk_at "rx") => `(tactic| simp only [L2.tSeq, L2.tIfS, L2.tIf, L2.tTest, L2.tOp, L2.tUn, L2.tVar, L2.tC, L2.tRet, L2.tRetN, L2.tAsg, L2.tDrop, L2.tNext, L2.tBreak, L2.tCont, L2.gName, L2.gTup, L2.gCons_cons, L2.gNil_nil, L2.gSub, L2.tNot, L2.tAnd, L2.tOr, L2.tAndV, L2.tOrV, L2.tNotV, L2.tB, L2.tCall, L2.tCons, L2.tNil, L2.tCB, L2.tBM, L2.tBM0, L2.tTup, L2.tLst, L2.tSl, L2.tNoPart, L2.tPart, L2.tChain, L2.tAll, L2.tFld, L2.tXNew, L2.tRev, L2.tX1, L2.tFmt, L2.tRaise, L2.tTry1, L2.tMake, L2.tNew0, L2.tMethV, L2.iSeq, L2.sFld, L2.tCallV, L2.rKIn, L2.rKGet, L2.rStarts, L2.rZfill, L2.rSIndex, L2.rSplit, L2.rIntT, L2.rUpper, L2.tFor_w, L2.tComp_w, L2.pull, L2.iKeys, L2.iList, L2.iTup, L2.iStr, L2.iRng1, L2.iRng2, L2.iRng3, L2.iView, Option.getD_some, Option.getD_none,
  L2.rI, L2.rI0, L2.rU, L2.rEq, L2.rNe, L2.scal, L2.CDiv, L2.CMul, L2.CPow, L2.start, L2.cxOf, L2.Cx.wish, L2.dec_int, L2.V.int.injEq, L2.V.str.injEq, L2.V.bl.injEq, L2.V.ref.injEq, L2.V.ty.injEq, reduceCtorEq,
  List.map_cons, List.map_nil, List.length_cons, List.length_nil, List.replicate_succ, List.replicate_zero, List.replicate, List.cons_append, List.nil_append, List.append_nil, List.getElem?_cons_zero, List.getElem?_cons_succ, List.set_cons_zero, List.set_cons_succ,
  Option.some.injEq, exists_eq_left', exists_eq_left, exists_eq', exists_eq_right, exists_eq, exists_and_left, exists_and_right, List.cons.injEq, and_true, true_and, and_self, Bool.not_true, Bool.not_false, decide_eq_true_eq, Bool.not_eq_true', decide_eq_false_iff_not, if_true, if_false, Bool.false_eq_true, eq_self_iff_true,
  Nat.zero_add, Nat.reduceAdd, Nat.reduceSub, Int.reduceLT, Int.reduceLE, Int.reduceNeg, Int.reducePow, Nat.reduceLT, Nat.reducePow, Int.reduceToNat, or_true, true_or, L2.na_10, L2.sz_0, L2.sz_1, L2.sz_2, L2.sz_3, L2.sz_4, L2.sz_5, L2.sz_6, L2.sz_7, L2.sz_8, L2.sz_9, L2.sz_10, L2.sz_11, L2.sz_12, L2.sz_13, L2.sz_14])
seal L2.PE L2.PT L2.PW L2.PA L2.PS L2.PSs L2.PG L2.PGs L2.PI L2.PC L2.PFs L2.PO L2.OpR L2.UnR L2.CallR L2.MtR L2.MtM L2.IxR L2.PSet L2.SlR L2.TruR L2.PGet L2.PIp L2.InOp
namespace K62
open PySem PySem.Spec PyProof.Rows L2
open Sem (wp)
def top (i : Nat) : Stmt := PySem.Challenge.pw_dealknot_k62_rows_refused.main.body.getD i (.Pass ⟨0, 0, 0, 0⟩)
abbrev s__law_signs : Stmt := top 65
theorem sc__law_signs : FnScope ["text", "place", "sign", "way"] ["text", "place", "sign", "way"] (defScope s__law_signs) := ⟨rfl, rfl, rfl, by decide +kernel, rfl, by decide +kernel, by decide +kernel⟩
abbrev s__law_words : Stmt := top 66
theorem sc__law_words : FnScope ["text", "place", "rest", "way", "words", "k", "some"] ["text", "place", "rest", "way"] (defScope s__law_words) := ⟨rfl, rfl, rfl, by decide +kernel, rfl, by decide +kernel, by decide +kernel⟩
abbrev s__law_spoiled : Stmt := top 67
theorem sc__law_spoiled : FnScope ["text", "cell", "signs", "number", "way", "place", "rest", "some"] ["text", "cell"] (defScope s__law_spoiled) := ⟨rfl, rfl, rfl, by decide +kernel, rfl, by decide +kernel, by decide +kernel⟩
abbrev s_check_row : Stmt := top 37
theorem sc_check_row : FnScope ["right"] ["right"] (defScope s_check_row) := ⟨rfl, rfl, rfl, by decide +kernel, rfl, by decide +kernel, by decide +kernel⟩
abbrev s_words_of : Stmt := top 38
theorem sc_words_of : FnScope ["row"] ["row"] (defScope s_words_of) := ⟨rfl, rfl, rfl, by decide +kernel, rfl, by decide +kernel, by decide +kernel⟩
abbrev s_Lay__init : Stmt := (clsBody (top 27)).getD 0 (.Pass ⟨0, 0, 0, 0⟩)
theorem sc_Lay__init : FnScope ["self", "shelf", "amount"] ["self", "shelf", "amount"] (defScope s_Lay__init) := ⟨rfl, rfl, rfl, by decide +kernel, rfl, by decide +kernel, by decide +kernel⟩
abbrev s_is_name : Stmt := top 17
theorem sc_is_name : FnScope ["thing"] ["thing"] (defScope s_is_name) := ⟨rfl, rfl, rfl, by decide +kernel, rfl, by decide +kernel, by decide +kernel⟩
abbrev s_is_shelf : Stmt := top 20
theorem sc_is_shelf : FnScope ["thing"] ["thing"] (defScope s_is_shelf) := ⟨rfl, rfl, rfl, by decide +kernel, rfl, by decide +kernel, by decide +kernel⟩
abbrev s_shelf_in : Stmt := top 40
theorem sc_shelf_in : FnScope ["house", "ware"] ["house", "ware"] (defScope s_shelf_in) := ⟨rfl, rfl, rfl, by decide +kernel, rfl, by decide +kernel, by decide +kernel⟩
abbrev s_number_in : Stmt := top 41
theorem sc_number_in : FnScope ["word"] ["word"] (defScope s_number_in) := ⟨rfl, rfl, rfl, by decide +kernel, rfl, by decide +kernel, by decide +kernel⟩
abbrev s_is_whole : Stmt := top 18
theorem sc_is_whole : FnScope ["thing"] ["thing"] (defScope s_is_whole) := ⟨rfl, rfl, rfl, by decide +kernel, rfl, by decide +kernel, by decide +kernel⟩
abbrev s_is_amount : Stmt := top 19
theorem sc_is_amount : FnScope ["thing"] ["thing"] (defScope s_is_amount) := ⟨rfl, rfl, rfl, by decide +kernel, rfl, by decide +kernel, by decide +kernel⟩
abbrev s_amount_in : Stmt := top 42
theorem sc_amount_in : FnScope ["word", "amount"] ["word"] (defScope s_amount_in) := ⟨rfl, rfl, rfl, by decide +kernel, rfl, by decide +kernel, by decide +kernel⟩
abbrev s_lay_in : Stmt := top 44
theorem sc_lay_in : FnScope ["words"] ["words"] (defScope s_lay_in) := ⟨rfl, rfl, rfl, by decide +kernel, rfl, by decide +kernel, by decide +kernel⟩
abbrev s_Take__init : Stmt := (clsBody (top 28)).getD 0 (.Pass ⟨0, 0, 0, 0⟩)
theorem sc_Take__init : FnScope ["self", "shelf", "amount"] ["self", "shelf", "amount"] (defScope s_Take__init) := ⟨rfl, rfl, rfl, by decide +kernel, rfl, by decide +kernel, by decide +kernel⟩
abbrev s_take_in : Stmt := top 45
theorem sc_take_in : FnScope ["words"] ["words"] (defScope s_take_in) := ⟨rfl, rfl, rfl, by decide +kernel, rfl, by decide +kernel, by decide +kernel⟩
abbrev s_Line__init : Stmt := (clsBody (top 29)).getD 0 (.Pass ⟨0, 0, 0, 0⟩)
theorem sc_Line__init : FnScope ["self", "shelf", "line"] ["self", "shelf", "line"] (defScope s_Line__init) := ⟨rfl, rfl, rfl, by decide +kernel, rfl, by decide +kernel, by decide +kernel⟩
abbrev s_line_in : Stmt := top 46
theorem sc_line_in : FnScope ["words"] ["words"] (defScope s_line_in) := ⟨rfl, rfl, rfl, by decide +kernel, rfl, by decide +kernel, by decide +kernel⟩
abbrev s_Offer__init : Stmt := (clsBody (top 30)).getD 0 (.Pass ⟨0, 0, 0, 0⟩)
theorem sc_Offer__init : FnScope ["self", "deal"] ["self", "deal"] (defScope s_Offer__init) := ⟨rfl, rfl, rfl, by decide +kernel, rfl, by decide +kernel, by decide +kernel⟩
abbrev s_leg_in : Stmt := top 43
theorem sc_leg_in : FnScope ["text", "words"] ["text"] (defScope s_leg_in) := ⟨rfl, rfl, rfl, by decide +kernel, rfl, by decide +kernel, by decide +kernel⟩
abbrev s_is_leg : Stmt := top 21
theorem sc_is_leg : FnScope ["thing"] ["thing"] (defScope s_is_leg) := ⟨rfl, rfl, rfl, by decide +kernel, rfl, by decide +kernel, by decide +kernel⟩
abbrev s_are_legs : Stmt := top 22
theorem sc_are_legs : FnScope ["thing"] ["thing"] (defScope s_are_legs) := ⟨rfl, rfl, rfl, by decide +kernel, rfl, by decide +kernel, by decide +kernel⟩
abbrev s_deal_of : Stmt := top 23
theorem sc_deal_of : FnScope ["name", "legs"] ["name", "legs"] (defScope s_deal_of) := ⟨rfl, rfl, rfl, by decide +kernel, rfl, by decide +kernel, by decide +kernel⟩
abbrev s_name_in : Stmt := top 39
theorem sc_name_in : FnScope ["word"] ["word"] (defScope s_name_in) := ⟨rfl, rfl, rfl, by decide +kernel, rfl, by decide +kernel, by decide +kernel⟩
abbrev s_offer_in : Stmt := top 47
theorem sc_offer_in : FnScope ["words", "legs"] ["words"] (defScope s_offer_in) := ⟨rfl, rfl, rfl, by decide +kernel, rfl, by decide +kernel, by decide +kernel⟩
abbrev s_Off__init : Stmt := (clsBody (top 31)).getD 0 (.Pass ⟨0, 0, 0, 0⟩)
theorem sc_Off__init : FnScope ["self", "name"] ["self", "name"] (defScope s_Off__init) := ⟨rfl, rfl, rfl, by decide +kernel, rfl, by decide +kernel, by decide +kernel⟩
abbrev s_off_in : Stmt := top 48
theorem sc_off_in : FnScope ["words"] ["words"] (defScope s_off_in) := ⟨rfl, rfl, rfl, by decide +kernel, rfl, by decide +kernel, by decide +kernel⟩
abbrev s_Put__init : Stmt := (clsBody (top 32)).getD 0 (.Pass ⟨0, 0, 0, 0⟩)
theorem sc_Put__init : FnScope ["self", "shelf", "name", "place"] ["self", "shelf", "name", "place"] (defScope s_Put__init) := ⟨rfl, rfl, rfl, by decide +kernel, rfl, by decide +kernel, by decide +kernel⟩
abbrev s_put_in : Stmt := top 49
theorem sc_put_in : FnScope ["words"] ["words"] (defScope s_put_in) := ⟨rfl, rfl, rfl, by decide +kernel, rfl, by decide +kernel, by decide +kernel⟩
abbrev s_bell_in : Stmt := top 50
theorem sc_bell_in : FnScope ["words"] ["words"] (defScope s_bell_in) := ⟨rfl, rfl, rfl, by decide +kernel, rfl, by decide +kernel, by decide +kernel⟩
abbrev s_read : Stmt := top 52
theorem sc_read : FnScope ["row", "words"] ["row"] (defScope s_read) := ⟨rfl, rfl, rfl, by decide +kernel, rfl, by decide +kernel, by decide +kernel⟩
abbrev s__law_told : Stmt := top 68
theorem sc__law_told : FnScope ["row", "found", "kinds", "e"] ["row"] (defScope s__law_told) := ⟨rfl, rfl, rfl, by decide +kernel, rfl, by decide +kernel, by decide +kernel⟩
abbrev s__law_word : Stmt := top 60
theorem sc__law_word : FnScope ["word", "sign"] ["word"] (defScope s__law_word) := ⟨rfl, rfl, rfl, by decide +kernel, rfl, by decide +kernel, by decide +kernel⟩
abbrev s__law_figures : Stmt := top 61
theorem sc__law_figures : FnScope ["word", "bottom", "sign"] ["word", "bottom"] (defScope s__law_figures) := ⟨rfl, rfl, rfl, by decide +kernel, rfl, by decide +kernel, by decide +kernel⟩
abbrev s__law_is_leg : Stmt := top 62
theorem sc__law_is_leg : FnScope ["text", "words"] ["text"] (defScope s__law_is_leg) := ⟨rfl, rfl, rfl, by decide +kernel, rfl, by decide +kernel, by decide +kernel⟩
abbrev s__law_is_deal : Stmt := top 63
theorem sc__law_is_deal : FnScope ["words", "legs", "leg"] ["words"] (defScope s__law_is_deal) := ⟨rfl, rfl, rfl, by decide +kernel, rfl, by decide +kernel, by decide +kernel⟩
abbrev s__law_good : Stmt := top 64
theorem sc__law_good : FnScope ["row", "words"] ["row"] (defScope s__law_good) := ⟨rfl, rfl, rfl, by decide +kernel, rfl, by decide +kernel, by decide +kernel⟩
abbrev s__law_cell_at : Stmt := top 54
theorem sc__law_cell_at : FnScope ["script", "k"] ["script", "k"] (defScope s__law_cell_at) := ⟨rfl, rfl, rfl, by decide +kernel, rfl, by decide +kernel, by decide +kernel⟩
abbrev s__law_amount : Stmt := top 56
theorem sc__law_amount : FnScope ["cell"] ["cell"] (defScope s__law_amount) := ⟨rfl, rfl, rfl, by decide +kernel, rfl, by decide +kernel, by decide +kernel⟩
abbrev s__law_name : Stmt := top 55
theorem sc__law_name : FnScope ["cell", "some", "number", "text", "k"] ["cell"] (defScope s__law_name) := ⟨rfl, rfl, rfl, by decide +kernel, rfl, by decide +kernel, by decide +kernel⟩
abbrev s__law_leg : Stmt := top 57
theorem sc__law_leg : FnScope ["cell", "giver", "taker"] ["cell"] (defScope s__law_leg) := ⟨rfl, rfl, rfl, by decide +kernel, rfl, by decide +kernel, by decide +kernel⟩
abbrev s__law_leg_text : Stmt := top 58
theorem sc__law_leg_text : FnScope ["leg"] ["leg"] (defScope s__law_leg_text) := ⟨rfl, rfl, rfl, by decide +kernel, rfl, by decide +kernel, by decide +kernel⟩
abbrev s__law_made : Stmt := top 59
theorem sc__law_made : FnScope ["head", "one", "two", "kind", "shelf", "front", "amount", "line", "legs", "text", "name", "place"] ["head", "one", "two"] (defScope s__law_made) := ⟨rfl, rfl, rfl, by decide +kernel, rfl, by decide +kernel, by decide +kernel⟩
abbrev s_Bell__row : Stmt := (clsBody (top 33)).getD 1 (.Pass ⟨0, 0, 0, 0⟩)
theorem sc_Bell__row : FnScope ["self"] ["self"] (defScope s_Bell__row) := ⟨rfl, rfl, rfl, by decide +kernel, rfl, by decide +kernel, by decide +kernel⟩
abbrev s_spaced : Stmt := top 25
theorem sc_spaced : FnScope ["words"] ["words"] (defScope s_spaced) := ⟨rfl, rfl, rfl, by decide +kernel, rfl, by decide +kernel, by decide +kernel⟩
abbrev s_Lay__row : Stmt := (clsBody (top 27)).getD 2 (.Pass ⟨0, 0, 0, 0⟩)
theorem sc_Lay__row : FnScope ["self"] ["self"] (defScope s_Lay__row) := ⟨rfl, rfl, rfl, by decide +kernel, rfl, by decide +kernel, by decide +kernel⟩
abbrev s_Take__row : Stmt := (clsBody (top 28)).getD 2 (.Pass ⟨0, 0, 0, 0⟩)
theorem sc_Take__row : FnScope ["self"] ["self"] (defScope s_Take__row) := ⟨rfl, rfl, rfl, by decide +kernel, rfl, by decide +kernel, by decide +kernel⟩
abbrev s_Line__row : Stmt := (clsBody (top 29)).getD 2 (.Pass ⟨0, 0, 0, 0⟩)
theorem sc_Line__row : FnScope ["self"] ["self"] (defScope s_Line__row) := ⟨rfl, rfl, rfl, by decide +kernel, rfl, by decide +kernel, by decide +kernel⟩
abbrev s_Put__row : Stmt := (clsBody (top 32)).getD 2 (.Pass ⟨0, 0, 0, 0⟩)
theorem sc_Put__row : FnScope ["self"] ["self"] (defScope s_Put__row) := ⟨rfl, rfl, rfl, by decide +kernel, rfl, by decide +kernel, by decide +kernel⟩
abbrev s_Off__row : Stmt := (clsBody (top 31)).getD 2 (.Pass ⟨0, 0, 0, 0⟩)
theorem sc_Off__row : FnScope ["self"] ["self"] (defScope s_Off__row) := ⟨rfl, rfl, rfl, by decide +kernel, rfl, by decide +kernel, by decide +kernel⟩
abbrev s_Offer__row : Stmt := (clsBody (top 30)).getD 2 (.Pass ⟨0, 0, 0, 0⟩)
theorem sc_Offer__row : FnScope ["self", "name", "legs"] ["self"] (defScope s_Offer__row) := ⟨rfl, rfl, rfl, by decide +kernel, rfl, by decide +kernel, by decide +kernel⟩
abbrev s_law : Stmt := top 69
theorem sc_law : FnScope ["script", "k", "cells", "row", "found", "kinds"] ["script"] (defScope s_law) := ⟨rfl, rfl, rfl, by decide +kernel, rfl, by decide +kernel, by decide +kernel⟩
structure Ad where
  HallError : Addr
  NoName : Addr
  NoAmount : Addr
  NoLeg : Addr
  NotWaiting : Addr
  Twice : Addr
  TooLittle : Addr
  NotNow : Addr
  NotForetold : Addr
  NoRow : Addr
  NoBack : Addr
  Lay : Addr
  Take : Addr
  Line : Addr
  Offer : Addr
  Off : Addr
  Put : Addr
  Bell : Addr
  READERS : Addr
  lay_in : Addr
  take_in : Addr
  line_in : Addr
  offer_in : Addr
  off_in : Addr
  put_in : Addr
  bell_in : Addr
  Lay__init : Addr
  Take__init : Addr
  Line__init : Addr
  Offer__init : Addr
  Off__init : Addr
  Put__init : Addr
  Lay__row : Addr
  Take__row : Addr
  Line__row : Addr
  Offer__row : Addr
  Off__row : Addr
  Put__row : Addr
  Bell__row : Addr
structure Txt (w : World) (K : PySem.W.Frag) (mg : Str → Option Value) (Ax : Ad) : Prop where
  b_ValueError : mg "ValueError" = none
  b_all : mg "all" = none
  b_bool : mg "bool" = none
  b_int : mg "int" = none
  b_isinstance : mg "isinstance" = none
  b_len : mg "len" = none
  b_list : mg "list" = none
  b_min : mg "min" = none
  b_range : mg "range" = none
  b_str : mg "str" = none
  b_tuple : mg "tuple" = none
  c_FIGURES : ∃ t, mg "FIGURES" = some (.str "0123456789" t)
  c_LETTERS : ∃ t, mg "LETTERS" = some (.str "abcdefghijklmnopqrstuvwxyz" t)
  c_LONGEST_NAME : ∃ t, mg "LONGEST_NAME" = some (.int 8 t)
  c_MOST_FIGURES : ∃ t, mg "MOST_FIGURES" = some (.int 60 t)
  c_MOST_LEGS : ∃ t, mg "MOST_LEGS" = some (.int 8 t)
  c_HallError : mg "HallError" = some (.ref Ax.HallError)
  c_NoName : mg "NoName" = some (.ref Ax.NoName)
  c_NoAmount : mg "NoAmount" = some (.ref Ax.NoAmount)
  c_NoLeg : mg "NoLeg" = some (.ref Ax.NoLeg)
  c_NotWaiting : mg "NotWaiting" = some (.ref Ax.NotWaiting)
  c_Twice : mg "Twice" = some (.ref Ax.Twice)
  c_TooLittle : mg "TooLittle" = some (.ref Ax.TooLittle)
  c_NotNow : mg "NotNow" = some (.ref Ax.NotNow)
  c_NotForetold : mg "NotForetold" = some (.ref Ax.NotForetold)
  c_NoRow : mg "NoRow" = some (.ref Ax.NoRow)
  c_NoBack : mg "NoBack" = some (.ref Ax.NoBack)
  c_Lay : mg "Lay" = some (.ref Ax.Lay)
  c_Take : mg "Take" = some (.ref Ax.Take)
  c_Line : mg "Line" = some (.ref Ax.Line)
  c_Offer : mg "Offer" = some (.ref Ax.Offer)
  c_Off : mg "Off" = some (.ref Ax.Off)
  c_Put : mg "Put" = some (.ref Ax.Put)
  c_Bell : mg "Bell" = some (.ref Ax.Bell)
  c_READERS : mg "READERS" = some (.ref Ax.READERS)
  c_lay_in : mg "lay_in" = some (.ref Ax.lay_in)
  c_take_in : mg "take_in" = some (.ref Ax.take_in)
  c_line_in : mg "line_in" = some (.ref Ax.line_in)
  c_offer_in : mg "offer_in" = some (.ref Ax.offer_in)
  c_off_in : mg "off_in" = some (.ref Ax.off_in)
  c_put_in : mg "put_in" = some (.ref Ax.put_in)
  c_bell_in : mg "bell_in" = some (.ref Ax.bell_in)
  q_NoName : PySem.W.excIn K Ax.NoName [.type "ValueError", .type "Exception", .type "BaseException", .type "object"] "ValueError.__new__" = true
  q_NoLeg : PySem.W.excIn K Ax.NoLeg [.type "ValueError", .type "Exception", .type "BaseException", .type "object"] "ValueError.__new__" = true
  q_NoRow : PySem.W.excIn K Ax.NoRow [.type "ValueError", .type "Exception", .type "BaseException", .type "object"] "ValueError.__new__" = true
  mk_Lay : Mk K Ax.Lay Ax.Lay__init
  cl_Lay : Cls K Ax.Lay
  na_Lay_shelf : PySem.W.findIn K (.ref Ax.Lay) "shelf" = some none
  na_Lay_amount : PySem.W.findIn K (.ref Ax.Lay) "amount" = some none
  mk_Take : Mk K Ax.Take Ax.Take__init
  cl_Take : Cls K Ax.Take
  na_Take_shelf : PySem.W.findIn K (.ref Ax.Take) "shelf" = some none
  na_Take_amount : PySem.W.findIn K (.ref Ax.Take) "amount" = some none
  mk_Line : Mk K Ax.Line Ax.Line__init
  cl_Line : Cls K Ax.Line
  na_Line_shelf : PySem.W.findIn K (.ref Ax.Line) "shelf" = some none
  na_Line_line : PySem.W.findIn K (.ref Ax.Line) "line" = some none
  mk_Offer : Mk K Ax.Offer Ax.Offer__init
  cl_Offer : Cls K Ax.Offer
  na_Offer_deal : PySem.W.findIn K (.ref Ax.Offer) "deal" = some none
  mk_Off : Mk K Ax.Off Ax.Off__init
  cl_Off : Cls K Ax.Off
  na_Off_name : PySem.W.findIn K (.ref Ax.Off) "name" = some none
  mk_Put : Mk K Ax.Put Ax.Put__init
  cl_Put : Cls K Ax.Put
  na_Put_shelf : PySem.W.findIn K (.ref Ax.Put) "shelf" = some none
  na_Put_name : PySem.W.findIn K (.ref Ax.Put) "name" = some none
  na_Put_place : PySem.W.findIn K (.ref Ax.Put) "place" = some none
  mk0_Bell : Mk0 K Ax.Bell
  cl_Bell : Cls K Ax.Bell
  kd_READERS : KDict K w.params Ax.READERS
  r_lay : PySem.W.nsIn K Ax.READERS "lay" = some (some (.ref Ax.lay_in))
  r_take : PySem.W.nsIn K Ax.READERS "take" = some (some (.ref Ax.take_in))
  r_line : PySem.W.nsIn K Ax.READERS "line" = some (some (.ref Ax.line_in))
  r_deal : PySem.W.nsIn K Ax.READERS "deal" = some (some (.ref Ax.offer_in))
  r_off : PySem.W.nsIn K Ax.READERS "off" = some (some (.ref Ax.off_in))
  r_put : PySem.W.nsIn K Ax.READERS "put" = some (some (.ref Ax.put_in))
  r_bell : PySem.W.nsIn K Ax.READERS "bell" = some (some (.ref Ax.bell_in))
  me_Lay_row : Meth K Ax.Lay "row" Ax.Lay__row
  me_Take_row : Meth K Ax.Take "row" Ax.Take__row
  me_Line_row : Meth K Ax.Line "row" Ax.Line__row
  me_Offer_row : Meth K Ax.Offer "row" Ax.Offer__row
  me_Off_row : Meth K Ax.Off "row" Ax.Off__row
  me_Put_row : Meth K Ax.Put "row" Ax.Put__row
  me_Bell_row : Meth K Ax.Bell "row" Ax.Bell__row
  e_NoRow : ExK K Ax.NoRow
  m_NoRow : PySem.W.exmOne K (.ref Ax.NoRow) (.ref Ax.HallError) = some true
  i_NoRow : PySem.W.kitOne K (.ref Ax.NoRow) (.ref Ax.NoRow) = some true
  v_NoRow : PySem.W.kitOne K (.ref Ax.NoRow) (.type "ValueError") = some true
  o1_NoRow : PySem.W.kitAny K (.ref Ax.NoRow) [.ref Ax.NoName, .ref Ax.NoAmount, .ref Ax.NoLeg, .ref Ax.NotWaiting] = some false
  o2_NoRow : PySem.W.kitAny K (.ref Ax.NoRow) [.ref Ax.Twice, .ref Ax.TooLittle, .ref Ax.NotNow, .ref Ax.NotForetold, .ref Ax.NoBack] = some false
  rk_READERS : ∃ es n, K.lookup Ax.READERS = some ⟨.type "dict", none, .dict es n, #[]⟩ ∧ keysOf es.toList = ([Str.ofString "lay", Str.ofString "take", Str.ofString "line", Str.ofString "deal", Str.ofString "off", Str.ofString "put", Str.ofString "bell"] : List Str).map some ∧ es.toList.any (·.refKey) = false
section
variable {P : Program} {w : World} {K : PySem.W.Frag} {mg : Str → Option Value} {base : Heap} {Ax : Ad}
def letters : Str := "abcdefghijklmnopqrstuvwxyz"
def isIn (c : Nat) : Bool := !(Builtin.Str.occurrences letters ⟨#[c]⟩ 0 letters.length 1).isEmpty
def nameD : PyData → Bool
  | .str x => decide (1 ≤ x.length ∧ x.length ≤ 8) && x.cps.toList.all isIn
  | _ => false
theorem nameD_str (x : Str) : nameD (.str x) = (decide (1 ≤ x.length ∧ x.length ≤ 8) && x.cps.toList.all isIn) := rfl
def amountD : PyData → Bool
  | .int i => decide (1 ≤ i ∧ i < 10 ^ 60)
  | _ => false
theorem amountD_int (i : Int) : amountD (.int i) = decide (1 ≤ i ∧ i < 10 ^ 60) := rfl
theorem reps_at {H : Hp} : ∀ {ds : List PyData} {vs : List V} {i : Nat}, Reps H ds vs → i < ds.length → Rep H (ds.getD i .none) (vs.getD i .non)
  | [], _, i, _, h => by simp at h
  | d :: ds, _, 0, ⟨v, r, e, h1, _⟩, _ => by subst e; exact h1
  | d :: ds, _, i + 1, ⟨v, r, e, _, h2⟩, h => by
    subst e
    have := reps_at (i := i) h2 (by simpa using h)
    simpa using this
theorem reps_len {H : Hp} : ∀ {ds : List PyData} {vs : List V}, Reps H ds vs → vs.length = ds.length
  | [], _, h => by cases (show _ = [] from h); rfl
  | d :: ds, _, ⟨v, r, e, _, h2⟩ => by subst e; simp [reps_len h2]
def okS (d : PyData) : Prop := ∀ x, d = .str x → x.length ≤ sizeLine
def okT (d : PyData) : Prop := ∀ ds, d = .tuple ds → ∀ e ∈ ds, okS e
def legD : PyData → Bool
  | .tuple [a, b, c, m] => nameD a && nameD b && nameD c && !(PyData.eqv a b) && amountD m
  | _ => false
theorem legD_four (a b c m : PyData) : legD (.tuple [a, b, c, m]) = (nameD a && nameD b && nameD c && !(PyData.eqv a b) && amountD m) := rfl
def legsD : PyData → Bool
  | .list ds => decide (1 ≤ ds.length ∧ ds.length ≤ 8) && ds.all legD
  | _ => false
theorem legsD_list (ds : List PyData) : legsD (.list ds) = (decide (1 ≤ ds.length ∧ ds.length ≤ 8) && ds.all legD) := rfl
theorem reps_get {H : Hp} : ∀ {ds : List PyData} {vs : List V} {i : Nat} {v : V}, Reps H ds vs → vs[i]? = some v → ∃ d, ds[i]? = some d ∧ Rep H d v
  | [], _, i, v, h, hv => by cases (show _ = [] from h); simp at hv
  | d :: ds, _, 0, v, ⟨u, r, e, h1, _⟩, hv => by subst e; simp at hv; subst hv; exact ⟨d, rfl, h1⟩
  | d :: ds, _, i + 1, v, ⟨u, r, e, _, h2⟩, hv => by
    subst e
    have hv : r[i]? = some v := by simpa using hv
    obtain ⟨d', h3, h4⟩ := reps_get h2 hv
    exact ⟨d', by simpa using h3, h4⟩
theorem take_all {α : Type} {f : α → Bool} {l : List α} {i : Nat} {x : α} (h : l[i]? = some x) : ((l.take (i + 1)).map f).map V.bl = ((l.take i).map f).map V.bl ++ [V.bl (f x)] := by
  rw [List.take_add_one, h, List.map_append, List.map_append]
  rfl
theorem nameD_is {d : PyData} (h : nameD d = true) : ∃ x, d = .str x := by
  cases d with
  | str x => exact ⟨x, rfl⟩
  | _ => cases h
theorem eqv_self (x : Str) : PyData.eqv (.str x) (.str x) = true := by simp [PyData.eqv]
theorem eqv_ne {x y : Str} (h : x ≠ y) : PyData.eqv (.str x) (.str y) = false := by
  simp [PyData.eqv, h]
theorem isIn_abc {c : Nat} (h : c ∈ abc.cps.toList) : isIn c = true := by
  have : abc.cps.toList.all isIn = true := by decide +kernel
  exact List.all_eq_true.mp this c h
theorem name_good {x : Str} (h : goodNm x) : nameD (.str x) = true := by
  rw [nameD_str, decide_eq_true ⟨h.1, h.2.1⟩, Bool.true_and, List.all_eq_true]
  exact fun c hc => isIn_abc (h.2.2 c hc)
theorem bad_sign {x : Str} {c : Nat} (hc : c ∈ x.cps.toList) (hb : isIn c = false) : nameD (.str x) = false := by
  rw [nameD_str, Bool.and_eq_false_iff]
  right
  rw [List.all_eq_false]
  exact ⟨c, hc, by rw [hb]; decide⟩
theorem long_name {x : Str} (h : 8 < x.length) : nameD (.str x) = false := by
  rw [nameD_str, decide_eq_false (by omega)]
  rfl
theorem getD_mem {α : Type} {l : List α} {i : Nat} {d : α} (h : i < l.length) : l.getD i d ∈ l := by
  rw [List.getD_eq_getElem?_getD, List.getElem?_eq_getElem h]
  exact List.getElem_mem h
theorem okS_len {x : Str} (h : x.length ≤ 100) : okS (.str x) := by
  intro y e
  cases e
  have := sizeLine_big
  omega
theorem turn_name {g y : Str} {d : Nat} (hg : goodNm g) (hy : y.cps.toList = [d]) (hd : d ∈ abc.cps.toList) (hne : g.cps.toList.getD 0 0 ≠ d) : goodNm (y ++ Txt.slice g (some 1) none) ∧ g ≠ y ++ Txt.slice g (some 1) none := by
  have hc : (y ++ Txt.slice g (some 1) none).cps.toList = d :: g.cps.toList.drop 1 := by
    rw [app_chars, hy, show (Txt.slice g (some 1) none).cps.toList = g.cps.toList.drop 1 from slice_from g 1]
    rfl
  have hl : (y ++ Txt.slice g (some 1) none).length = g.length := by
    rw [str_len, hc, str_len, List.length_cons, List.length_drop]
    have := hg.1
    rw [str_len] at this
    omega
  refine ⟨⟨by rw [hl]; exact hg.1, by rw [hl]; exact hg.2.1, fun c h => ?_⟩, fun e => ?_⟩
  · rw [hc] at h
    rcases List.mem_cons.mp h with rfl | h
    · exact hd
    · exact hg.2.2 c (List.mem_of_mem_drop h)
  · apply hne
    rw [e, hc]
    rfl
/-- d is told by v, whatever stands at a -/
def RepOff (a : Addr) (H : Hp) (d : PyData) (v : V) : Prop := ∀ o, Rep (upd H a o) d v
theorem same_upd {H H' : Hp} (s : Same H H') (a : Addr) (o : HO) : Same (upd H a o) (upd H' a o) := fun b u h => by
  by_cases e : b = a
  · rw [e, upd_same] at h ⊢; exact h
  · rw [upd_ne e] at h ⊢; exact s b u h
theorem RepOff.same {a : Addr} {H H' : Hp} {d : PyData} {v : V} (r : RepOff a H d v) (s : Same H H') : RepOff a H' d v := fun o => (r o).mono (same_upd s a o)
theorem RepOff.upd {a : Addr} {H : Hp} {d : PyData} {v : V} (r : RepOff a H d v) (o : HO) : RepOff a (L2.upd H a o) d v := fun u => by rw [upd_upd]; exact r u
theorem RepOff.rep {a : Addr} {H : Hp} {d : PyData} {v : V} {o : HO} (r : RepOff a H d v) (h : H a = some o) : Rep H d v := by
  have := r o
  rwa [show L2.upd H a o = H from by
    funext b
    by_cases e : b = a
    · rw [e, upd_same, h]
    · rw [upd_ne e]] at this
theorem RepOff.flat {a : Addr} {H : Hp} {d : PyData} {v : V} (h : ∀ H', Rep H' d v) : RepOff a H d v := fun _ => h _
def GoodLeg (l : Leg) : Prop := goodNm l.1 ∧ goodNm l.2.1 ∧ goodNm l.2.2.1 ∧ l.1 ≠ l.2.1 ∧ 1 ≤ l.2.2.2 ∧ l.2.2.2 < 10 ^ 60
def legDat (l : Leg) : PyData := .tuple [.str l.1, .str l.2.1, .str l.2.2.1, .int l.2.2.2]
theorem legDat_ok {l : Leg} (h : GoodLeg l) : legD (legDat l) = true := by
  unfold legDat
  rw [legD_four, name_good h.1, name_good h.2.1, name_good h.2.2.1, eqv_ne h.2.2.2.1, amountD_int, decide_eq_true ⟨h.2.2.2.2.1, h.2.2.2.2.2⟩]
  rfl
theorem legDat_okT {l : Leg} (h : GoodLeg l) : okT (legDat l) := by
  intro ds e x hx
  cases e
  have h1 := h.1.2.1
  have h2 := h.2.1.2.1
  have h3 := h.2.2.1.2.1
  simp only [List.mem_cons, List.not_mem_nil, or_false] at hx
  rcases hx with rfl | rfl | rfl | rfl
  · exact okS_len (by omega)
  · exact okS_len (by omega)
  · exact okS_len (by omega)
  · intro _ e; cases e
theorem legs_reps {H : Hp} : ∀ {ls : List Leg} {us : List V}, LegsAt H ls us → Reps H (ls.map legDat) us
  | [], _, .nil => rfl
  | l :: ls, _, .cons ⟨t, e, ht⟩ rest => ⟨_, _, rfl, ⟨t, _, e, ht, _, _, rfl, rfl, _, _, rfl, rfl, _, _, rfl, rfl, _, _, rfl, rfl, rfl⟩, legs_reps rest⟩
theorem reps_set {H : Hp} {d : PyData} {v : V} (r : Rep H d v) : ∀ {ds : List PyData} {us : List V} (i : Nat), Reps H ds us → Reps H (ds.set i d) (us.set i v)
  | [], _, _, h => by cases (show _ = [] from h); rfl
  | x :: ds, _, 0, ⟨u, rest, e, _, h2⟩ => by subst e; exact ⟨_, _, rfl, r, h2⟩
  | x :: ds, _, i + 1, ⟨u, rest, e, h1, h2⟩ => by subst e; exact ⟨_, _, rfl, h1, reps_set r i h2⟩
theorem legs_lay : ∀ {ls : List Leg}, (∀ l ∈ ls, GoodLeg l) → PyData.canLayAll0 (ls.map legDat) = true ∧ PyData.depthAll (ls.map legDat) ≤ 3
  | [], _ => ⟨rfl, by simp [PyData.depthAll]⟩
  | l :: ls, h => by
    obtain ⟨h1, h2⟩ := legs_lay fun x hx => h x (List.mem_cons_of_mem _ hx)
    obtain ⟨a1, a2, a3, _⟩ := h l List.mem_cons_self
    refine ⟨?_, ?_⟩
    · simp only [List.map_cons, PyData.canLayAll0, h1, Bool.and_true]
      simp [legDat, PyData.canLay0, PyData.canLayAll0, a1.ok, a2.ok, a3.ok]
    · simp only [List.map_cons, PyData.depthAll]
      have : (legDat l).depth ≤ 3 := by simp [legDat, PyData.depth, PyData.depthAll]
      omega
theorem shp_legs {ls : List Leg} (h : ∀ l ∈ ls, GoodLeg l) : Shp (.list (ls.map legDat)) := by
  obtain ⟨h1, h2⟩ := legs_lay h
  show SeqAt.shaped _ = true
  simp only [SeqAt.shaped, PyData.canLay0, PyData.depth, h1, Bool.true_and]
  exact decide_eq_true (by omega)
theorem shp_deal {x : Str} {ls : List Leg} (hx : goodNm x) (h : ∀ l ∈ ls, GoodLeg l) : Shp (.tuple [.str x, .tuple (ls.map legDat)]) := by
  obtain ⟨h1, h2⟩ := legs_lay h
  show SeqAt.shaped _ = true
  simp only [SeqAt.shaped, PyData.canLay0, PyData.canLayAll0, PyData.depth, PyData.depthAll, h1, hx.ok, Bool.true_and, Bool.and_true]
  exact decide_eq_true (by omega)
def okL (d : PyData) : Prop := ∀ ds, d = .list ds → ds.length ≤ 6000 ∧ ∀ e ∈ ds, okT e
def shelfD : PyData → Bool
  | .tuple [a, b] => nameD a && nameD b
  | _ => false
theorem shelfD_two (a b : PyData) : shelfD (.tuple [a, b]) = (nameD a && nameD b) := rfl
open PySem.NumText (AllDigits digitsVal)
def nameS (x : Str) : Bool := nameD (.str x)
theorem okS_big {x : Str} (h : x.length ≤ 5000) : okS (.str x) := by
  intro y e
  cases e
  have := sizeLine_big
  omega
def legT (x : Str) : Option Leg := match Txt.split x blank with
  | [a, b, c, n] => if numOk n then some (a, b, c, numV n) else none
  | _ => none
def legsT : List Str → Option (List Leg)
  | [] => some []
  | t :: ts => match legT t, legsT ts with
    | some l, some ls => some (l :: ls)
    | _, _ => none
theorem legsT_none : ∀ {ts : List Str} {i : Nat} {t : Str}, ts[i]? = some t → legT t = none → legsT ts = none
  | [], i, t, h, _ => by simp at h
  | s :: ts, 0, t, h, hn => by
    cases (show s = t by simpa using h)
    simp only [legsT, hn]
  | s :: ts, i + 1, t, h, hn => by
    have := legsT_none (ts := ts) (i := i) (by simpa using h) hn
    simp only [legsT, this]
    cases legT s <;> rfl
theorem legsT_snoc : ∀ {ts : List Str} {ls : List Leg} {t : Str} {l : Leg}, legsT ts = some ls → legT t = some l → legsT (ts ++ [t]) = some (ls ++ [l])
  | [], ls, t, l, h, hl => by
    cases h
    simp only [List.nil_append, legsT, hl]
  | s :: ts, ls, t, l, h, hl => by
    simp only [legsT] at h
    cases h1 : legT s with
    | none => rw [h1] at h; cases h
    | some l1 =>
      cases h2 : legsT ts with
      | none => rw [h1, h2] at h; cases h
      | some ls1 =>
        rw [h1, h2] at h
        cases h
        have := legsT_snoc h2 hl
        simp only [List.cons_append, legsT, h1, this]
theorem legsT_take {ts : List Str} {ls : List Leg} {t : Str} {l : Leg} {i : Nat} (h : legsT (ts.take i) = some ls) (ht : ts[i]? = some t) (hl : legT t = some l) : legsT (ts.take (i + 1)) = some (ls ++ [l]) := by
  rw [List.take_add_one, ht]
  exact legsT_snoc h hl
theorem legsT_len : ∀ {ts : List Str} {ls : List Leg}, legsT ts = some ls → ls.length = ts.length
  | [], ls, h => by cases h; rfl
  | s :: ts, ls, h => by
    simp only [legsT] at h
    cases h1 : legT s with
    | none => rw [h1] at h; cases h
    | some l1 =>
      cases h2 : legsT ts with
      | none => rw [h1, h2] at h; cases h
      | some ls1 =>
        rw [h1, h2] at h
        cases h
        simp [legsT_len h2]
theorem legT_okT {t : Str} {l : Leg} (h : legT t = some l) (ht : t.length ≤ 5000) : okT (legDat l) := by
  have hpt : ∀ v ∈ Txt.split t blank, v.length ≤ 5000 := fun v hv => Nat.le_trans (split_part (by decide +kernel) (by decide +kernel) hv) ht
  unfold legT at h
  generalize Txt.split t blank = ws at h hpt
  match ws, h, hpt with
  | [a, b, c, n], h, hpt =>
    have h : (if numOk n = true then some (a, b, c, numV n) else none) = some l := h
    cases hn : numOk n with
    | false => rw [hn] at h; cases h
    | true =>
      rw [hn] at h
      cases h
      intro ds e x hx
      cases e
      simp only [List.mem_cons, List.not_mem_nil, or_false] at hx
      rcases hx with rfl | rfl | rfl | rfl
      · exact okS_big (hpt _ (by simp))
      · exact okS_big (hpt _ (by simp))
      · exact okS_big (hpt _ (by simp))
      · intro _ e; cases e
  | [], h, _ => cases h
  | [_], h, _ => cases h
  | [_, _], h, _ => cases h
  | [_, _, _], h, _ => cases h
  | _ :: _ :: _ :: _ :: _ :: _, h, _ => cases h
theorem join_small (y : Str) (ws : List Str) : (ws.map (·.length)).sum ≤ ws.length * 5000 ∨ ∃ w ∈ ws, 5000 < w.length := by
  induction ws with
  | nil => exact .inl (by simp)
  | cons w ws ih =>
    by_cases hw : w.length ≤ 5000
    · rcases ih with ih | ⟨v, hv, h⟩
      · refine .inl ?_
        simp only [List.map_cons, List.sum_cons, List.length_cons]
        omega
      · exact .inr ⟨v, List.mem_cons_of_mem _ hv, h⟩
    · exact .inr ⟨w, List.mem_cons_self, by omega⟩
theorem glue_tail (y w : Str) (ws : List Str) : (glue y ws).length ≤ (glue y (w :: ws)).length := by
  cases ws with
  | nil => exact Nat.zero_le _
  | cons v vs =>
    show _ ≤ (w ++ y ++ glue y (v :: vs)).length
    rw [str_len, str_len (w ++ y ++ glue y (v :: vs)), app_chars, List.length_append]
    exact Nat.le_add_left _ _
theorem splG_ne (y : List Nat) : ∀ (k : Nat) (acc l : List Nat), (splG y k acc l).length ≠ 0
  | k, acc, [] => by cases k <;> simp [splG]
  | 0, acc, a :: r => by
    rw [splG_cons]
    split
    · simp
    · exact splG_ne y 0 _ r
  | k + 1, acc, a :: r => splG_ne y k acc r
/-- what a row tells -/
inductive DD where
  | lay (a b n : Str) | take (a b n : Str) | line (a b n : Str) | put (a b nm n : Str) | deal (nm : Str) (ls : List Leg) | off (nm : Str) | bell
def three (ok : Str → Bool) (mk : Str → Str → Str → DD) : List Str → Option DD
  | [a, b, n] => if nameS a && nameS b && ok n then some (mk a b n) else none
  | _ => none
def four : List Str → Option DD
  | [a, b, nm, n] => if nameS a && nameS b && nameS nm && numOk n then some (.put a b nm n) else none
  | _ => none
def offT (nm : Str) (rest : List Str) : Option DD := match legsT (Txt.split (Txt.join blank rest) comma) with
  | some ls => if legsD (.list (ls.map legDat)) && nameS nm then some (.deal nm ls) else none
  | none => none
def oneT : List Str → Option DD
  | [nm] => if nameS nm then some (.off nm) else none
  | _ => none
def noneT : List Str → Option DD
  | [] => some .bell
  | _ => none
theorem oneT_1 (nm : Str) : oneT [nm] = if nameS nm then some (.off nm) else none := rfl
def offs : List Str → Option DD
  | nm :: rest => offT nm rest
  | [] => none
theorem three_3 (ok : Str → Bool) (mk : Str → Str → Str → DD) (a b n : Str) : three ok mk [a, b, n] = if nameS a && nameS b && ok n then some (mk a b n) else none := rfl
theorem four_4 (a b nm n : Str) : four [a, b, nm, n] = if nameS a && nameS b && nameS nm && numOk n then some (.put a b nm n) else none := rfl
theorem offs_cons (nm : Str) (rest : List Str) : offs (nm :: rest) = offT nm rest := rfl
theorem put1_len (f : Str) (v : V) : (putF f v []).length < 1000 := by show 1 < 1000; decide
theorem put2_len (f g : Str) (v u : V) : (putF f v (putF g u [])).length < 1000 := by
  have := length_putF f v (putF g u [])
  have h : (putF g u []).length = 1 := rfl
  omega
theorem len_yes {ws : List Str} {n : Nat} (h : decide (V.int ((ws.map V.str).length : Nat) = V.int (n : Nat)) = true) : ws.length = n := by
  have := of_decide_eq_true h
  injection this with this
  rw [List.length_map] at this
  omega
theorem len_no {ws : List Str} {n : Nat} (h : decide (V.int ((ws.map V.str).length : Nat) = V.int (n : Nat)) = false) : ws.length ≠ n := fun e => by
  apply of_decide_eq_false h
  rw [List.length_map, e]
def insF (H : Hp) (C r : Addr) (fs : List (Str × V)) : Prop := ∃ dx, H r = some (.ins C dx fs)
def shF (sh : V) (nm : Str) (v : V) : List (Str × V) := putF nm v (putF "shelf" sh [])
def DeedAt (Ax : Ad) (H : Hp) (r : Addr) : DD → Prop
  | .lay a b n => ∃ t, insF H Ax.Lay r (shF (.ref t) "amount" (.int (numV n))) ∧ H t = some (.tup [.str a, .str b])
  | .take a b n => ∃ t, insF H Ax.Take r (shF (.ref t) "amount" (.int (numV n))) ∧ H t = some (.tup [.str a, .str b])
  | .line a b n => ∃ t, insF H Ax.Line r (shF (.ref t) "line" (.int (numV n))) ∧ H t = some (.tup [.str a, .str b])
  | .put a b nm n => ∃ t, insF H Ax.Put r (putF "place" (.int (numV n)) (putF "name" (.str nm) (putF "shelf" (.ref t) []))) ∧ H t = some (.tup [.str a, .str b])
  | .deal nm ls => ∃ t t2 us, insF H Ax.Offer r (putF "deal" (.ref t) []) ∧ H t = some (.tup [.str nm, .ref t2]) ∧ H t2 = some (.tup us) ∧ LegsAt H ls us
  | .off nm => insF H Ax.Off r (putF "name" (.str nm) [])
  | .bell => insF H Ax.Bell r []
def readT (w : Str) (r : List Str) : Option DD :=
  if w = Str.ofString "lay" then three amtOk .lay r else if w = Str.ofString "take" then three amtOk .take r else if w = Str.ofString "line" then three numOk .line r else if w = Str.ofString "put" then four r else if w = Str.ofString "deal" then offs r else if w = Str.ofString "off" then oneT r else if w = Str.ofString "bell" then noneT r else none
def parse (x : Str) : Option DD := match Txt.split x blank with
  | w :: r => readT w r
  | [] => none
instance (c : Nat) (x : Str) : Decidable (noC c x) := by unfold noC; infer_instance
theorem cut1 {s a x : Str} (h : s.cps.toList = a.cps.toList ++ [32]) : s ++ x = a ++ blank ++ x := by
  apply str_ext9
  simp only [app_chars, h, blank_are]
theorem app_assoc (a b c : Str) : a ++ b ++ c = a ++ (b ++ c) := by
  apply str_ext9
  simp only [app_chars, List.append_assoc]
theorem app_len (a b : Str) : (a ++ b).length = a.length + b.length := by rw [str_len, app_chars, List.length_append, ← str_len, ← str_len]
theorem abc_big {c : Nat} (h : c ∈ abc.cps.toList) : 97 ≤ c ∧ c ≤ 122 := by
  have : ∀ c ∈ abc.cps.toList, 97 ≤ c ∧ c ≤ 122 := by decide +kernel
  exact this c h
theorem good_noC {x : Str} {c : Nat} (h : goodNm x) (hc : c < 97) : noC c x := fun hm => by
  have := abc_big (h.2.2 c hm)
  omega
theorem good_name {x : Str} (h : goodNm x) : nameS x = true := name_good h
theorem figs_zero : figs 0 = nought := by decide +kernel
theorem figs_num {m : Nat} (h : m < 10 ^ 60) : numOk (figs m) = true ∧ numV (figs m) = m := by
  refine ⟨?_, by unfold numV; rw [figs_val]⟩
  have hl := figs_len (by decide) h
  have hn := figs_ne m
  have h1 : 1 ≤ (figs m).length := by
    rw [str_len]
    cases h9 : (figs m).cps.toList with
    | nil => exact absurd h9 hn
    | cons _ _ => simp
  unfold numOk
  rw [all_digits.mpr (figs_digits m), decide_eq_true ⟨h1, hl⟩, starts0]
  by_cases h0 : m = 0
  · rw [h0, decide_eq_true figs_zero]; rfl
  · have := figs_first h0
    have : (figs m).cps.toList.head? ≠ some 48 := fun e => by
      apply this
      cases h9 : (figs m).cps.toList with
      | nil => exact absurd h9 hn
      | cons a r => rw [h9] at e; cases e; rfl
    rw [decide_eq_false this]
    simp
theorem figs_noC {m c : Nat} (hc : c < 48) : noC c (figs m) := digits_noC (figs_digits m) hc
def legTxt (l : Leg) : Str := l.1 ++ blank ++ l.2.1 ++ blank ++ l.2.2.1 ++ blank ++ figs l.2.2.2.toNat
theorem legT_txt {l : Leg} (h : GoodLeg l) : legT (legTxt l) = some l := by
  obtain ⟨h1, h2, h3, _, h5, h6⟩ := h
  have hm : l.2.2.2.toNat < 10 ^ 60 := by omega
  have e : legTxt l = l.1 ++ blank ++ (l.2.1 ++ blank ++ (l.2.2.1 ++ blank ++ figs l.2.2.2.toNat)) := by unfold legTxt; simp only [app_assoc]
  unfold legT
  rw [e, split_cons (good_noC h1 (by decide)), split_cons (good_noC h2 (by decide)), split_cons (good_noC h3 (by decide)), split_one (figs_noC (by decide))]
  show (if numOk (figs l.2.2.2.toNat) = true then some (l.1, l.2.1, l.2.2.1, numV (figs l.2.2.2.toNat)) else none) = some l
  rw [(figs_num hm).1, (figs_num hm).2, if_pos rfl, Int.toNat_of_nonneg (by omega)]
theorem legTxt_len {l : Leg} (h : GoodLeg l) : (legTxt l).length ≤ 100 := by
  obtain ⟨h1, h2, h3, _, h5, h6⟩ := h
  have hm : l.2.2.2.toNat < 10 ^ 60 := by omega
  have hb : blank.length = 1 := by decide +kernel
  have hl := figs_len (by decide) hm
  have a1 := h1.2.1
  have a2 := h2.2.1
  have a3 := h3.2.1
  unfold legTxt
  simp only [app_len, hb]
  omega
theorem legTxt_noC {l : Leg} (h : GoodLeg l) : noC 44 (legTxt l) := by
  obtain ⟨h1, h2, h3, _, h5, h6⟩ := h
  unfold legTxt noC
  simp only [app_chars, List.mem_append, blank_are, List.mem_singleton]
  rintro ((((((z | z) | z) | z) | z) | z) | z)
  · exact good_noC h1 (by decide) z
  · cases z
  · exact good_noC h2 (by decide) z
  · cases z
  · exact good_noC h3 (by decide) z
  · cases z
  · exact figs_noC (by decide) z
theorem legsT_txt : ∀ {ls : List Leg}, (∀ l ∈ ls, GoodLeg l) → legsT (ls.map legTxt) = some ls
  | [], _ => rfl
  | l :: ls, h => by
    simp only [List.map_cons, legsT, legT_txt (h l List.mem_cons_self), legsT_txt fun x hx => h x (List.mem_cons_of_mem _ hx)]
theorem legs_all {ls : List Leg} (h : ∀ l ∈ ls, GoodLeg l) (h1 : 1 ≤ ls.length) (h8 : ls.length ≤ 8) : legsD (.list (ls.map legDat)) = true := by
  rw [legsD_list, List.length_map, decide_eq_true ⟨h1, h8⟩, Bool.true_and, List.all_map, List.all_eq_true]
  exact fun l hl => legDat_ok (h l hl)
def frontS (a b : Str) : Str := a ++ blank ++ b ++ blank
def textD : DD → Str
  | .lay a b n => Str.ofString "lay " ++ frontS a b ++ n
  | .take a b n => Str.ofString "take " ++ frontS a b ++ n
  | .line a b n => Str.ofString "line " ++ frontS a b ++ n
  | .deal nm ls => Str.ofString "deal " ++ nm ++ blank ++ Txt.join comma (ls.map legTxt)
  | .off nm => Str.ofString "off " ++ nm
  | .put a b nm n => Str.ofString "put " ++ frontS a b ++ nm ++ blank ++ n
  | .bell => Str.ofString "bell"
def numG (lo : Nat) (n : Str) : Prop := ∃ m : Nat, n = figs m ∧ lo ≤ m ∧ m < 10 ^ 60
def GoodDD : DD → Prop
  | .lay a b n => goodNm a ∧ goodNm b ∧ numG 1 n
  | .take a b n => goodNm a ∧ goodNm b ∧ numG 1 n
  | .line a b n => goodNm a ∧ goodNm b ∧ numG 0 n
  | .deal nm ls => goodNm nm ∧ 1 ≤ ls.length ∧ ls.length ≤ 8 ∧ ∀ l ∈ ls, GoodLeg l
  | .off nm => goodNm nm
  | .put a b nm n => goodNm a ∧ goodNm b ∧ goodNm nm ∧ numG 0 n
  | .bell => True
theorem numG.noC {lo : Nat} {n : Str} {c : Nat} (h : numG lo n) (hc : c < 48) : noC c n := by
  obtain ⟨m, rfl, _, _⟩ := h
  exact figs_noC hc
theorem numG.ok {lo : Nat} {n : Str} (h : numG lo n) : numOk n = true := by
  obtain ⟨m, rfl, _, h2⟩ := h
  exact (figs_num h2).1
theorem numG.amt {n : Str} (h : numG 1 n) : amtOk n = true := by
  obtain ⟨m, rfl, h1, h2⟩ := h
  unfold amtOk
  rw [(figs_num h2).1, (figs_num h2).2, decide_eq_true (by omega)]
  rfl
theorem numG.len {lo : Nat} {n : Str} (h : numG lo n) : n.length ≤ 60 := by
  obtain ⟨m, rfl, _, h2⟩ := h
  exact figs_len (by decide) h2
theorem first_word {s w x : Str} (h : s.cps.toList = w.cps.toList ++ [32]) (hw : noC 32 w) : Txt.split (s ++ x) blank = w :: Txt.split x blank := by rw [cut1 h, split_cons hw]
theorem front_split {a b x : Str} (ha : goodNm a) (hb : goodNm b) : Txt.split (frontS a b ++ x) blank = a :: b :: Txt.split x blank := by
  have e : frontS a b ++ x = a ++ blank ++ (b ++ blank ++ x) := by unfold frontS; simp only [app_assoc]
  rw [e, split_cons (good_noC ha (by decide)), split_cons (good_noC hb (by decide))]
theorem text_reads {d : DD} (h : GoodDD d) : ∃ wd r, Txt.split (textD d) blank = wd :: r ∧ (wd = Str.ofString "lay" ∨ wd = Str.ofString "take" ∨ wd = Str.ofString "line" ∨ wd = Str.ofString "put" ∨ (wd = Str.ofString "deal" ∧ r ≠ []) ∨ wd = Str.ofString "off" ∨ wd = Str.ofString "bell") ∧ readT wd r = some d := by
  cases d with
  | lay a b n =>
    obtain ⟨ha, hb, hn⟩ := h
    refine ⟨_, _, by simp only [textD]; rw [app_assoc, first_word (w := Str.ofString "lay") (by decide +kernel) (by decide +kernel), front_split ha hb, split_one (hn.noC (by decide))], .inl rfl, ?_⟩
    unfold readT
    rw [if_pos rfl, three_3, good_name ha, good_name hb, hn.amt]
    rfl
  | take a b n =>
    obtain ⟨ha, hb, hn⟩ := h
    refine ⟨_, _, by simp only [textD]; rw [app_assoc, first_word (w := Str.ofString "take") (by decide +kernel) (by decide +kernel), front_split ha hb, split_one (hn.noC (by decide))], .inr (.inl rfl), ?_⟩
    unfold readT
    rw [if_neg (by decide +kernel), if_pos rfl, three_3, good_name ha, good_name hb, hn.amt]
    rfl
  | line a b n =>
    obtain ⟨ha, hb, hn⟩ := h
    refine ⟨_, _, by simp only [textD]; rw [app_assoc, first_word (w := Str.ofString "line") (by decide +kernel) (by decide +kernel), front_split ha hb, split_one (hn.noC (by decide))], .inr (.inr (.inl rfl)), ?_⟩
    unfold readT
    rw [if_neg (by decide +kernel), if_neg (by decide +kernel), if_pos rfl, three_3, good_name ha, good_name hb, hn.ok]
    rfl
  | put a b nm n =>
    obtain ⟨ha, hb, hm, hn⟩ := h
    refine ⟨_, _, by simp only [textD]; rw [app_assoc, app_assoc, app_assoc, first_word (w := Str.ofString "put") (by decide +kernel) (by decide +kernel), front_split ha hb, ← app_assoc, split_cons (good_noC hm (by decide)), split_one (hn.noC (by decide))], .inr (.inr (.inr (.inl rfl))), ?_⟩
    unfold readT
    rw [if_neg (by decide +kernel), if_neg (by decide +kernel), if_neg (by decide +kernel), if_pos rfl, four_4, good_name ha, good_name hb, good_name hm, hn.ok]
    rfl
  | deal nm ls =>
    obtain ⟨hm, h1, h8, hg⟩ := h
    refine ⟨_, _, by simp only [textD]; rw [app_assoc, app_assoc, first_word (w := Str.ofString "deal") (by decide +kernel) (by decide +kernel), ← app_assoc, split_cons (good_noC hm (by decide))], .inr (.inr (.inr (.inr (.inl ⟨rfl, List.cons_ne_nil _ _⟩)))), ?_⟩
    unfold readT
    rw [if_neg (by decide +kernel), if_neg (by decide +kernel), if_neg (by decide +kernel), if_neg (by decide +kernel), if_pos rfl, offs_cons]
    unfold offT
    have hne : ls.map legTxt ≠ [] := fun e => by
      have := congrArg List.length e
      rw [List.length_map] at this
      simp at this
      rw [this] at h1
      simp at h1
    rw [join_split, split_comma hne (fun t ht => by obtain ⟨l, hl, rfl⟩ := List.mem_map.mp ht; exact legTxt_noC (hg l hl)), legsT_txt hg]
    show (if (legsD (.list (ls.map legDat)) && nameS nm) = true then some (DD.deal nm ls) else none) = _
    rw [legs_all hg h1 h8, good_name hm]
    rfl
  | off nm =>
    refine ⟨_, _, by simp only [textD]; rw [first_word (w := Str.ofString "off") (by decide +kernel) (by decide +kernel), split_one (good_noC h (by decide))], .inr (.inr (.inr (.inr (.inr (.inl rfl))))), ?_⟩
    unfold readT
    rw [if_neg (by decide +kernel), if_neg (by decide +kernel), if_neg (by decide +kernel), if_neg (by decide +kernel), if_neg (by decide +kernel), if_pos rfl, oneT_1, good_name h]
    rfl
  | bell =>
    refine ⟨_, _, by simp only [textD]; rw [split_one (by decide +kernel)], .inr (.inr (.inr (.inr (.inr (.inr rfl))))), ?_⟩
    unfold readT
    rw [if_neg (by decide +kernel), if_neg (by decide +kernel), if_neg (by decide +kernel), if_neg (by decide +kernel), if_neg (by decide +kernel), if_neg (by decide +kernel), if_pos rfl]
    rfl
theorem join_len {ls : List Leg} (h : ∀ l ∈ ls, GoodLeg l) : (Txt.join comma (ls.map legTxt)).length ≤ ls.length * 102 ∧ ((ls.map legTxt).map (·.length)).sum ≤ ls.length * 100 := by
  have hsum : ∀ {ls : List Leg}, (∀ l ∈ ls, GoodLeg l) → ((ls.map legTxt).map (·.length)).sum ≤ ls.length * 100 := fun {ls} => by
    induction ls with
    | nil => intro; simp
    | cons t ts ih =>
      intro h
      have h1 := legTxt_len (h t List.mem_cons_self)
      have h2 := ih fun z hz => h z (List.mem_cons_of_mem _ hz)
      simp only [List.map_cons, List.sum_cons, List.length_cons]
      omega
  have hs := hsum h
  have hcl : comma.length = 2 := by decide +kernel
  have hjl := StrLaws.join_length_le comma (ls.map legTxt)
  have hje : Txt.join comma (ls.map legTxt) = Str.join comma (ls.map legTxt) := by unfold Txt.join; rw [StrLaws.glued_eq_join]
  rw [← hje, hcl, List.length_map] at hjl
  exact ⟨by omega, hs⟩
theorem text_len {d : DD} (h : GoodDD d) : (textD d).length ≤ 1000 := by
  have hb : blank.length = 1 := by decide +kernel
  cases d with
  | lay a b n =>
    obtain ⟨ha, hb', hn⟩ := h
    have := ha.2.1; have := hb'.2.1; have := hn.len
    simp only [textD, frontS, app_len, hb, show (Str.ofString "lay ").length = 4 from by decide +kernel]
    omega
  | take a b n =>
    obtain ⟨ha, hb', hn⟩ := h
    have := ha.2.1; have := hb'.2.1; have := hn.len
    simp only [textD, frontS, app_len, hb, show (Str.ofString "take ").length = 5 from by decide +kernel]
    omega
  | line a b n =>
    obtain ⟨ha, hb', hn⟩ := h
    have := ha.2.1; have := hb'.2.1; have := hn.len
    simp only [textD, frontS, app_len, hb, show (Str.ofString "line ").length = 5 from by decide +kernel]
    omega
  | put a b nm n =>
    obtain ⟨ha, hb', hm, hn⟩ := h
    have := ha.2.1; have := hb'.2.1; have := hm.2.1; have := hn.len
    simp only [textD, frontS, app_len, hb, show (Str.ofString "put ").length = 4 from by decide +kernel]
    omega
  | deal nm ls =>
    obtain ⟨hm, h1, h8, hg⟩ := h
    have := hm.2.1
    have := (join_len hg).1
    simp only [textD, app_len, hb, show (Str.ofString "deal ").length = 5 from by decide +kernel]
    omega
  | off nm =>
    have h8 : nm.length ≤ 8 := h.2.1
    simp only [textD, app_len, show (Str.ofString "off ").length = 4 from by decide +kernel]
    omega
  | bell => simp only [textD]; decide +kernel
def kindN : DD → Nat
  | .lay .. => 0 | .take .. => 1 | .line .. => 2 | .deal .. => 3 | .off .. => 4 | .put .. => 5 | .bell => 6
def thingsD : DD → PyData
  | .lay a b n => .tuple [.tuple [.str a, .str b], .int (numV n)]
  | .take a b n => .tuple [.tuple [.str a, .str b], .int (numV n)]
  | .line a b n => .tuple [.tuple [.str a, .str b], .int (numV n)]
  | .deal nm ls => .tuple [.tuple [.str nm, .tuple (ls.map legDat)]]
  | .off nm => .tuple [.str nm]
  | .put a b nm n => .tuple [.tuple [.str a, .str b], .str nm, .int (numV n)]
  | .bell => .tuple []
def someW : List Str := [Str.ofString "lay", Str.ofString "take", Str.ofString "line", Str.ofString "deal", Str.ofString "off", Str.ofString "put", Str.ofString "bell", Str.ofString "back", Str.ofString "most", Str.ofString "none", Str.ofString "short", Str.ofString "behind", Str.ofString "row"]
instance (x : Str) : Decidable (goodNm x) := by unfold goodNm; infer_instance
theorem someW_good : ∀ x ∈ someW, goodNm x := by decide +kernel
theorem numV_figs {m : Int} (h0 : 0 ≤ m) (h : m < 10 ^ 60) : numV (figs m.toNat) = m := by
  rw [(figs_num (by omega)).2, Int.toNat_of_nonneg h0]
theorem rep_two {H : Hp} {sh : Addr} {a b : Str} (h : H sh = some (.tup [.str a, .str b])) : Rep H (.tuple [.str a, .str b]) (.ref sh) := ⟨sh, _, rfl, h, _, _, rfl, rfl, _, _, rfl, rfl, rfl⟩
theorem numG_of {lo : Nat} {m : Int} (h0 : (lo : Int) ≤ m) (h : m < 10 ^ 60) : numG lo (figs m.toNat) := ⟨m.toNat, rfl, by omega, by omega⟩
def WordV (v : V) (y : Str) : Prop := v = .str y ∨ ∃ i : Int, v = .int i ∧ i.natAbs.log2 < 1920 ∧ y = Str.ofString (toString i)
theorem num_word {n : Str} {lo : Nat} (h : numG lo n) : WordV (.int (numV n)) n := by
  obtain ⟨m, rfl, _, h2⟩ := h
  refine .inr ⟨_, rfl, ?_, ?_⟩
  · rw [(figs_num h2).2]
    exact figs_log (Int.natCast_nonneg _) (by omega)
  · rw [(figs_num h2).2, figs_of (Int.natCast_nonneg _), Int.toNat_natCast]
theorem sum_le {ys : List Str} {c : Nat} (h : ∀ y ∈ ys, y.length ≤ c) : (ys.map (·.length)).sum ≤ ys.length * c := by
  induction ys with
  | nil => simp
  | cons y ys ih =>
    have h1 := h y List.mem_cons_self
    have h2 := ih fun z hz => h z (List.mem_cons_of_mem _ hz)
    simp only [List.map_cons, List.sum_cons, List.length_cons]
    rw [Nat.add_mul]
    omega
theorem join4 {s w a b n : Str} (h : s.cps.toList = w.cps.toList ++ [32]) : Txt.join blank [w, a, b, n] = s ++ frontS a b ++ n := by
  rw [join_glue]
  show w ++ blank ++ (a ++ blank ++ (b ++ blank ++ n)) = _
  apply str_ext9
  simp only [frontS, app_chars, h, blank_are, List.append_assoc, List.cons_append, List.nil_append]
theorem join5 {s w a b nm n : Str} (h : s.cps.toList = w.cps.toList ++ [32]) : Txt.join blank [w, a, b, nm, n] = s ++ frontS a b ++ nm ++ blank ++ n := by
  rw [join_glue]
  show w ++ blank ++ (a ++ blank ++ (b ++ blank ++ (nm ++ blank ++ n))) = _
  apply str_ext9
  simp only [frontS, app_chars, h, blank_are, List.append_assoc, List.cons_append, List.nil_append]
theorem join2 {s w a : Str} (h : s.cps.toList = w.cps.toList ++ [32]) : Txt.join blank [w, a] = s ++ a := by
  rw [join_glue]
  show w ++ blank ++ a = _
  apply str_ext9
  simp only [app_chars, h, blank_are]
theorem join3 {s w a b : Str} (h : s.cps.toList = w.cps.toList ++ [32]) : Txt.join blank [w, a, b] = s ++ a ++ blank ++ b := by
  rw [join_glue]
  show w ++ blank ++ (a ++ blank ++ b) = _
  apply str_ext9
  simp only [app_chars, h, blank_are, List.append_assoc, List.cons_append, List.nil_append]
theorem leg_join (l : Leg) : Txt.join blank [l.1, l.2.1, l.2.2.1, figs l.2.2.2.toNat] = legTxt l := by
  rw [join_glue]
  show l.1 ++ blank ++ (l.2.1 ++ blank ++ (l.2.2.1 ++ blank ++ figs l.2.2.2.toNat)) = _
  unfold legTxt
  simp only [app_assoc]
theorem DeedAt.same {H H' : Hp} {r : Addr} {d : DD} (h : DeedAt Ax H r d) (s : Same H H') : DeedAt Ax H' r d := by
  cases d with
  | lay a b n => obtain ⟨t, ⟨dx, e⟩, ht⟩ := h; exact ⟨t, ⟨dx, s _ _ e⟩, s _ _ ht⟩
  | take a b n => obtain ⟨t, ⟨dx, e⟩, ht⟩ := h; exact ⟨t, ⟨dx, s _ _ e⟩, s _ _ ht⟩
  | line a b n => obtain ⟨t, ⟨dx, e⟩, ht⟩ := h; exact ⟨t, ⟨dx, s _ _ e⟩, s _ _ ht⟩
  | put a b nm n => obtain ⟨t, ⟨dx, e⟩, ht⟩ := h; exact ⟨t, ⟨dx, s _ _ e⟩, s _ _ ht⟩
  | deal nm ls => obtain ⟨t, t2, us, ⟨dx, e⟩, ht, ht2, hL⟩ := h; exact ⟨t, t2, us, ⟨dx, s _ _ e⟩, s _ _ ht, s _ _ ht2, hL.same s⟩
  | off nm => obtain ⟨dx, e⟩ := h; exact ⟨dx, s _ _ e⟩
  | bell => obtain ⟨dx, e⟩ := h; exact ⟨dx, s _ _ e⟩
theorem fold_ge : ∀ (cs : List Nat) (acc : Nat), acc ≤ cs.foldl (fun acc c => acc * 10 + (c - 48)) acc
  | [], acc => Nat.le_refl _
  | c :: cs, acc => by
    have := fold_ge cs (acc * 10 + (c - 48))
    rw [List.foldl_cons]
    omega
theorem numV_pos {x : Str} (hd : AllDigits x.cps.toList) (h : x.cps.toList.head? ≠ some 48) (hne : x.cps.toList ≠ []) : 1 ≤ numV x := by
  unfold numV digitsVal
  generalize x.cps.toList = l at *
  cases l with
  | nil => exact absurd rfl hne
  | cons c cs =>
    have := fold_ge cs (0 * 10 + (c - 48))
    have h1 := hd c List.mem_cons_self
    have h2 : c ≠ 48 := fun e => h (by rw [e]; rfl)
    rw [List.foldl_cons]
    omega
theorem first_48 {x : Str} (hne : x.cps.toList ≠ []) : V.str (⟨#[x.cps.toList.getD (0 : Int).toNat 0]⟩ : Str) = V.str (Str.ofString "0") ↔ x.cps.toList.head? = some 48 := by
  have hn : Str.ofString "0" = (⟨#[48]⟩ : Str) := by decide +kernel
  rw [hn]
  generalize x.cps.toList = l at hne
  cases l with
  | nil => exact absurd rfl hne
  | cons d r =>
    show V.str (⟨#[d]⟩ : Str) = V.str (⟨#[48]⟩ : Str) ↔ some d = some 48
    simp
theorem num_amt {x : Str} (h : x ≠ nought) : amtOk x = numOk x := by
  unfold amtOk
  cases hn : numOk x with
  | false => rfl
  | true =>
    obtain ⟨h1, h2, h3⟩ := numOk_digits hn
    have h0 : x.cps.toList.head? ≠ some 48 := by
      unfold numOk at hn
      simp only [Bool.and_eq_true, Bool.or_eq_true, decide_eq_true_eq, Bool.not_eq_true'] at hn
      rcases hn.2 with z | z
      · exact absurd z h
      · rw [starts0, decide_eq_false_iff_not] at z
        exact z
    rw [decide_eq_true (numV_pos h1 h0 h2)]
    rfl
theorem fig_res {x : Str} {b : Int} (h : x ≠ nought) : (if b = 0 then numOk x else amtOk x) = numOk x := by
  by_cases hb : b = 0
  · rw [if_pos hb]
  · rw [if_neg hb, num_amt h]
theorem num_no {x : Str} (h : ¬ (1 ≤ x.length ∧ x.length ≤ 60)) : numOk x = false := by
  unfold numOk
  rw [decide_eq_false h]
  rfl
theorem isIn_iff {c : Nat} : isIn c = true ↔ c ∈ abc.cps.toList := by
  unfold isIn
  rw [StrLaws.found_one, decide_eq_true_eq]
  rfl
theorem name_back {x : Str} (h : nameS x = true) : goodNm x := by
  unfold nameS at h
  rw [nameD_str, Bool.and_eq_true, decide_eq_true_eq, List.all_eq_true] at h
  exact ⟨h.1.1, h.1.2, fun c hc => isIn_iff.mp (h.2 c hc)⟩
theorem num_back {n : Str} (h : numOk n = true) : n = figs (numV n).toNat ∧ numG 0 n := by
  obtain ⟨h1, h2, h3⟩ := numOk_digits h
  have hs := numV_small h
  have h0 : n.length = 1 ∨ n.cps.toList.getD 0 0 ≠ 48 := by
    unfold numOk at h
    simp only [Bool.and_eq_true, Bool.or_eq_true, decide_eq_true_eq, Bool.not_eq_true'] at h
    rcases h.2 with h | h
    · left
      rw [h]
      decide +kernel
    · right
      rw [starts0, decide_eq_false_iff_not] at h
      cases hc : n.cps.toList with
      | nil => exact absurd hc h2
      | cons c cs =>
        rw [hc] at h
        intro e
        exact h (by rw [show c = 48 from e]; rfl)
  have e : figs (digitsVal n.cps.toList) = n := figs_back h1 h2 h0
  have e2 : (numV n).toNat = digitsVal n.cps.toList := by unfold numV; rw [Int.toNat_natCast]
  refine ⟨by rw [e2, e], digitsVal n.cps.toList, e.symm, Nat.zero_le _, ?_⟩
  have := hs.2
  unfold numV at this
  omega
theorem amt_back {n : Str} (h : amtOk n = true) : numG 1 n := by
  unfold amtOk at h
  rw [Bool.and_eq_true, decide_eq_true_eq] at h
  obtain ⟨e, m, rfl, _, hm⟩ := num_back h.1
  refine ⟨m, rfl, ?_, hm⟩
  have := h.2
  rw [(figs_num hm).2] at this
  omega
theorem eqv_no {a b : Str} (h : PyData.eqv (.str a) (.str b) = false) : a ≠ b := fun e => by rw [e, eqv_self] at h; cases h
theorem legT_back {t : Str} {l : Leg} (h : legT t = some l) (hok : legD (legDat l) = true) : GoodLeg l ∧ legTxt l = t := by
  have hj := join_split t blank
  unfold legT at h
  generalize Txt.split t blank = ws at h hj
  match ws, h, hj with
  | [a, b, c, n], h, hj =>
    have h : (if numOk n = true then some (a, b, c, numV n) else none) = some l := h
    cases hn : numOk n with
    | false => rw [hn] at h; cases h
    | true =>
      rw [hn] at h
      cases h
      unfold legDat at hok
      rw [legD_four, amountD_int] at hok
      simp only [Bool.and_eq_true, Bool.not_eq_true', decide_eq_true_eq] at hok
      obtain ⟨⟨⟨⟨h1, h2⟩, h3⟩, h4⟩, h5⟩ := hok
      refine ⟨⟨name_back h1, name_back h2, name_back h3, eqv_no h4, h5.1, h5.2⟩, ?_⟩
      rw [← hj, join_glue]
      show a ++ blank ++ b ++ blank ++ c ++ blank ++ figs (numV n).toNat = a ++ blank ++ (b ++ blank ++ (c ++ blank ++ n))
      rw [← (num_back hn).1]
      simp only [app_assoc]
  | [], h, _ => cases h
  | [_], h, _ => cases h
  | [_, _], h, _ => cases h
  | [_, _, _], h, _ => cases h
  | _ :: _ :: _ :: _ :: _ :: _, h, _ => cases h
theorem legsT_back : ∀ {ts : List Str} {ls : List Leg}, legsT ts = some ls → (∀ l ∈ ls, legD (legDat l) = true) → (∀ l ∈ ls, GoodLeg l) ∧ ls.map legTxt = ts
  | [], ls, h, _ => by cases h; exact ⟨(fun _ h => nomatch h), rfl⟩
  | t :: ts, ls, h, hd => by
    simp only [legsT] at h
    cases h1 : legT t with
    | none => rw [h1] at h; cases h
    | some l1 =>
      cases h2 : legsT ts with
      | none => rw [h1, h2] at h; cases h
      | some ls1 =>
        rw [h1, h2] at h
        cases h
        obtain ⟨g1, e1⟩ := legT_back h1 (hd l1 List.mem_cons_self)
        obtain ⟨g2, e2⟩ := legsT_back h2 fun l hl => hd l (List.mem_cons_of_mem _ hl)
        refine ⟨fun l hl => ?_, by rw [List.map_cons, e1, e2]⟩
        rcases List.mem_cons.mp hl with rfl | hl
        · exact g1
        · exact g2 l hl
theorem three_some {ok : Str → Bool} {mk : Str → Str → Str → DD} {r : List Str} {d : DD} (h : three ok mk r = some d) : ∃ a b n, r = [a, b, n] ∧ nameS a = true ∧ nameS b = true ∧ ok n = true ∧ d = mk a b n := by
  match r, h with
  | [a, b, n], h =>
    rw [three_3] at h
    cases h1 : nameS a && nameS b && ok n with
    | false => rw [h1] at h; cases h
    | true =>
      rw [h1] at h
      cases h
      simp only [Bool.and_eq_true] at h1
      exact ⟨a, b, n, rfl, h1.1.1, h1.1.2, h1.2, rfl⟩
  | [], h => cases h
  | [_], h => cases h
  | [_, _], h => cases h
  | _ :: _ :: _ :: _ :: _, h => cases h
theorem four_some {r : List Str} {d : DD} (h : four r = some d) : ∃ a b nm n, r = [a, b, nm, n] ∧ nameS a = true ∧ nameS b = true ∧ nameS nm = true ∧ numOk n = true ∧ d = .put a b nm n := by
  match r, h with
  | [a, b, nm, n], h =>
    rw [four_4] at h
    cases h1 : nameS a && nameS b && nameS nm && numOk n with
    | false => rw [h1] at h; cases h
    | true =>
      rw [h1] at h
      cases h
      simp only [Bool.and_eq_true] at h1
      exact ⟨a, b, nm, n, rfl, h1.1.1.1, h1.1.1.2, h1.1.2, h1.2, rfl⟩
  | [], h => cases h
  | [_], h => cases h
  | [_, _], h => cases h
  | [_, _, _], h => cases h
  | _ :: _ :: _ :: _ :: _ :: _, h => cases h
theorem parse_sound {x : Str} {d : DD} (h : parse x = some d) : GoodDD d ∧ textD d = x := by
  have hj := join_split x blank
  unfold parse at h
  generalize Txt.split x blank = ws at h hj
  cases ws with
  | nil => cases h
  | cons wd r =>
    have h : readT wd r = some d := h
    unfold readT at h
    by_cases w1 : wd = Str.ofString "lay"
    · rw [if_pos w1] at h
      obtain ⟨a, b, n, rfl, ha, hb, hn, rfl⟩ := three_some h
      refine ⟨⟨name_back ha, name_back hb, amt_back hn⟩, ?_⟩
      rw [← hj, w1]
      exact (join4 (s := Str.ofString "lay ") (by decide +kernel)).symm
    rw [if_neg w1] at h
    by_cases w2 : wd = Str.ofString "take"
    · rw [if_pos w2] at h
      obtain ⟨a, b, n, rfl, ha, hb, hn, rfl⟩ := three_some h
      refine ⟨⟨name_back ha, name_back hb, amt_back hn⟩, ?_⟩
      rw [← hj, w2]
      exact (join4 (s := Str.ofString "take ") (by decide +kernel)).symm
    rw [if_neg w2] at h
    by_cases w3 : wd = Str.ofString "line"
    · rw [if_pos w3] at h
      obtain ⟨a, b, n, rfl, ha, hb, hn, rfl⟩ := three_some h
      refine ⟨⟨name_back ha, name_back hb, (num_back hn).2⟩, ?_⟩
      rw [← hj, w3]
      exact (join4 (s := Str.ofString "line ") (by decide +kernel)).symm
    rw [if_neg w3] at h
    by_cases w4 : wd = Str.ofString "put"
    · rw [if_pos w4] at h
      obtain ⟨a, b, nm, n, rfl, ha, hb, hm, hn, rfl⟩ := four_some h
      refine ⟨⟨name_back ha, name_back hb, name_back hm, (num_back hn).2⟩, ?_⟩
      rw [← hj, w4]
      exact (join5 (s := Str.ofString "put ") (by decide +kernel)).symm
    rw [if_neg w4] at h
    by_cases w5 : wd = Str.ofString "deal"
    · rw [if_pos w5] at h
      cases r with
      | nil => cases h
      | cons nm rest =>
        rw [offs_cons] at h
        unfold offT at h
        have hj2 := join_split (Txt.join blank rest) comma
        have hne : Txt.split (Txt.join blank rest) comma ≠ [] := fun e => by
          have := congrArg List.length (split_eq (Txt.join blank rest) comma (by decide +kernel) (by decide +kernel))
          rw [e] at this
          exact absurd this.symm (splG_ne _ _ _ _)
        generalize Txt.split (Txt.join blank rest) comma = ts at h hj2 hne
        cases hl : legsT ts with
        | none => rw [hl] at h; cases h
        | some ls =>
          rw [hl] at h
          have h : (if (legsD (.list (ls.map legDat)) && nameS nm) = true then some (DD.deal nm ls) else none) = some d := h
          cases hc : legsD (.list (ls.map legDat)) && nameS nm with
          | false => rw [hc] at h; cases h
          | true =>
            rw [hc] at h
            cases h
            rw [Bool.and_eq_true, legsD_list, Bool.and_eq_true, decide_eq_true_eq, List.length_map, List.all_map, List.all_eq_true] at hc
            obtain ⟨g, e⟩ := legsT_back hl hc.1.2
            refine ⟨⟨name_back hc.2, hc.1.1.1, hc.1.1.2, g⟩, ?_⟩
            have hr : rest ≠ [] := fun e0 => by
              subst e0
              have : legsT ts = none := by
                have e1 : ts = [Str.empty] := by
                  have := split_comma hne ?_
                  · rw [← this, hj2]; decide +kernel
                  · intro t ht
                    rw [← e] at ht
                    obtain ⟨l, hl', rfl⟩ := List.mem_map.mp ht
                    exact legTxt_noC (g l hl')
                rw [e1]
                decide +kernel
              rw [this] at hl
              cases hl
            show Str.ofString "deal " ++ nm ++ blank ++ Txt.join comma (ls.map legTxt) = x
            rw [e, hj2, ← hj, w5, join_glue, join_glue]
            obtain ⟨v, vs, rfl⟩ := List.exists_cons_of_ne_nil hr
            show _ = Str.ofString "deal" ++ blank ++ (nm ++ blank ++ glue blank (v :: vs))
            rw [app_assoc, app_assoc, cut1 (a := Str.ofString "deal") (by decide +kernel), ← app_assoc nm]
    rw [if_neg w5] at h
    by_cases w6 : wd = Str.ofString "off"
    · rw [if_pos w6] at h
      match r, h, hj with
      | [nm], h, hj =>
        rw [oneT_1] at h
        cases hn : nameS nm with
        | false => rw [hn] at h; cases h
        | true =>
          rw [hn] at h
          cases h
          refine ⟨name_back hn, ?_⟩
          rw [← hj, w6]
          exact (join2 (s := Str.ofString "off ") (by decide +kernel)).symm
      | [], h, _ => cases h
      | _ :: _ :: _, h, _ => cases h
    rw [if_neg w6] at h
    by_cases w7 : wd = Str.ofString "bell"
    · rw [if_pos w7] at h
      match r, h, hj with
      | [], h, hj =>
        cases h
        refine ⟨trivial, ?_⟩
        rw [← hj, w7, join_glue]
        rfl
      | _ :: _, h, _ => cases h
    rw [if_neg w7] at h
    cases h
def legG (x : Str) : Bool := match legT x with
  | some l => legD (legDat l)
  | none => false
theorem offs_one (nm : Str) : offs [nm] = none := by
  rw [offs_cons]
  unfold offT
  rw [show legsT (Txt.split (Txt.join blank []) comma) = none from by decide +kernel]
theorem legs_yes : ∀ {ts : List Str}, (∀ t ∈ ts, legG t = true) → ∃ ls, legsT ts = some ls ∧ ∀ l ∈ ls, legD (legDat l) = true
  | [], _ => ⟨[], rfl, fun _ h => nomatch h⟩
  | t :: ts, h => by
    obtain ⟨ls, h1, h2⟩ := legs_yes fun t' ht' => h t' (List.mem_cons_of_mem _ ht')
    have h0 := h t List.mem_cons_self
    unfold legG at h0
    cases hl : legT t with
    | none => rw [hl] at h0; cases h0
    | some l =>
      rw [hl] at h0
      refine ⟨l :: ls, by simp only [legsT, hl, h1], fun l' hl' => ?_⟩
      rcases List.mem_cons.mp hl' with rfl | h'
      · exact h0
      · exact h2 l' h'
theorem legs_no {ts : List Str} {t : Str} (ht : t ∈ ts) (hg : legG t = false) : legsT ts = none ∨ ∃ ls, legsT ts = some ls ∧ legsD (.list (ls.map legDat)) = false := by
  cases hl : legsT ts with
  | none => exact .inl rfl
  | some ls =>
    refine .inr ⟨ls, rfl, ?_⟩
    rw [legsD_list]
    suffices h : (ls.map legDat).all legD = false by rw [h, Bool.and_false]
    induction ts generalizing ls with
    | nil => cases ht
    | cons s ts ih =>
      simp only [legsT] at hl
      cases h1 : legT s with
      | none => rw [h1] at hl; cases hl
      | some l1 =>
        cases h2 : legsT ts with
        | none => rw [h1, h2] at hl; cases hl
        | some ls1 =>
          rw [h1, h2] at hl
          cases hl
          rw [List.map_cons, List.all_cons]
          rcases List.mem_cons.mp ht with rfl | ht
          · unfold legG at hg
            rw [h1] at hg
            have hg : legD (legDat l1) = false := hg
            rw [hg]
            rfl
          · rw [ih ht ls1 h2, Bool.and_false]
theorem len_is {ws : List Str} {m : Int} (h : V.int ((ws.map V.str).length : Nat) = V.int m) : (ws.length : Int) = m := by
  injection h with h
  rw [List.length_map] at h
  exact h
theorem slice_two (x : Str) {p : Int} (h : 0 ≤ p) : (Txt.slice x none (some p)).length + (Txt.slice x (some p) none).length ≤ x.length := by
  have e : p = ((p.toNat : Nat) : Int) := by omega
  rw [e, str_len, str_len, str_len, slice_to, slice_from, List.length_take, List.length_drop]
  omega
def sumL (ws : List Str) : Nat := (ws.map (·.length)).sum
theorem sumL_app (a b : List Str) : sumL (a ++ b) = sumL a + sumL b := by
  unfold sumL
  rw [List.map_append, List.sum_append]
theorem sumL_one (w : Str) : sumL [w] = w.length := by simp [sumL]
theorem sumL_cut (ws : List Str) (j : Nat) : sumL (ws.take j) + sumL (ws.drop j) = sumL ws := by rw [← sumL_app, List.take_append_drop]
theorem sumL_cons (v : Str) (vs : List Str) : sumL (v :: vs) = v.length + sumL vs := by simp [sumL]
theorem sumL_mem {ws : List Str} {w : Str} (h : w ∈ ws) : w.length ≤ sumL ws := by
  induction ws with
  | nil => cases h
  | cons v vs ih =>
    have e := sumL_cons v vs
    rcases List.mem_cons.mp h with rfl | h
    · omega
    · have := ih h; omega
theorem sumL_set (ws : List Str) (j : Nat) (v : Str) : sumL (ws.set j v) ≤ sumL ws + v.length := by
  induction ws generalizing j with
  | nil => simp [sumL]
  | cons w ws ih =>
    cases j with
    | zero =>
      show sumL (v :: ws) ≤ sumL (w :: ws) + v.length
      rw [sumL_cons, sumL_cons]
      omega
    | succ j =>
      have := ih j
      show sumL (w :: ws.set j v) ≤ sumL (w :: ws) + v.length
      rw [sumL_cons, sumL_cons]
      omega
theorem at_any {ws : List Str} {i : Int} (h0 : -(ws.length : Int) ≤ i) (h1 : i < ws.length) : ∃ v ∈ ws, atI (ws.map V.str) i = some (.str v) := by
  by_cases hi : 0 ≤ i
  · have := at_strs hi h1
    exact ⟨_, this.2, this.1⟩
  · have hj : (i + ws.length).toNat < ws.length := by omega
    refine ⟨ws[(i + ws.length).toNat], List.getElem_mem _, ?_⟩
    unfold atI ixN
    rw [List.length_map, if_neg hi, if_pos h0]
    show (ws.map V.str)[(i + ws.length).toNat]? = _
    rw [List.getElem?_map, List.getElem?_eq_getElem hj]
    rfl
def some1 : List Str := [Str.ofString "0", Str.ofString "00", Str.ofString "07", Str.ofString "+1", Str.ofString "-1", Str.ofString "1_0", Str.ofString "", Str.ofString "1.0", Str.ofString "1" ++ Txt.mul (Str.ofString "0") 60, Txt.mul (Str.ofString "9") 60]
def some2 : List Str := [Txt.mul (Str.ofString "9") 61, Str.ofString "\t1", Str.ofString "1\n", Str.ofString "x1"]
theorem some_len : ∀ w ∈ some1 ++ some2, w.length ≤ 61 := by decide +kernel
def sp__law_signs : Sp := fun vs H Q _ => ∃ (x g : Str) (p y : Int), vs = [.str x, .int p, .str g, .int y] ∧ x.length ≤ 1000 ∧ g.length = 1 ∧ 0 ≤ p ∧ ∀ z : Str, z.length ≤ 3000 → Q (.str z) H
theorem ok__law_signs (T : Txt w K mg Ax) (D : Dfn K mg "_law_signs" s__law_signs ["text", "place", "sign", "way"])  : Has P w K mg base 1 "_law_signs" ["text", "place", "sign", "way"] sp__law_signs := by
  refine D.has sc__law_signs (fun vs H Q E h => ?_) (fun f cdv A outer s H vs Q E hr h => ?_)
  · obtain ⟨x, g, p, y, rfl, _⟩ := h
    rfl
  · obtain ⟨x, g, p, y, rfl, hx, hg, hp, k⟩ := h
    have hu := hu_of hr
    have hu64 := hr.units
    refine ⟨_, (pss_l4 (ps_if (pt_cmpR op_eq (pv 3) pe_int (nomark _))
      (pss_l1 (ps_ret (pe_op op_add_str (pe_op op_add_str (pe_slice sl_str (pv 0) po_none (po_some (pv 1))) (pv 2)) (pe_slice sl_str (pv 0) (po_some (pv 1)) po_none))))
      pss_nil)
      (ps_if (pt_cmpR op_eq (pv 3) pe_int (nomark _))
      (pss_l1 (ps_ret (pe_op op_add_str (pe_slice sl_str (pv 0) po_none (po_some (pv 1))) (pe_slice sl_str (pv 0) (po_some (pe_op op_add (pv 1) pe_int)) po_none))))
      pss_nil)
      (ps_if (pt_cmpR op_eq (pv 3) pe_int (nomark _))
      (pss_l1 (ps_ret (pe_op op_add_str (pe_op op_add_str (pe_slice sl_str (pv 0) po_none (po_some (pv 1))) (pv 2)) (pe_slice sl_str (pv 0) (po_some (pe_op op_add (pv 1) pe_int)) po_none))))
      pss_nil)
      (ps_ret (pe_op op_add_str (pe_slice sl_str (pv 0) po_none (po_some (pv 1))) (pe_m0k (K := K) rfl PySem.F.plainAttrs_str PySem.F.slot_str_upper PySem.F.type_str_upper mt_upper (pe_slice sl_str (pv 0) (po_some (pv 1)) po_none))))), ?_⟩
    walk_at "rx"
    have hsb := sizeLine_big
    have l1 : ∀ a b, (Txt.slice x a b).length ≤ 1000 := fun a b => Nat.le_trans (Txt.slice_le x a b) hx
    have hxs : x.length ≤ sizeLine := by omega
    have a1 := l1 none (some p)
    have a2 := l1 (some p) none
    have a3 := l1 (some (p + 1)) none
    refine ite2 (fun _ => ?_) (fun _ => ite2 (fun _ => ?_) (fun _ => ite2 (fun _ => ?_) (fun _ => ?_)))
    · exact ⟨x, rfl, hxs, _, rfl, by omega, x, rfl, hxs, _, rfl, by rw [app_len]; omega, k _ (by simp only [app_len]; omega)⟩
    · exact ⟨x, rfl, hxs, x, rfl, hxs, _, rfl, _, rfl, by omega, k _ (by simp only [app_len]; omega)⟩
    · exact ⟨x, rfl, hxs, _, rfl, by omega, x, rfl, hxs, _, rfl, by rw [app_len]; omega, k _ (by simp only [app_len]; omega)⟩
    · have hu : (Txt.upper (Txt.slice x (some p) none)).length ≤ 3 * (Txt.slice x (some p) none).length := upper_len _
      have hs := slice_two x hp
      exact ⟨x, rfl, hxs, x, rfl, hxs, ty_str, _, rfl, by omega, _, rfl, by omega, k _ (by simp only [app_len]; omega)⟩
def sp__law_words (K : PySem.W.Frag) : Sp := fun vs H Q _ => ∃ (x : Str) (p r y : Int), vs = [.str x, .int p, .int r, .int y] ∧ x.length ≤ 1000 ∧ ∀ (z : Str) H', Same H H' → z.length ≤ 3000 → Q (.str z) H'
theorem ok__law_words (T : Txt w K mg Ax) (D : Dfn K mg "_law_words" s__law_words ["text", "place", "rest", "way"])  : Has P w K mg base 1 "_law_words" ["text", "place", "rest", "way"] (sp__law_words K) := by
  refine D.has sc__law_words (fun vs H Q E h => ?_) (fun f cdv A outer s H vs Q E hr h => ?_)
  · obtain ⟨x, p, r, y, rfl, _⟩ := h
    rfl
  · obtain ⟨x, p, r, y, rfl, hx, k⟩ := h
    have hu := hu_of hr
    have hu64 := hr.units
    refine ⟨_, (pss_l7 (ps_set (i := 4) sc__law_words.nd rfl (Or.inl rfl) (pe_mk (K := K) rfl PySem.F.plainAttrs_str PySem.F.slot_str_split PySem.F.type_str_split mt_split (pv 0) (pa_l1 pe_str)))
      (ps_set (i := 5) sc__law_words.nd rfl (Or.inl rfl) (pe_op op_mod (pv 1) (pe_cB (call_len_seqk (K := K) rfl) (by rfl) T.b_len (by rfl) (pa_l1 (pv 4)))))
      (ps_if (pt_cmpR op_eq (pv 3) pe_int (nomark _))
      (pss_l1 (ps_set (i := 4) sc__law_words.nd rfl (Or.inl rfl) (pe_op op_cat (pe_slice (sl_listk (K := K) rfl) (pv 4) po_none (po_some (pv 5))) (pe_slice (sl_listk (K := K) rfl) (pv 4) (po_some (pe_op op_add (pv 5) pe_int)) po_none))))
      pss_nil)
      (ps_if (pt_cmpR op_eq (pv 3) pe_int (nomark _))
      (pss_l1 (ps_set (i := 4) sc__law_words.nd rfl (Or.inl rfl) (pe_op op_cat (pe_op op_cat (pe_slice (sl_listk (K := K) rfl) (pv 4) po_none (po_some (pv 5))) (pe_lst (pa_l1 (pe_ix (ix_listk (K := K) rfl) (pv 4) (pv 5) (fun _ _ => rfl))))) (pe_slice (sl_listk (K := K) rfl) (pv 4) (po_some (pv 5)) po_none))))
      pss_nil)
      (ps_if (pt_cmpR op_eq (pv 3) pe_int (nomark _))
      (pss_l1 (ps_asg (pe_ix (ix_listk (K := K) rfl) (pv 4) (pe_op op_sub (pv 5) pe_int) (fun _ _ => rfl)) (pg_sub (pv 4) (pv 5) set_list)))
      pss_nil)
      (ps_if (pt_cmpR op_eq (pv 3) pe_int (nomark _))
      (pss_l3 (ps_set (i := 6) sc__law_words.nd rfl (Or.inl rfl) (pe_lst (pa_l10 pe_str pe_str pe_str pe_str pe_str pe_str pe_str pe_str (pe_op op_add_str pe_str (pe_op op_mul_str pe_str pe_int)) (pe_op op_mul_str pe_str pe_int))))
      (ps_set (i := 6) sc__law_words.nd rfl (Or.inl rfl) (pe_op op_cat (pv 6) (pe_lst (pa_l4 (pe_op op_mul_str pe_str pe_int) pe_str pe_str pe_str))))
      (ps_asg (pe_ix (ix_listk (K := K) rfl) (pv 6) (pe_op op_mod (pv 2) pe_int) (fun _ _ => rfl)) (pg_sub (pv 4) (pe_op op_sub (pe_op op_sub (pe_cB (call_len_seqk (K := K) rfl) (by rfl) T.b_len (by rfl) (pa_l1 (pv 4))) pe_int) (pe_op op_fdiv (pv 5) pe_int)) set_list)))
      pss_nil)
      (ps_ret (pe_mk (K := K) rfl PySem.F.plainAttrs_str PySem.F.slot_str_join PySem.F.type_str_join (mt_joink (K := K) rfl) pe_str (pa_l1 (pv 4))))), ?_⟩
    walk_at "rx"
    refine ⟨ty_str, by decide +kernel, by decide +kernel, by omega, fun p1 hp1 => ?_⟩
    have hsb := sizeLine_big
    have hb1 : blank.length = 1 := by decide +kernel
    have hjl : sumL (Txt.split x blank) + (Txt.split x blank).length ≤ 1001 := by
      have e := L2.join_len blank (Txt.split x blank)
      rw [join_split, hb1] at e
      unfold sumL
      omega
    have hne : 1 ≤ (Txt.split x blank).length := by
      have := congrArg List.length (split_eq x blank (by decide +kernel) (by decide +kernel))
      have h0 := splG_ne blank.cps.toList 0 [] x.cps.toList
      rw [← this, List.length_map] at h0
      omega
    show rLenQ K [V.ref p1] (upd H p1 (.lst (List.map V.str (Txt.split x blank)))) _
    generalize Txt.split x blank = ws at hjl hne
    have s1 := Same.upd (o := .lst (ws.map V.str)) hp1
    have h1 : (upd H p1 (.lst (ws.map V.str))) p1 = some (.lst (ws.map V.str)) := upd_same
    generalize upd H p1 (.lst (ws.map V.str)) = H1 at s1 h1
    have fin : ∀ (q : Addr) (vs : List Str) (H' : Hp), Same H H' → H' q = some (.lst (vs.map V.str)) → sumL vs + vs.length ≤ 3000 → tyV K "str" (V.str (Str.ofString " ")) H' ∧ rJoin K (V.str (Str.ofString " ")) [V.ref q] H' Q := fun q vs H' s' hq hl => by
      have e := L2.join_len blank vs
      rw [hb1] at e
      unfold sumL at hl
      exact ⟨ty_str, join_of (y := blank) hq (by rw [hb1]; omega) (k _ _ s' (by omega))⟩
    refine ⟨p1, _, rfl, .inl (SqL.of h1), _, rfl, by rw [List.length_map]; omega, ?_⟩
    obtain ⟨j, hj, hjn⟩ : ∃ j : Nat, p % ((ws.map V.str).length : Int) = (j : Int) ∧ j < ws.length := by
      rw [List.length_map]
      have a0 := Int.emod_nonneg p (show (ws.length : Int) ≠ 0 by omega)
      have a1 := Int.emod_lt_of_pos p (show (0 : Int) < ws.length by omega)
      exact ⟨(p % (ws.length : Int)).toNat, by omega, by omega⟩
    simp only [hj]
    refine ite2 (fun h => ?_) (fun n4 => ite2 (fun h => ?_) (fun n5 => ite2 (fun h => ?_) (fun n6 => ite2 (fun h => ?_) (fun n7 => fin p1 ws H1 s1 h1 (by omega)))))
    · subst h
      refine ⟨p1, _, rfl, SqL.of h1, fun q1 hq1 => ?_⟩
      rw [cutV_to ws (Int.natCast_nonneg j), Int.toNat_natCast]
      have s2 := Same.upd (o := .lst ((ws.take j).map V.str)) hq1
      have h2 : (upd H1 q1 (.lst ((ws.take j).map V.str))) q1 = some (.lst ((ws.take j).map V.str)) := upd_same
      generalize upd H1 q1 (.lst ((ws.take j).map V.str)) = H2 at s2 h2
      refine ⟨p1, _, rfl, SqL.of (s2 _ _ h1), fun q2 hq2 => ?_⟩
      rw [cutV_on ws (show (0 : Int) ≤ (j : Int) + 1 by omega), show ((j : Int) + 1).toNat = j + 1 by omega]
      have s3 := Same.upd (o := .lst ((ws.drop (j + 1)).map V.str)) hq2
      have h3 : (upd H2 q2 (.lst ((ws.drop (j + 1)).map V.str))) q2 = some (.lst ((ws.drop (j + 1)).map V.str)) := upd_same
      generalize upd H2 q2 (.lst ((ws.drop (j + 1)).map V.str)) = H3 at s3 h3
      refine cat_of (s3 _ _ h2) h3 (by simp only [List.length_map, List.length_take, List.length_drop]; omega) fun q3 hq3 => ?_
      rw [← List.map_append]
      refine ite2 (fun h => absurd h (by decide)) (fun _ => ite2 (fun h => absurd h (by decide)) (fun _ => ite2 (fun h => absurd h (by decide)) (fun _ => ?_)))
      refine fin q3 _ _ (((s1.trans s2).trans s3).updT hq3) upd_same ?_
      have c1 := sumL_cut ws j
      have c2 := sumL_cut ws (j + 1)
      rw [sumL_app, List.length_append, List.length_take, List.length_drop]
      omega
    · subst h
      refine ⟨p1, _, rfl, SqL.of h1, fun q1 hq1 => ?_⟩
      rw [cutV_to ws (Int.natCast_nonneg j), Int.toNat_natCast]
      have s2 := Same.upd (o := .lst ((ws.take j).map V.str)) hq1
      have h2 : (upd H1 q1 (.lst ((ws.take j).map V.str))) q1 = some (.lst ((ws.take j).map V.str)) := upd_same
      generalize upd H1 q1 (.lst ((ws.take j).map V.str)) = H2 at s2 h2
      obtain ⟨w, hm, hat⟩ := at_any (ws := ws) (i := (j : Int)) (by omega) (by omega)
      refine ixL_of (s2 _ _ h1) hat fun q2 hq2 => ?_
      have s3 := Same.upd (o := .lst [V.str w]) hq2
      have h3 : (upd H2 q2 (.lst [V.str w])) q2 = some (.lst [V.str w]) := upd_same
      generalize upd H2 q2 (.lst [V.str w]) = H3 at s3 h3
      refine cat_of (s3 _ _ h2) h3 (by simp only [List.length_map, List.length_take, List.length_cons, List.length_nil]; omega) fun q3 hq3 => ?_
      have s4 := Same.upd (o := .lst ((ws.take j).map V.str ++ [V.str w])) hq3
      have h4 : (upd H3 q3 (.lst ((ws.take j).map V.str ++ [V.str w]))) q3 = some (.lst ((ws.take j).map V.str ++ [V.str w])) := upd_same
      generalize upd H3 q3 (.lst ((ws.take j).map V.str ++ [V.str w])) = H4 at s4 h4
      refine ⟨p1, _, rfl, SqL.of (s4 _ _ (s3 _ _ (s2 _ _ h1))), fun q4 hq4 => ?_⟩
      rw [cutV_on ws (Int.natCast_nonneg j), Int.toNat_natCast]
      have s5 := Same.upd (o := .lst ((ws.drop j).map V.str)) hq4
      have h5 : (upd H4 q4 (.lst ((ws.drop j).map V.str))) q4 = some (.lst ((ws.drop j).map V.str)) := upd_same
      generalize upd H4 q4 (.lst ((ws.drop j).map V.str)) = H5 at s5 h5
      refine cat_of (s5 _ _ h4) h5 (by simp only [List.length_map, List.length_append, List.length_take, List.length_drop, List.length_cons, List.length_nil]; omega) fun q5 hq5 => ?_
      refine ite2 (fun h => absurd h (by decide)) (fun _ => ite2 (fun h => absurd h (by decide)) (fun _ => ?_))
      refine fin q5 (ws.take j ++ [w] ++ ws.drop j) _ (((((s1.trans s2).trans s3).trans s4).trans s5).updT hq5) (by rw [upd_same, List.map_append, List.map_append]; rfl) ?_
      have c1 := sumL_cut ws j
      have c2 := sumL_mem hm
      rw [sumL_app, sumL_app, sumL_one]
      simp only [List.length_append, List.length_take, List.length_drop, List.length_cons, List.length_nil]
      omega
    · subst h
      obtain ⟨w, hm, hat⟩ := at_any (ws := ws) (i := (j : Int) - 1) (by omega) (by omega)
      refine ixL_of h1 hat (setL_of h1 (Int.natCast_nonneg j) (by rw [List.length_map]; omega) ?_)
      rw [Int.toNat_natCast, ← List.map_set]
      refine ite2 (fun h => absurd h (by decide)) (fun _ => fin p1 (ws.set j w) _ (s1.updN hp1) upd_same ?_)
      have c1 := sumL_set ws j w
      have c2 := sumL_mem hm
      rw [List.length_set]
      omega
    · have e0 : Str.ofString "0" = (⟨#[48]⟩ : Str) := by decide +kernel
      have e9 : Str.ofString "9" = (⟨#[57]⟩ : Str) := by decide +kernel
      have m0 : MulOk (Str.ofString "0") 60 := by rw [e0]; exact (rep_ok 48 (by decide) (by decide)).1
      have m9 : MulOk (Str.ofString "9") 60 := by rw [e9]; exact (rep_ok 57 (by decide) (by decide)).1
      have m91 : MulOk (Str.ofString "9") 61 := by rw [e9]; exact (rep_ok 57 (by decide) (by decide)).1
      have l0 : (Txt.mul (Str.ofString "0") 60).length = 60 := by decide +kernel
      have l9 : (Txt.mul (Str.ofString "9") 60).length = 60 := by decide +kernel
      have l91 : (Txt.mul (Str.ofString "9") 61).length = 61 := by decide +kernel
      refine ⟨m0, by omega, by rw [l0, show (Str.ofString "1").length = 1 from by decide +kernel]; omega, m9, by omega, fun q1 hq1 => ⟨m91, by omega, fun q2 hq2 => ?_⟩⟩
      refine cat_of (xs := some1.map V.str) (ys := some2.map V.str) (by rw [upd_ne (fun e => by rw [e, upd_same] at hq2; cases hq2)]; exact upd_same) upd_same (by show 14 ≤ sizeLine; omega) fun q3 hq3 => ?_
      have sA := ((Same.upd hq1).updT hq2).updT (o := .lst (some1.map V.str ++ some2.map V.str)) hq3
      have r0 := Int.emod_nonneg r (show (14 : Int) ≠ 0 by decide)
      have r1 := Int.emod_lt_of_pos r (show (0 : Int) < 14 by decide)
      obtain ⟨w, hm, hat⟩ := at_any (ws := some1 ++ some2) (i := r % 14) (by omega) r1
      rw [List.map_append] at hat
      refine ixL_of upd_same hat ⟨p1, _, rfl, .inl (SqL.of (sA _ _ h1)), _, rfl, setL_of (sA _ _ h1) (by rw [List.length_map]; omega) (by rw [List.length_map]; omega) ?_⟩
      rw [← List.map_set]
      refine fin p1 (ws.set _ w) _ ((s1.trans sA).updN hp1) upd_same ?_
      have c1 := sumL_set ws ((ws.map V.str).length - 1 - (j : Int) / 2 : Int).toNat w
      have c2 := some_len w hm
      rw [List.length_set]
      omega
def sp__law_spoiled (K : PySem.W.Frag) : Sp := fun vs H Q _ => ∃ (x : Str) (c : Int), vs = [.str x, .int c] ∧ x.length ≤ 1000 ∧ ∀ d v H', Same H H' → Rep H' d v → (∀ y, d = .str y → y.length ≤ 3000) → Q v H'
theorem ok__law_spoiled (T : Txt w K mg Ax) (D : Dfn K mg "_law_spoiled" s__law_spoiled ["text", "cell"]) (H__law_signs : Has P w K mg base 1 "_law_signs" ["text", "place", "sign", "way"] sp__law_signs) (H__law_words : Has P w K mg base 1 "_law_words" ["text", "place", "rest", "way"] (sp__law_words K)) : Has P w K mg base 2 "_law_spoiled" ["text", "cell"] (sp__law_spoiled K) := by
  refine D.has sc__law_spoiled (fun vs H Q E h => ?_) (fun f cdv A outer s H vs Q E hr h => ?_)
  · obtain ⟨x, c, rfl, _⟩ := h
    rfl
  · obtain ⟨x, c, rfl, hx, k⟩ := h
    have hu := hu_of hr
    have hu64 := hr.units
    refine ⟨_, (pss_l12 (ps_set (i := 2) sc__law_spoiled.nd rfl (Or.inl rfl) pe_str)
      (ps_set (i := 2) sc__law_spoiled.nd rfl (Or.inl rfl) (pe_op op_add_str (pv 2) pe_str))
      (ps_set (i := 3) sc__law_spoiled.nd rfl (Or.inl rfl) (pe_op op_mod (pe_op op_add (pe_op op_mul (pe_op op_mod (pv 1) pe_int) pe_int) pe_int) pe_int))
      (ps_set (i := 4) sc__law_spoiled.nd rfl (Or.inl rfl) (pe_op op_mod (pv 3) pe_int))
      (ps_set (i := 5) sc__law_spoiled.nd rfl (Or.inl rfl) (pe_op op_mod (pe_op op_fdiv (pv 3) pe_int) (pe_op op_add (pe_cB call_len_str (by rfl) T.b_len (by rfl) (pa_l1 (pv 0))) pe_int)))
      (ps_set (i := 6) sc__law_spoiled.nd rfl (Or.inl rfl) (pe_op op_fdiv (pv 3) pe_int))
      (ps_if (pt_cmpR op_lt (pv 4) pe_int (nomark _))
      (pss_l1 (ps_ret (pe_callH H__law_signs (hr.mono (by decide)) rfl (pa_l4 (pv 0) (pv 5) (pe_ix ix_str (pv 2) (pe_op op_mod (pv 6) (pe_cB call_len_str (by rfl) T.b_len (by rfl) (pa_l1 (pv 2)))) (fun _ _ => rfl)) (pv 4)))))
      pss_nil)
      (ps_if (pt_cmpR op_lt (pv 4) pe_int (nomark _))
      (pss_l1 (ps_ret (pe_callH H__law_words (hr.mono (by decide)) rfl (pa_l4 (pv 0) (pv 5) (pv 6) (pv 4)))))
      pss_nil)
      (ps_if (pt_cmpR op_eq (pv 4) pe_int (nomark _))
      (pss_l1 (ps_ret (pe_op op_add_str (pv 0) (pe_op op_mul_str pe_str (pe_op op_add pe_int (pe_op op_mod (pv 6) pe_int))))))
      pss_nil)
      (ps_set (i := 7) sc__law_spoiled.nd rfl (Or.inl rfl) (pe_lst (pa_l11 pe_non pe_int pe_bl (pe_lst (pa_l1 (pv 0))) (pe_tup (pa_l1 (pv 0))) pe_xnew pe_str pe_str pe_str pe_str pe_str)))
      (ps_set (i := 7) sc__law_spoiled.nd rfl (Or.inl rfl) (pe_op op_cat (pv 7) (pe_lst (pa_l4 pe_str pe_str pe_str pe_str))))
      (ps_ret (pe_ix (ix_listk (K := K) rfl) (pv 7) (pe_op op_mod (pv 6) pe_int) (fun _ _ => rfl)))), ?_⟩
    walk_at "rx"
    have hsb := sizeLine_big
    have c0 := Int.emod_nonneg ((c % 2147483629 * 69621 + 5) % 2147483629) (show (10 : Int) ≠ 0 by decide)
    have n0 := Int.emod_nonneg (c % 2147483629 * 69621 + 5) (show (2147483629 : Int) ≠ 0 by decide)
    generalize (c % 2147483629 * 69621 + 5) % 2147483629 = n at c0 n0
    have k' : ∀ (z : Str) H', Same H H' → z.length ≤ 3000 → Q (.str z) H' := fun z H' s' hz => k (.str z) _ _ s' rfl fun y e => by cases e; exact hz
    have sg : (Str.ofString " !\"#$&'()*+,-./0123456789:;<=>?@ABCDEFGHIJKLMNOPQRSTUVWXYZ[\\]^_`").length = 64 := by decide +kernel
    have sg2 : (Str.ofString "abcdefghijklmnopqrstuvwxyz{|}~\n\t").length = 32 := by decide +kernel
    refine ⟨by omega, by omega, by omega, ite2 (fun _ => ?_) (fun _ => ite2 (fun _ => ?_) (fun _ => ite2 (fun _ => ?_) (fun _ => ?_)))⟩
    · have sl : (Str.ofString " !\"#$&'()*+,-./0123456789:;<=>?@ABCDEFGHIJKLMNOPQRSTUVWXYZ[\\]^_`" ++ Str.ofString "abcdefghijklmnopqrstuvwxyz{|}~\n\t").length = 96 := by rw [app_len]; omega
      generalize (Str.ofString " !\"#$&'()*+,-./0123456789:;<=>?@ABCDEFGHIJKLMNOPQRSTUVWXYZ[\\]^_`" ++ Str.ofString "abcdefghijklmnopqrstuvwxyz{|}~\n\t") = sgs at sl
      rw [sl]
      have r0 := Int.emod_nonneg (n / 7919) (show ((96 : Nat) : Int) ≠ 0 by decide)
      have r1 := Int.emod_lt_of_pos (n / 7919) (show (0 : Int) < ((96 : Nat) : Int) by decide)
      have p0 := Int.emod_nonneg (n / 10) (show (x.length : Int) + 1 ≠ 0 by omega)
      exact ⟨by omega, by omega, ixS_of (by omega) r0 (by rw [sl]; exact r1) ⟨x, _, _, _, rfl, hx, rfl, p0, fun z hz => k' z _ (Same.refl _) hz⟩⟩
    · exact ⟨x, _, _, _, rfl, hx, fun z H' s' hz => k' z _ s' hz⟩
    · have r0 := Int.emod_nonneg (n / 7919) (show (8 : Int) ≠ 0 by decide)
      have r1 := Int.emod_lt_of_pos (n / 7919) (show (0 : Int) < 8 by decide)
      generalize n / 7919 % 8 = e at r0 r1
      have : e = 0 ∨ e = 1 ∨ e = 2 ∨ e = 3 ∨ e = 4 ∨ e = 5 ∨ e = 6 ∨ e = 7 := by omega
      have hml : (Txt.mul (Str.ofString ", x y z 1") (1 + e)).length ≤ 72 := by
        rcases this with rfl | rfl | rfl | rfl | rfl | rfl | rfl | rfl <;> decide +kernel
      exact ⟨mulOk_of 9 8 (by decide +kernel) (by omega) (by omega) (by decide) (by decide), by omega, by omega, k' _ _ (Same.refl _) (by rw [app_len]; omega)⟩
    · intro p hp
      have s1 := Same.upd (o := .lst [V.str x]) hp
      have h1 : (upd H p (.lst [V.str x])) p = some (.lst [V.str x]) := upd_same
      generalize upd H p (.lst [V.str x]) = H1 at s1 h1
      intro p1 hp1
      have s2 := Same.upd (o := .tup [V.str x]) hp1
      have h2 : (upd H1 p1 (.tup [V.str x])) p1 = some (.tup [V.str x]) := upd_same
      generalize upd H1 p1 (.tup [V.str x]) = H2 at s2 h2
      intro p2 hp2
      have s3 := Same.upd (o := .dX 0 []) hp2
      have h3 : (upd H2 p2 (.dX 0 [])) p2 = some (.dX 0 []) := upd_same
      generalize upd H2 p2 (.dX 0 []) = H3 at s3 h3
      intro p3 hp3
      have s4 := Same.upd (o := .lst [V.non, V.int 5, V.bl true, V.ref p, V.ref p1, V.ref p2, V.str (Str.ofString ""), V.str (Str.ofString " "), V.str (Str.ofString "bells"), V.str (Str.ofString "Bell"), V.str (Str.ofString "bell\n")]) hp3
      have h4 : (upd H3 p3 (.lst [V.non, V.int 5, V.bl true, V.ref p, V.ref p1, V.ref p2, V.str (Str.ofString ""), V.str (Str.ofString " "), V.str (Str.ofString "bells"), V.str (Str.ofString "Bell"), V.str (Str.ofString "bell\n")])) p3 = some (.lst [V.non, V.int 5, V.bl true, V.ref p, V.ref p1, V.ref p2, V.str (Str.ofString ""), V.str (Str.ofString " "), V.str (Str.ofString "bells"), V.str (Str.ofString "Bell"), V.str (Str.ofString "bell\n")]) := upd_same
      generalize upd H3 p3 (.lst [V.non, V.int 5, V.bl true, V.ref p, V.ref p1, V.ref p2, V.str (Str.ofString ""), V.str (Str.ofString " "), V.str (Str.ofString "bells"), V.str (Str.ofString "Bell"), V.str (Str.ofString "bell\n")]) = H4 at s4 h4
      intro p4 hp4
      have s5 := Same.upd (o := .lst [V.str (Str.ofString "deal"), V.str (Str.ofString "deal a"), V.str (Str.ofString "off"), V.str (Str.ofString "put")]) hp4
      have h5 : (upd H4 p4 (.lst [V.str (Str.ofString "deal"), V.str (Str.ofString "deal a"), V.str (Str.ofString "off"), V.str (Str.ofString "put")])) p4 = some (.lst [V.str (Str.ofString "deal"), V.str (Str.ofString "deal a"), V.str (Str.ofString "off"), V.str (Str.ofString "put")]) := upd_same
      generalize upd H4 p4 (.lst [V.str (Str.ofString "deal"), V.str (Str.ofString "deal a"), V.str (Str.ofString "off"), V.str (Str.ofString "put")]) = H5 at s5 h5
      refine cat_of (s5 _ _ h4) h5 (by show 15 ≤ sizeLine; omega) fun q hq => ?_
      have s6 := Same.upd (o := .lst ([V.non, V.int 5, V.bl true, V.ref p, V.ref p1, V.ref p2, V.str (Str.ofString ""), V.str (Str.ofString " "), V.str (Str.ofString "bells"), V.str (Str.ofString "Bell"), V.str (Str.ofString "bell\n")] ++ [V.str (Str.ofString "deal"), V.str (Str.ofString "deal a"), V.str (Str.ofString "off"), V.str (Str.ofString "put")])) hq
      have sA := ((((s1.trans s2).trans s3).trans s4).trans s5).trans s6
      have r0 := Int.emod_nonneg (n / 7919) (show (15 : Int) ≠ 0 by decide)
      have r1 := Int.emod_lt_of_pos (n / 7919) (show (0 : Int) < 15 by decide)
      generalize n / 7919 % 15 = e at r0 r1
      have : e = 0 ∨ e = 1 ∨ e = 2 ∨ e = 3 ∨ e = 4 ∨ e = 5 ∨ e = 6 ∨ e = 7 ∨ e = 8 ∨ e = 9 ∨ e = 10 ∨ e = 11 ∨ e = 12 ∨ e = 13 ∨ e = 14 := by omega
      rcases this with rfl | rfl | rfl | rfl | rfl | rfl | rfl | rfl | rfl | rfl | rfl | rfl | rfl | rfl | rfl
      · exact ixL_of upd_same (by rfl) (k .none _ _ sA rfl fun y e => by cases e)
      · exact ixL_of upd_same (by rfl) (k (.int 5) _ _ sA rfl fun y e => by cases e)
      · exact ixL_of upd_same (by rfl) (k (.bool true) _ _ sA rfl fun y e => by cases e)
      · exact ixL_of upd_same (by rfl) (k (.list [.str x]) _ _ sA ⟨p, _, rfl, s6 _ _ (s5 _ _ (s4 _ _ (s3 _ _ (s2 _ _ h1)))), _, _, rfl, rfl, rfl⟩ fun y e => by cases e)
      · exact ixL_of upd_same (by rfl) (k (.tuple [.str x]) _ _ sA ⟨p1, _, rfl, s6 _ _ (s5 _ _ (s4 _ _ (s3 _ _ h2))), _, _, rfl, rfl, rfl⟩ fun y e => by cases e)
      · exact ixL_of upd_same (by rfl) (k (.dict []) _ _ sA ⟨rfl, p2, _, rfl, s6 _ _ (s5 _ _ (s4 _ _ h3))⟩ fun y e => by cases e)
      · exact ixL_of upd_same (by rfl) (k' _ _ sA (by decide +kernel))
      · exact ixL_of upd_same (by rfl) (k' _ _ sA (by decide +kernel))
      · exact ixL_of upd_same (by rfl) (k' _ _ sA (by decide +kernel))
      · exact ixL_of upd_same (by rfl) (k' _ _ sA (by decide +kernel))
      · exact ixL_of upd_same (by rfl) (k' _ _ sA (by decide +kernel))
      · exact ixL_of upd_same (by rfl) (k' _ _ sA (by decide +kernel))
      · exact ixL_of upd_same (by rfl) (k' _ _ sA (by decide +kernel))
      · exact ixL_of upd_same (by rfl) (k' _ _ sA (by decide +kernel))
      · exact ixL_of upd_same (by rfl) (k' _ _ sA (by decide +kernel))
def sp_check_row (Ax : Ad) : Sp := fun vs H Q E => ∃ b, vs = [.bl b] ∧ (b = true → Q .non H) ∧ (b = false → E (.ref Ax.NoRow) none H)
theorem ok_check_row (T : Txt w K mg Ax) (D : Dfn K mg "check_row" s_check_row ["right"])  : HasE P w K mg base 1 "check_row" ["right"] (sp_check_row Ax) := by
  refine D.hasE sc_check_row (fun vs H Q E h => ?_) (fun f cdv A outer s H vs Q E hr h => ?_)
  · obtain ⟨b, rfl, _⟩ := h
    rfl
  · obtain ⟨b, rfl, hT, hF⟩ := h
    have hu := hu_of hr
    have hu64 := hr.units
    refine ⟨_, (pss_l1 (ps_if (pt_not (pt_val (pv 0)))
      (pss_l1 (ps_raise PySem.F.excBase_ValueError (by rfl) T.c_NoRow T.q_NoRow rfl rfl rfl rfl (fun _ _ h => h) (pa_l1 pe_str)))
      pss_nil)), ?_⟩
    walk_at "rx"
    refine ite2 (fun h => ?_) (fun h => ?_)
    · exact hF h
    · exact hT (by simpa using h)
def sp_words_of (Ax : Ad) : Sp := fun vs H Q E => ∃ d v, vs = [v] ∧ Rep H d v ∧ (∀ x, d = .str x → x.length ≤ 5000 ∧ ∀ p, H p = none → Q (.ref p) (upd H p (.lst ((Txt.split x blank).map V.str)))) ∧ ((∀ x, d ≠ .str x) → E (.ref Ax.NoRow) none H)
theorem ok_words_of (T : Txt w K mg Ax) (D : Dfn K mg "words_of" s_words_of ["row"]) (H_check_row : HasE P w K mg base 1 "check_row" ["right"] (sp_check_row Ax)) : HasE P w K mg base 2 "words_of" ["row"] (sp_words_of Ax) := by
  refine D.hasE sc_words_of (fun vs H Q E h => ?_) (fun f cdv A outer s H vs Q E hr h => ?_)
  · obtain ⟨d, v, rfl, _⟩ := h
    rfl
  · obtain ⟨d, v, rfl, hR, hQ, hE⟩ := h
    have hu := hu_of hr
    have hu64 := hr.units
    refine ⟨_, (pss_l2 (ps_expr (pe_callE (E := E) H_check_row (hr.mono (by decide)) (by rfl) (passE (show Leaves _ E from ⟨rfl, rfl, rfl, fun _ _ h => h⟩)) (pa_l1 (pe_cB (call_isik (K := K) rfl) (by rfl) T.b_isinstance (by rfl) (pa_l2 (pv 0) (pe_ty (by rfl) T.b_str (by rfl)))))))
      (ps_ret (pe_mk (K := K) rfl PySem.F.plainAttrs_str PySem.F.slot_str_split PySem.F.type_str_split mt_split (pv 0) (pa_l1 pe_str)))), ?_⟩
    walk_at "rx"
    refine isi_of hR (by simp) ⟨_, rfl, fun h => ?_, fun h => ?_⟩
    · cases d with
      | str x =>
        cases (show v = .str x from hR)
        obtain ⟨hx, k⟩ := hQ x rfl
        exact ⟨ty_str, x, rfl, by decide +kernel, by decide +kernel, by omega, k⟩
      | _ => exact absurd h (by simp [isT, tyD])
    · refine hE fun x e => ?_
      subst e
      exact absurd h (by simp [isT, tyD])
def sp_Lay__init (Ax : Ad) : Sp := fun vs H Q _ => ∃ x dx sh am, vs = [.ref x, sh, am] ∧ H x = some (.ins Ax.Lay dx []) ∧ Q .non (upd H x (.ins Ax.Lay dx (shF sh "amount" am)))
theorem ok_Lay__init (T : Txt w K mg Ax) (D : DfnM K "__init__" "Lay.__init__" s_Lay__init ["self", "shelf", "amount"] Ax.Lay__init)  : HasM P w K mg base 1 Ax.Lay__init ["self", "shelf", "amount"] (sp_Lay__init Ax) := by
  refine D.has sc_Lay__init (fun vs H Q E h => ?_) (fun cdv A outer s H vs Q E hr h => ?_)
  · obtain ⟨x, dx, sh, am, rfl, _⟩ := h
    rfl
  · obtain ⟨x, dx, sh, am, rfl, hx, k⟩ := h
    have hu := hu_of hr
    have hu64 := hr.units
    refine ⟨_, (pss_l2 (ps_fld (pv 0) (pv 1) (by rfl))
      (ps_fld (pv 0) (pv 2) (by rfl))), ?_⟩
    walk_at "rx"
    refine ⟨_, _, _, hx, T.cl_Lay, T.na_Lay_shelf, by decide, ?_⟩
    refine ⟨_, _, _, upd_same, T.cl_Lay, T.na_Lay_amount, put1_len _ _, ?_⟩
    rw [upd_upd]
    exact k
def sp_is_name : Sp := fun vs H Q _ => ∃ d v, vs = [v] ∧ Rep H d v ∧ okS d ∧ ∀ H', Same H H' → Q (.bl (nameD d)) H'
theorem ok_is_name (T : Txt w K mg Ax) (D : Dfn K mg "is_name" s_is_name ["thing"])  : Has P w K mg base 1 "is_name" ["thing"] sp_is_name := by
  refine D.has sc_is_name (fun vs H Q E h => ?_) (fun f cdv A outer s H vs Q E hr h => ?_)
  · obtain ⟨d, v, rfl, _⟩ := h
    rfl
  · obtain ⟨d, v, rfl, hR, hz, k⟩ := h
    have hu := hu_of hr
    have hu64 := hr.units
    refine ⟨_, (pss_l2 (ps_if (PW.pt (pw_or (pt_not (pt_val (pe_cB (call_isik (K := K) rfl) (by rfl) T.b_isinstance (by rfl) (pa_l2 (pv 0) (pe_ty (by rfl) T.b_str (by rfl)))))) (pw_or1 (pt_not (pt_chain op_le op_le pe_int (pe_cB call_len_str (by rfl) T.b_len (by rfl) (pa_l1 (pv 0))) (pe_globI (by rfl) T.c_LONGEST_NAME))))))
      (pss_l1 (ps_ret pe_bl))
      pss_nil)
      (ps_ret (pe_cB (call_allk (K := K) rfl rfl) (by rfl) T.b_all (by rfl) (pa_l1 (pe_comp (show CompSc ["thing"] ["sign"] (defScope s_is_name) _ [none] from by exact ⟨rfl, by decide +kernel, by decide +kernel, by decide +kernel, by decide +kernel⟩) (pi_str (pv 0)) (fun _ _ _ => (pg_name (i := 0) (show List.Nodup [("sign" : Str)] from by decide +kernel) rfl (Or.inl rfl))) (fun _ _ _ => pf_nil) (fun _ _ _ => (pe_cmpR op_in_str (pv 0) (pe_globS (by rfl) T.c_LETTERS) (by with_unfolding_all rfl)))))))), ?_⟩
    walk_at "rd"
    refine isi_of hR (by simp) ⟨_, rfl, ?_⟩
    cases d with
    | str x =>
      cases (show v = .str x from hR)
      have hx := hz x rfl
      rw [if_neg (by simp [isT, tyD])]
      refine ⟨x, rfl, hx, ?_⟩
      split
      · rename_i h1
        split
        · rename_i h8
          have := k H (Same.refl H)
          rwa [show nameD (.str x) = false from by rw [nameD_str, decide_eq_false (by omega)]; rfl] at this
        · rename_i h8
          refine tcomp_of (H1 := H) (fun R h => ⟨_, rfl, x, rfl, h⟩) (y_str x) (fun i σ acc H2 => ∃ o, σ = [o] ∧ H2 = H ∧ acc = ((x.cps.toList.take i).map fun c => V.bl (isIn c))) ?_ ?_ ?_ ?_
          · exact ⟨none, rfl, rfl, rfl⟩
          · rintro i σ acc H2 hi ⟨o, rfl, rfl, rfl⟩
            refine ⟨trivial, fun h => ?_⟩
            rw [List.length_map, List.length_take]
            have : x.cps.size ≤ sizeLine := hx
            omega
          · rintro i σ acc H2 y H' hi ⟨o, rfl, rfl, rfl⟩ ⟨rfl, c, hc, rfl⟩
            walk_at "rd"
            have hc' : x.cps.toList[i]? = some c := by simpa using hc
            rw [List.take_add_one, hc', List.map_append]
            rfl
          · rintro σ acc H2 ⟨o, rfl, rfl, rfl⟩ p hp
            refine ⟨p, x.cps.toList.map isIn, rfl, SqL.of (by rw [upd_same, List.map_map, show x.cps.size = x.cps.toList.length by simp, List.take_length]; rfl), ?_⟩
            have := k _ (Same.upd (o := .lst ((x.cps.toList.take x.cps.size).map fun c => V.bl (isIn c))) hp)
            rwa [show nameD (.str x) = (x.cps.toList.map isIn).all id from by rw [nameD_str, decide_eq_true (by omega), List.all_map]; rfl] at this
      · rename_i h1
        have := k H (Same.refl H)
        rwa [show nameD (.str x) = false from by rw [nameD_str, decide_eq_false (by omega)]; rfl] at this
    | _ => exact k H (Same.refl H)
def sp_is_shelf : Sp := fun vs H Q _ => ∃ d v, vs = [v] ∧ Rep H d v ∧ okT d ∧ ∀ H', Same H H' → Q (.bl (shelfD d)) H'
theorem ok_is_shelf (T : Txt w K mg Ax) (D : Dfn K mg "is_shelf" s_is_shelf ["thing"]) (H_is_name : Has P w K mg base 1 "is_name" ["thing"] sp_is_name) : Has P w K mg base 2 "is_shelf" ["thing"] sp_is_shelf := by
  refine D.has sc_is_shelf (fun vs H Q E h => ?_) (fun f cdv A outer s H vs Q E hr h => ?_)
  · obtain ⟨d, v, rfl, _⟩ := h
    rfl
  · obtain ⟨d, v, rfl, hR, hz, k⟩ := h
    have hu := hu_of hr
    have hu64 := hr.units
    refine ⟨_, (pss_l2 (ps_if (PW.pt (pw_or (pt_not (pt_val (pe_cB (call_isik (K := K) rfl) (by rfl) T.b_isinstance (by rfl) (pa_l2 (pv 0) (pe_ty (by rfl) T.b_tuple (by rfl)))))) (pw_or1 (pt_cmpR op_ne (pe_cB (call_len_seqk (K := K) rfl) (by rfl) T.b_len (by rfl) (pa_l1 (pv 0))) pe_int (nomark _)))))
      (pss_l1 (ps_ret pe_bl))
      pss_nil)
      (ps_ret (pe_and (pe_callH H_is_name (hr.mono (by decide)) rfl (pa_l1 (pe_ix (ix_tupk (K := K) rfl) (pv 0) pe_int (fun _ _ => rfl)))) (pe_one (pe_callH H_is_name (hr.mono (by decide)) rfl (pa_l1 (pe_ix (ix_tupk (K := K) rfl) (pv 0) pe_int (fun _ _ => rfl)))))))), ?_⟩
    walk_at "rx"
    refine isi_of hR (by simp) ⟨_, rfl, ?_⟩
    cases d with
    | tuple ds =>
      obtain ⟨a, vs, rfl, ha, hv⟩ := hR
      have hz := hz ds rfl
      rw [if_neg (by simp [isT, tyD])]
      have hl := reps_len hv
      refine ⟨a, vs, rfl, .inr (SqT.of ha), rfl, ite2 (fun h => ?_) (fun h => ?_)⟩
      · have hne : ds.length ≠ 2 := fun e => h (by rw [hl, e]; rfl)
        have := k H (Same.refl H)
        rwa [show shelfD (.tuple ds) = false from by
          match ds, hne with
          | [], _ => rfl
          | [_], _ => rfl
          | [_, _], e => exact absurd rfl e
          | _ :: _ :: _ :: _, _ => rfl] at this
      · have h2 : ds.length = 2 := by
          have h := Decidable.not_not.mp h
          injection h with h
          omega
        match ds, h2, hv, hz, k with
        | [d0, d1], _, ⟨v0, r0, e0, h0, v1, r1, e1, h1, e2⟩, hz, k =>
          subst e0; subst e1; cases (show r1 = [] from e2)
          refine ixT_of ha (by rfl) ⟨d0, v0, rfl, h0, hz d0 (by simp), fun H1 s1 => ⟨_, rfl, ite2 (fun g => ?_) (fun g => ?_)⟩⟩
          · refine ixT_of (s1 _ _ ha) (by rfl) ⟨d1, v1, rfl, h1.mono s1, hz d1 (by simp), fun H2 s2 => ?_⟩
            have := k H2 (s1.trans s2)
            rwa [show shelfD (.tuple [d0, d1]) = nameD d1 from by rw [shelfD_two, g]; rfl] at this
          · have := k H1 s1
            rwa [show shelfD (.tuple [d0, d1]) = false from by rw [shelfD_two, Bool.eq_false_iff.mpr g]; rfl] at this
    | _ => exact k H (Same.refl H)

def sp_shelf_in (Ax : Ad) : Sp := fun vs H Q E => ∃ x y, vs = [.str x, .str y] ∧ x.length ≤ 5000 ∧ y.length ≤ 5000 ∧ (nameS x = true → nameS y = true → ∀ t H', Same H H' → H' t = some (.tup [.str x, .str y]) → Q (.ref t) H') ∧ ((nameS x && nameS y) = false → ∀ H', Same H H' → E (.ref Ax.NoRow) none H')
theorem ok_shelf_in (T : Txt w K mg Ax) (D : Dfn K mg "shelf_in" s_shelf_in ["house", "ware"]) (H_check_row : HasE P w K mg base 1 "check_row" ["right"] (sp_check_row Ax)) (H_is_shelf : Has P w K mg base 2 "is_shelf" ["thing"] sp_is_shelf) : HasE P w K mg base 3 "shelf_in" ["house", "ware"] (sp_shelf_in Ax) := by
  refine D.hasE sc_shelf_in (fun vs H Q E h => ?_) (fun f cdv A outer s H vs Q E hr h => ?_)
  · obtain ⟨x, y, rfl, _⟩ := h
    rfl
  · obtain ⟨x, y, rfl, hx, hy, hQ, hE⟩ := h
    have hu := hu_of hr
    have hu64 := hr.units
    refine ⟨_, (pss_l2 (ps_expr (pe_callE (E := E) H_check_row (hr.mono (by decide)) (by rfl) (passE (show Leaves _ E from ⟨rfl, rfl, rfl, fun _ _ h => h⟩)) (pa_l1 (pe_callH H_is_shelf (hr.mono (by decide)) rfl (pa_l1 (pe_tup (pa_l2 (pv 0) (pv 1))))))))
      (ps_ret (pe_tup (pa_l2 (pv 0) (pv 1))))), ?_⟩
    walk_at "rx"
    intro t ht
    have s1 := Same.upd (o := .tup [.str x, .str y]) ht
    have h1 : (upd H t (.tup [.str x, .str y])) t = some (.tup [.str x, .str y]) := upd_same
    generalize upd H t (.tup [.str x, .str y]) = H1 at s1 h1
    refine ⟨.tuple [.str x, .str y], .ref t, rfl, ⟨t, _, rfl, h1, _, _, rfl, rfl, _, _, rfl, rfl, rfl⟩, ?_, fun H2 s2 => ⟨_, rfl, fun h t2 ht2 => ?_, fun h => hE h _ (s1.trans s2)⟩⟩
    · intro ds e d hd
      cases e
      simp only [List.mem_cons, List.not_mem_nil, or_false] at hd
      rcases hd with rfl | rfl
      · exact okS_big hx
      · exact okS_big hy
    · have h : (nameS x && nameS y) = true := h
      rw [Bool.and_eq_true] at h
      exact hQ h.1 h.2 t2 _ ((s1.trans s2).trans (Same.upd ht2)) upd_same
def sp_number_in (Ax : Ad) : Sp := fun vs H Q E => ∃ x, vs = [.str x] ∧ x.length ≤ 5000 ∧ (numOk x = true → ∀ H', Same H H' → Q (.int (numV x)) H') ∧ (numOk x = false → ∀ H', Same H H' → E (.ref Ax.NoRow) none H')
theorem ok_number_in (T : Txt w K mg Ax) (D : Dfn K mg "number_in" s_number_in ["word"]) (H_check_row : HasE P w K mg base 1 "check_row" ["right"] (sp_check_row Ax)) : HasE P w K mg base 2 "number_in" ["word"] (sp_number_in Ax) := by
  refine D.hasE sc_number_in (fun vs H Q E h => ?_) (fun f cdv A outer s H vs Q E hr h => ?_)
  · obtain ⟨x, rfl, _⟩ := h
    rfl
  · obtain ⟨x, rfl, hx, hQ, hE⟩ := h
    have hu := hu_of hr
    have hu64 := hr.units
    refine ⟨_, (pss_l3 (ps_expr (pe_callE (E := E) H_check_row (hr.mono (by decide)) (by rfl) (passE (show Leaves _ E from ⟨rfl, rfl, rfl, fun _ _ h => h⟩)) (pa_l1 (pe_and (pe_chain op_le op_le pe_int (pe_cB call_len_str (by rfl) T.b_len (by rfl) (pa_l1 (pv 0))) (pe_globI (by rfl) T.c_MOST_FIGURES)) (pe_one (pe_cB (call_allk (K := K) rfl rfl) (by rfl) T.b_all (by rfl) (pa_l1 (pe_comp (show CompSc ["word"] ["sign"] (defScope s_number_in) _ [none] from by exact ⟨rfl, by decide +kernel, by decide +kernel, by decide +kernel, by decide +kernel⟩) (pi_str (pv 0)) (fun _ _ _ => (pg_name (i := 0) (show List.Nodup [("sign" : Str)] from by decide +kernel) rfl (Or.inl rfl))) (fun _ _ _ => pf_nil) (fun _ _ _ => (pe_cmpR op_in_str (pv 0) (pe_globS (by rfl) T.c_FIGURES) (by with_unfolding_all rfl)))))))))))
      (ps_expr (pe_callE (E := E) H_check_row (hr.mono (by decide)) (by rfl) (passE (show Leaves _ E from ⟨rfl, rfl, rfl, fun _ _ h => h⟩)) (pa_l1 (pe_or (pe_cmpR op_eq (pv 0) pe_str (nomark _)) (pe_one (pe_not (pe_mk (K := K) rfl PySem.F.plainAttrs_str PySem.F.slot_str_startswith PySem.F.type_str_startswith mt_starts (pv 0) (pa_l1 pe_str))))))))
      (ps_ret (pe_cT call_int_text (by rfl) T.b_int (by rfl) (pa_l1 (pv 0))))), ?_⟩
    refine seq_cut (fun σ' H1 => σ' = [some (.str x)] ∧ Same H H1 ∧ (decide (1 ≤ x.length ∧ x.length ≤ 60) && x.cps.toList.all isFig) = true) ?_ ?_
    · intro N hN
      walk_at "rx"
      have hsb := sizeLine_big
      have chk : ∀ b H1, Same H H1 → b = (decide (1 ≤ x.length ∧ x.length ≤ 60) && x.cps.toList.all isFig) → sp_check_row Ax [.bl b] H1 (fun _ H2 => N [some (.str x)] H2) E :=
        fun b H1 s1 e => ⟨b, rfl, fun h => hN _ _ ⟨rfl, s1, by rw [← e, h]⟩, fun h => hE (by unfold numOk; rw [← e, h]; rfl) _ s1⟩
      refine ⟨by omega, ite2 (fun h1 => ite2 (fun h60 => ?_) (fun h60 => ?_)) (fun h1 => ?_)⟩
      · refine comp_w (y_str x) (fun i σ acc H2 => (∃ o, σ = [o]) ∧ H2 = H ∧ acc = ((x.cps.toList.take i).map isFig).map V.bl) ?_ ?_ ?_ ?_
        · exact ⟨⟨none, rfl⟩, rfl, rfl⟩
        · rintro i σ acc H2 hi ⟨_, rfl, rfl⟩
          refine ⟨trivial, fun h => ?_⟩
          rw [List.length_map, List.length_map, List.length_take]
          have hz : x.cps.size ≤ 5000 := hx
          omega
        · rintro i σ acc H2 y H' hi ⟨⟨o, rfl⟩, rfl, rfl⟩ ⟨rfl, c, hc, rfl⟩
          walk_at "rx"
          have hc' : x.cps.toList[i]? = some c := by simpa using hc
          exact (take_all hc').symm
        · rintro σ acc H2 ⟨_, rfl, rfl⟩ p hp
          refine ⟨p, x.cps.toList.map isFig, rfl, SqL.of (by rw [upd_same, show x.cps.size = x.cps.toList.length by simp, List.take_length]), ?_⟩
          refine chk _ _ (Same.upd hp) ?_
          rw [decide_eq_true (by omega), Bool.true_and, List.all_map]
          rfl
      · exact chk _ _ (Same.refl _) (by rw [decide_eq_false (by omega)]; rfl)
      · exact chk _ _ (Same.refl _) (by rw [decide_eq_false (by omega)]; rfl)
    rintro σ' H1 ⟨rfl, s1, hd⟩
    walk_at "rx"
    have hnum : numOk x = (decide (x = nought) || !Txt.startswith x nought) := by unfold numOk; rw [hd, Bool.true_and]
    have fin : ∀ b, b = (decide (x = nought) || !Txt.startswith x nought) → sp_check_row Ax [.bl b] H1 (fun _ H2 => AllDigits x.cps.toList ∧ x.cps.toList ≠ [] ∧ x.length ≤ 640 ∧ Q (V.int (digitsVal x.cps.toList : Nat)) H2) E := fun b e => by
      refine ⟨b, rfl, fun h => ?_, fun h => hE (by rw [hnum, ← e, h]) _ s1⟩
      have hn : numOk x = true := by rw [hnum, ← e, h]
      obtain ⟨d1, d2, d3⟩ := numOk_digits hn
      exact ⟨d1, d2, by omega, hQ hn _ s1⟩
    refine ite2 (fun h0 => fin _ ?_) (fun h0 => ⟨ty_str, fin _ ?_⟩)
    · rw [decide_eq_true h0]; rfl
    · rw [decide_eq_false h0]; rfl
def wholeD (d : PyData) : Bool := isD d "int" && !isD d "bool"
def sp_is_whole : Sp := fun vs H Q _ => ∃ d v, vs = [v] ∧ Rep H d v ∧ Q (.bl (wholeD d)) H
theorem ok_is_whole (T : Txt w K mg Ax) (D : Dfn K mg "is_whole" s_is_whole ["thing"])  : Has P w K mg base 1 "is_whole" ["thing"] sp_is_whole := by
  refine D.has sc_is_whole (fun vs H Q E h => ?_) (fun f cdv A outer s H vs Q E hr h => ?_)
  · obtain ⟨d, v, rfl, _⟩ := h
    rfl
  · obtain ⟨d, v, rfl, hR, k⟩ := h
    have hu := hu_of hr
    have hu64 := hr.units
    refine ⟨_, (pss_l1 (ps_ret (pe_and (pe_cB (call_isik (K := K) rfl) (by rfl) T.b_isinstance (by rfl) (pa_l2 (pv 0) (pe_ty (by rfl) T.b_int (by rfl)))) (pe_one (pe_not (pe_cB (call_isik (K := K) rfl) (by rfl) T.b_isinstance (by rfl) (pa_l2 (pv 0) (pe_ty (by rfl) T.b_bool (by rfl))))))))), ?_⟩
    walk_at "rd"
    refine isi_of hR (by simp) ⟨_, rfl, ?_⟩
    unfold wholeD at k
    split
    · rename_i h
      refine isi_of hR (by simp) ⟨_, rfl, ?_⟩
      rwa [h, Bool.true_and] at k
    · rename_i h
      rwa [Bool.eq_false_iff.mpr h, Bool.false_and] at k
def sp_is_amount : Sp := fun vs H Q _ => ∃ d v, vs = [v] ∧ Rep H d v ∧ Q (.bl (amountD d)) H
theorem ok_is_amount (T : Txt w K mg Ax) (D : Dfn K mg "is_amount" s_is_amount ["thing"]) (H_is_whole : Has P w K mg base 1 "is_whole" ["thing"] sp_is_whole) : Has P w K mg base 2 "is_amount" ["thing"] sp_is_amount := by
  refine D.has sc_is_amount (fun vs H Q E h => ?_) (fun f cdv A outer s H vs Q E hr h => ?_)
  · obtain ⟨d, v, rfl, _⟩ := h
    rfl
  · obtain ⟨d, v, rfl, hR, k⟩ := h
    have hu := hu_of hr
    have hu64 := hr.units
    refine ⟨_, (pss_l1 (ps_ret (pe_and (pe_callH H_is_whole (hr.mono (by decide)) rfl (pa_l1 (pv 0))) (pe_one (pe_chain op_le op_lt pe_int (pv 0) (pe_op op_pow pe_int pe_int)))))), ?_⟩
    walk_at "rd"
    refine ⟨d, v, rfl, hR, _, rfl, ?_⟩
    cases d with
    | int i =>
      cases (show v = .int i from hR)
      rw [if_pos (by simp [wholeD, isT, tyD])]
      refine ⟨i, rfl, ?_⟩
      split
      · rename_i h
        refine ⟨i, rfl, ?_⟩
        rwa [show amountD (.int i) = decide (i < 1000000000000000000000000000000000000000000000000000000000000) from by unfold amountD; simp [h]] at k
      · rename_i h
        rwa [show amountD (.int i) = false from by unfold amountD; simp [h]] at k
    | _ => exact k
def sp_amount_in (Ax : Ad) : Sp := fun vs H Q E => ∃ x, vs = [.str x] ∧ x.length ≤ 5000 ∧ (amtOk x = true → ∀ H', Same H H' → Q (.int (numV x)) H') ∧ (amtOk x = false → ∀ H', Same H H' → E (.ref Ax.NoRow) none H')
theorem ok_amount_in (T : Txt w K mg Ax) (D : Dfn K mg "amount_in" s_amount_in ["word"]) (H_check_row : HasE P w K mg base 1 "check_row" ["right"] (sp_check_row Ax)) (H_number_in : HasE P w K mg base 2 "number_in" ["word"] (sp_number_in Ax)) (H_is_amount : Has P w K mg base 2 "is_amount" ["thing"] sp_is_amount) : HasE P w K mg base 3 "amount_in" ["word"] (sp_amount_in Ax) := by
  refine D.hasE sc_amount_in (fun vs H Q E h => ?_) (fun f cdv A outer s H vs Q E hr h => ?_)
  · obtain ⟨x, rfl, _⟩ := h
    rfl
  · obtain ⟨x, rfl, hx, hQ, hE⟩ := h
    have hu := hu_of hr
    have hu64 := hr.units
    refine ⟨_, (pss_l3 (ps_set (i := 1) sc_amount_in.nd rfl (Or.inl rfl) (pe_callE (E := E) H_number_in (hr.mono (by decide)) (by rfl) (passE (show Leaves _ E from ⟨rfl, rfl, rfl, fun _ _ h => h⟩)) (pa_l1 (pv 0))))
      (ps_expr (pe_callE (E := E) H_check_row (hr.mono (by decide)) (by rfl) (passE (show Leaves _ E from ⟨rfl, rfl, rfl, fun _ _ h => h⟩)) (pa_l1 (pe_callH H_is_amount (hr.mono (by decide)) rfl (pa_l1 (pv 1))))))
      (ps_ret (pv 1))), ?_⟩
    walk_at "rx"
    refine ⟨x, rfl, hx, fun h H1 s1 => ?_, fun h H1 s1 => hE (by unfold amtOk; rw [h]; rfl) _ s1⟩
    obtain ⟨h0, h60⟩ := numV_small h
    refine ⟨.int (numV x), .int (numV x), rfl, rfl, ⟨_, rfl, fun ha => ?_, fun ha => ?_⟩⟩
    · rw [amountD_int, decide_eq_true_eq] at ha
      exact hQ (by unfold amtOk; rw [h, decide_eq_true ha.1]; rfl) _ s1
    · rw [amountD_int, decide_eq_false_iff_not] at ha
      exact hE (by unfold amtOk; rw [h, decide_eq_false (fun z => ha ⟨z, h60⟩)]; rfl) _ s1
def sp_lay_in (K : PySem.W.Frag) (Ax : Ad) : Sp := fun vs H Q E => ∃ p ws, vs = [.ref p] ∧ H p = some (.lst (List.map V.str ws)) ∧ (∀ w ∈ ws, w.length ≤ 5000) ∧ (∀ d, three amtOk .lay ws = some d → ∀ r H', Same H H' → DeedAt Ax H' r d → Q (.ref r) H') ∧ (three amtOk .lay ws = none → ∀ H', Same H H' → E (.ref Ax.NoRow) none H')
theorem ok_lay_in (T : Txt w K mg Ax) (D : Dfn K mg "lay_in" s_lay_in ["words"]) (H_check_row : HasE P w K mg base 1 "check_row" ["right"] (sp_check_row Ax)) (H_Lay__init : HasM P w K mg base 1 Ax.Lay__init ["self", "shelf", "amount"] (sp_Lay__init Ax)) (H_shelf_in : HasE P w K mg base 3 "shelf_in" ["house", "ware"] (sp_shelf_in Ax)) (H_amount_in : HasE P w K mg base 3 "amount_in" ["word"] (sp_amount_in Ax)) : HasE P w K mg base 4 "lay_in" ["words"] (sp_lay_in K Ax) := by
  refine D.hasE sc_lay_in (fun vs H Q E h => ?_) (fun f cdv A outer s H vs Q E hr h => ?_)
  · obtain ⟨p, ws, rfl, _⟩ := h
    rfl
  · obtain ⟨p, ws, rfl, hp, hw, hQ, hE⟩ := h
    have hu := hu_of hr
    have hu64 := hr.units
    refine ⟨_, (pss_l2 (ps_expr (pe_callE (E := E) H_check_row (hr.mono (by decide)) (by rfl) (passE (show Leaves _ E from ⟨rfl, rfl, rfl, fun _ _ h => h⟩)) (pa_l1 (pe_cmpR op_eq (pe_cB (call_len_seqk (K := K) rfl) (by rfl) T.b_len (by rfl) (pa_l1 (pv 0))) pe_int (nomark _)))))
      (ps_ret (pe_makeM H_Lay__init T.mk_Lay (hr.mono (by decide)) (by rfl) T.c_Lay (pa_l2 (pe_callE (E := E) H_shelf_in (hr.mono (by decide)) (by rfl) (passE (show Leaves _ E from ⟨rfl, rfl, rfl, fun _ _ h => h⟩)) (pa_l2 (pe_ix (ix_listk (K := K) rfl) (pv 0) pe_int (fun _ _ => rfl)) (pe_ix (ix_listk (K := K) rfl) (pv 0) pe_int (fun _ _ => rfl)))) (pe_callE (E := E) H_amount_in (hr.mono (by decide)) (by rfl) (passE (show Leaves _ E from ⟨rfl, rfl, rfl, fun _ _ h => h⟩)) (pa_l1 (pe_ix (ix_listk (K := K) rfl) (pv 0) pe_int (fun _ _ => rfl)))))))), ?_⟩
    walk_at "rx"
    refine ⟨p, _, rfl, .inl (SqL.of hp), rfl, ⟨_, rfl, fun h3 => ?_, fun h3 => ?_⟩⟩
    · have h3 := len_yes (n := 3) h3
      match ws, hp, hw, h3, hQ, hE with
      | [a, b, n], hp, hw, _, hQ, hE =>
        refine ixL_of hp (by rfl) (ixL_of hp (by rfl) ?_)
        have hdf : three amtOk .lay [a, b, n] = if nameS a && nameS b && amtOk n then some (.lay a b n) else none := rfl
        refine ⟨a, b, rfl, hw a (by simp), hw b (by simp), fun ha hb t H1 s1 ht => ?_, fun h H1 s1 => hE (by rw [hdf, h]; rfl) _ s1⟩
        refine ixL_of (s1 _ _ hp) (by rfl) ?_
        refine ⟨n, rfl, hw n (by simp), fun hn H2 s2 => ?_, fun hn H2 s2 => hE (by rw [hdf, hn, Bool.and_false]; rfl) _ (s1.trans s2)⟩
        intro r dx hr hdx hne
        refine ⟨r, dx, _, _, rfl, upd_same, rfl, hQ (.lay a b n) (by rw [hdf, ha, hb, hn]; rfl) r _ ?_ ⟨t, ⟨dx, upd_same⟩, ?_⟩⟩
        · rw [upd_upd]
          exact (((s1.trans s2).updT hdx).updT (by rw [upd_ne (Ne.symm hne)]; exact hr))
        · have ht2 := s2 _ _ ht
          rw [upd_upd, upd_ne (fun e => by rw [e, hr] at ht2; cases ht2), upd_ne (fun e => by rw [e, hdx] at ht2; cases ht2)]
          exact ht2
    · refine hE ?_ _ (Same.refl _)
      have h3 := len_no (n := 3) h3
      match ws, h3 with
      | [], _ => rfl
      | [_], _ => rfl
      | [_, _], _ => rfl
      | [_, _, _], h3 => exact absurd rfl h3
      | _ :: _ :: _ :: _ :: _, _ => rfl
def sp_Take__init (Ax : Ad) : Sp := fun vs H Q _ => ∃ x dx sh am, vs = [.ref x, sh, am] ∧ H x = some (.ins Ax.Take dx []) ∧ Q .non (upd H x (.ins Ax.Take dx (shF sh "amount" am)))
theorem ok_Take__init (T : Txt w K mg Ax) (D : DfnM K "__init__" "Take.__init__" s_Take__init ["self", "shelf", "amount"] Ax.Take__init)  : HasM P w K mg base 1 Ax.Take__init ["self", "shelf", "amount"] (sp_Take__init Ax) := by
  refine D.has sc_Take__init (fun vs H Q E h => ?_) (fun cdv A outer s H vs Q E hr h => ?_)
  · obtain ⟨x, dx, sh, am, rfl, _⟩ := h
    rfl
  · obtain ⟨x, dx, sh, am, rfl, hx, k⟩ := h
    have hu := hu_of hr
    have hu64 := hr.units
    refine ⟨_, (pss_l2 (ps_fld (pv 0) (pv 1) (by rfl))
      (ps_fld (pv 0) (pv 2) (by rfl))), ?_⟩
    walk_at "rx"
    refine ⟨_, _, _, hx, T.cl_Take, T.na_Take_shelf, by decide, ?_⟩
    refine ⟨_, _, _, upd_same, T.cl_Take, T.na_Take_amount, put1_len _ _, ?_⟩
    rw [upd_upd]
    exact k
def sp_take_in (K : PySem.W.Frag) (Ax : Ad) : Sp := fun vs H Q E => ∃ p ws, vs = [.ref p] ∧ H p = some (.lst (List.map V.str ws)) ∧ (∀ w ∈ ws, w.length ≤ 5000) ∧ (∀ d, three amtOk .take ws = some d → ∀ r H', Same H H' → DeedAt Ax H' r d → Q (.ref r) H') ∧ (three amtOk .take ws = none → ∀ H', Same H H' → E (.ref Ax.NoRow) none H')
theorem ok_take_in (T : Txt w K mg Ax) (D : Dfn K mg "take_in" s_take_in ["words"]) (H_check_row : HasE P w K mg base 1 "check_row" ["right"] (sp_check_row Ax)) (H_shelf_in : HasE P w K mg base 3 "shelf_in" ["house", "ware"] (sp_shelf_in Ax)) (H_amount_in : HasE P w K mg base 3 "amount_in" ["word"] (sp_amount_in Ax)) (H_Take__init : HasM P w K mg base 1 Ax.Take__init ["self", "shelf", "amount"] (sp_Take__init Ax)) : HasE P w K mg base 4 "take_in" ["words"] (sp_take_in K Ax) := by
  refine D.hasE sc_take_in (fun vs H Q E h => ?_) (fun f cdv A outer s H vs Q E hr h => ?_)
  · obtain ⟨p, ws, rfl, _⟩ := h
    rfl
  · obtain ⟨p, ws, rfl, hp, hw, hQ, hE⟩ := h
    have hu := hu_of hr
    have hu64 := hr.units
    refine ⟨_, (pss_l2 (ps_expr (pe_callE (E := E) H_check_row (hr.mono (by decide)) (by rfl) (passE (show Leaves _ E from ⟨rfl, rfl, rfl, fun _ _ h => h⟩)) (pa_l1 (pe_cmpR op_eq (pe_cB (call_len_seqk (K := K) rfl) (by rfl) T.b_len (by rfl) (pa_l1 (pv 0))) pe_int (nomark _)))))
      (ps_ret (pe_makeM H_Take__init T.mk_Take (hr.mono (by decide)) (by rfl) T.c_Take (pa_l2 (pe_callE (E := E) H_shelf_in (hr.mono (by decide)) (by rfl) (passE (show Leaves _ E from ⟨rfl, rfl, rfl, fun _ _ h => h⟩)) (pa_l2 (pe_ix (ix_listk (K := K) rfl) (pv 0) pe_int (fun _ _ => rfl)) (pe_ix (ix_listk (K := K) rfl) (pv 0) pe_int (fun _ _ => rfl)))) (pe_callE (E := E) H_amount_in (hr.mono (by decide)) (by rfl) (passE (show Leaves _ E from ⟨rfl, rfl, rfl, fun _ _ h => h⟩)) (pa_l1 (pe_ix (ix_listk (K := K) rfl) (pv 0) pe_int (fun _ _ => rfl)))))))), ?_⟩
    walk_at "rx"
    refine ⟨p, _, rfl, .inl (SqL.of hp), rfl, ⟨_, rfl, fun h3 => ?_, fun h3 => ?_⟩⟩
    · have h3 := len_yes (n := 3) h3
      match ws, hp, hw, h3, hQ, hE with
      | [a, b, n], hp, hw, _, hQ, hE =>
        refine ixL_of hp (by rfl) (ixL_of hp (by rfl) ?_)
        have hdf : three amtOk .take [a, b, n] = if nameS a && nameS b && amtOk n then some (.take a b n) else none := rfl
        refine ⟨a, b, rfl, hw a (by simp), hw b (by simp), fun ha hb t H1 s1 ht => ?_, fun h H1 s1 => hE (by rw [hdf, h]; rfl) _ s1⟩
        refine ixL_of (s1 _ _ hp) (by rfl) ?_
        refine ⟨n, rfl, hw n (by simp), fun hn H2 s2 => ?_, fun hn H2 s2 => hE (by rw [hdf, hn, Bool.and_false]; rfl) _ (s1.trans s2)⟩
        intro r dx hr hdx hne
        refine ⟨r, dx, _, _, rfl, upd_same, rfl, hQ (.take a b n) (by rw [hdf, ha, hb, hn]; rfl) r _ ?_ ⟨t, ⟨dx, upd_same⟩, ?_⟩⟩
        · rw [upd_upd]
          exact (((s1.trans s2).updT hdx).updT (by rw [upd_ne (Ne.symm hne)]; exact hr))
        · have ht2 := s2 _ _ ht
          rw [upd_upd, upd_ne (fun e => by rw [e, hr] at ht2; cases ht2), upd_ne (fun e => by rw [e, hdx] at ht2; cases ht2)]
          exact ht2
    · refine hE ?_ _ (Same.refl _)
      have h3 := len_no (n := 3) h3
      match ws, h3 with
      | [], _ => rfl
      | [_], _ => rfl
      | [_, _], _ => rfl
      | [_, _, _], h3 => exact absurd rfl h3
      | _ :: _ :: _ :: _ :: _, _ => rfl
def sp_Line__init (Ax : Ad) : Sp := fun vs H Q _ => ∃ x dx sh am, vs = [.ref x, sh, am] ∧ H x = some (.ins Ax.Line dx []) ∧ Q .non (upd H x (.ins Ax.Line dx (shF sh "line" am)))
theorem ok_Line__init (T : Txt w K mg Ax) (D : DfnM K "__init__" "Line.__init__" s_Line__init ["self", "shelf", "line"] Ax.Line__init)  : HasM P w K mg base 1 Ax.Line__init ["self", "shelf", "line"] (sp_Line__init Ax) := by
  refine D.has sc_Line__init (fun vs H Q E h => ?_) (fun cdv A outer s H vs Q E hr h => ?_)
  · obtain ⟨x, dx, sh, am, rfl, _⟩ := h
    rfl
  · obtain ⟨x, dx, sh, am, rfl, hx, k⟩ := h
    have hu := hu_of hr
    have hu64 := hr.units
    refine ⟨_, (pss_l2 (ps_fld (pv 0) (pv 1) (by rfl))
      (ps_fld (pv 0) (pv 2) (by rfl))), ?_⟩
    walk_at "rx"
    refine ⟨_, _, _, hx, T.cl_Line, T.na_Line_shelf, by decide, ?_⟩
    refine ⟨_, _, _, upd_same, T.cl_Line, T.na_Line_line, put1_len _ _, ?_⟩
    rw [upd_upd]
    exact k
def sp_line_in (K : PySem.W.Frag) (Ax : Ad) : Sp := fun vs H Q E => ∃ p ws, vs = [.ref p] ∧ H p = some (.lst (List.map V.str ws)) ∧ (∀ w ∈ ws, w.length ≤ 5000) ∧ (∀ d, three numOk .line ws = some d → ∀ r H', Same H H' → DeedAt Ax H' r d → Q (.ref r) H') ∧ (three numOk .line ws = none → ∀ H', Same H H' → E (.ref Ax.NoRow) none H')
theorem ok_line_in (T : Txt w K mg Ax) (D : Dfn K mg "line_in" s_line_in ["words"]) (H_check_row : HasE P w K mg base 1 "check_row" ["right"] (sp_check_row Ax)) (H_shelf_in : HasE P w K mg base 3 "shelf_in" ["house", "ware"] (sp_shelf_in Ax)) (H_number_in : HasE P w K mg base 2 "number_in" ["word"] (sp_number_in Ax)) (H_Line__init : HasM P w K mg base 1 Ax.Line__init ["self", "shelf", "line"] (sp_Line__init Ax)) : HasE P w K mg base 4 "line_in" ["words"] (sp_line_in K Ax) := by
  refine D.hasE sc_line_in (fun vs H Q E h => ?_) (fun f cdv A outer s H vs Q E hr h => ?_)
  · obtain ⟨p, ws, rfl, _⟩ := h
    rfl
  · obtain ⟨p, ws, rfl, hp, hw, hQ, hE⟩ := h
    have hu := hu_of hr
    have hu64 := hr.units
    refine ⟨_, (pss_l2 (ps_expr (pe_callE (E := E) H_check_row (hr.mono (by decide)) (by rfl) (passE (show Leaves _ E from ⟨rfl, rfl, rfl, fun _ _ h => h⟩)) (pa_l1 (pe_cmpR op_eq (pe_cB (call_len_seqk (K := K) rfl) (by rfl) T.b_len (by rfl) (pa_l1 (pv 0))) pe_int (nomark _)))))
      (ps_ret (pe_makeM H_Line__init T.mk_Line (hr.mono (by decide)) (by rfl) T.c_Line (pa_l2 (pe_callE (E := E) H_shelf_in (hr.mono (by decide)) (by rfl) (passE (show Leaves _ E from ⟨rfl, rfl, rfl, fun _ _ h => h⟩)) (pa_l2 (pe_ix (ix_listk (K := K) rfl) (pv 0) pe_int (fun _ _ => rfl)) (pe_ix (ix_listk (K := K) rfl) (pv 0) pe_int (fun _ _ => rfl)))) (pe_callE (E := E) H_number_in (hr.mono (by decide)) (by rfl) (passE (show Leaves _ E from ⟨rfl, rfl, rfl, fun _ _ h => h⟩)) (pa_l1 (pe_ix (ix_listk (K := K) rfl) (pv 0) pe_int (fun _ _ => rfl)))))))), ?_⟩
    walk_at "rx"
    refine ⟨p, _, rfl, .inl (SqL.of hp), rfl, ⟨_, rfl, fun h3 => ?_, fun h3 => ?_⟩⟩
    · have h3 := len_yes (n := 3) h3
      match ws, hp, hw, h3, hQ, hE with
      | [a, b, n], hp, hw, _, hQ, hE =>
        refine ixL_of hp (by rfl) (ixL_of hp (by rfl) ?_)
        have hdf : three numOk .line [a, b, n] = if nameS a && nameS b && numOk n then some (.line a b n) else none := rfl
        refine ⟨a, b, rfl, hw a (by simp), hw b (by simp), fun ha hb t H1 s1 ht => ?_, fun h H1 s1 => hE (by rw [hdf, h]; rfl) _ s1⟩
        refine ixL_of (s1 _ _ hp) (by rfl) ?_
        refine ⟨n, rfl, hw n (by simp), fun hn H2 s2 => ?_, fun hn H2 s2 => hE (by rw [hdf, hn, Bool.and_false]; rfl) _ (s1.trans s2)⟩
        intro r dx hr hdx hne
        refine ⟨r, dx, _, _, rfl, upd_same, rfl, hQ (.line a b n) (by rw [hdf, ha, hb, hn]; rfl) r _ ?_ ⟨t, ⟨dx, upd_same⟩, ?_⟩⟩
        · rw [upd_upd]
          exact (((s1.trans s2).updT hdx).updT (by rw [upd_ne (Ne.symm hne)]; exact hr))
        · have ht2 := s2 _ _ ht
          rw [upd_upd, upd_ne (fun e => by rw [e, hr] at ht2; cases ht2), upd_ne (fun e => by rw [e, hdx] at ht2; cases ht2)]
          exact ht2
    · refine hE ?_ _ (Same.refl _)
      have h3 := len_no (n := 3) h3
      match ws, h3 with
      | [], _ => rfl
      | [_], _ => rfl
      | [_, _], _ => rfl
      | [_, _, _], h3 => exact absurd rfl h3
      | _ :: _ :: _ :: _ :: _, _ => rfl
def sp_Offer__init (Ax : Ad) : Sp := fun vs H Q _ => ∃ x dx dl, vs = [.ref x, dl] ∧ H x = some (.ins Ax.Offer dx []) ∧ Q .non (upd H x (.ins Ax.Offer dx (putF "deal" dl [])))
theorem ok_Offer__init (T : Txt w K mg Ax) (D : DfnM K "__init__" "Offer.__init__" s_Offer__init ["self", "deal"] Ax.Offer__init)  : HasM P w K mg base 1 Ax.Offer__init ["self", "deal"] (sp_Offer__init Ax) := by
  refine D.has sc_Offer__init (fun vs H Q E h => ?_) (fun cdv A outer s H vs Q E hr h => ?_)
  · obtain ⟨x, dx, dl, rfl, _⟩ := h
    rfl
  · obtain ⟨x, dx, dl, rfl, hx, k⟩ := h
    have hu := hu_of hr
    have hu64 := hr.units
    refine ⟨_, (pss_l1 (ps_fld (pv 0) (pv 1) (by rfl))), ?_⟩
    walk_at "rx"
    refine ⟨_, _, _, hx, T.cl_Offer, T.na_Offer_deal, by decide, ?_⟩
    exact k
def sp_leg_in (K : PySem.W.Frag) (Ax : Ad) : Sp := fun vs H Q E => ∃ x, vs = [.str x] ∧ x.length ≤ 5000 ∧ (∀ l, legT x = some l → ∀ t H', Same H H' → H' t = some (.tup [.str l.1, .str l.2.1, .str l.2.2.1, .int l.2.2.2]) → Q (.ref t) H') ∧ (legT x = none → ∀ H', Same H H' → E (.ref Ax.NoRow) none H')
theorem ok_leg_in (T : Txt w K mg Ax) (D : Dfn K mg "leg_in" s_leg_in ["text"]) (H_check_row : HasE P w K mg base 1 "check_row" ["right"] (sp_check_row Ax)) (H_number_in : HasE P w K mg base 2 "number_in" ["word"] (sp_number_in Ax)) : HasE P w K mg base 3 "leg_in" ["text"] (sp_leg_in K Ax) := by
  refine D.hasE sc_leg_in (fun vs H Q E h => ?_) (fun f cdv A outer s H vs Q E hr h => ?_)
  · obtain ⟨x, rfl, _⟩ := h
    rfl
  · obtain ⟨x, rfl, hx, hQ, hE⟩ := h
    have hu := hu_of hr
    have hu64 := hr.units
    refine ⟨_, (pss_l3 (ps_set (i := 1) sc_leg_in.nd rfl (Or.inl rfl) (pe_mk (K := K) rfl PySem.F.plainAttrs_str PySem.F.slot_str_split PySem.F.type_str_split mt_split (pv 0) (pa_l1 pe_str)))
      (ps_expr (pe_callE (E := E) H_check_row (hr.mono (by decide)) (by rfl) (passE (show Leaves _ E from ⟨rfl, rfl, rfl, fun _ _ h => h⟩)) (pa_l1 (pe_cmpR op_eq (pe_cB (call_len_seqk (K := K) rfl) (by rfl) T.b_len (by rfl) (pa_l1 (pv 1))) pe_int (nomark _)))))
      (ps_ret (pe_tup (pa_l4 (pe_ix (ix_listk (K := K) rfl) (pv 1) pe_int (fun _ _ => rfl)) (pe_ix (ix_listk (K := K) rfl) (pv 1) pe_int (fun _ _ => rfl)) (pe_ix (ix_listk (K := K) rfl) (pv 1) pe_int (fun _ _ => rfl)) (pe_callE (E := E) H_number_in (hr.mono (by decide)) (by rfl) (passE (show Leaves _ E from ⟨rfl, rfl, rfl, fun _ _ h => h⟩)) (pa_l1 (pe_ix (ix_listk (K := K) rfl) (pv 1) pe_int (fun _ _ => rfl)))))))), ?_⟩
    walk_at "rx"
    refine ⟨ty_str, by decide +kernel, by decide +kernel, by omega, fun p hp => ?_⟩
    have hpt : ∀ w ∈ Txt.split x blank, w.length ≤ 5000 := fun w hw => Nat.le_trans (split_part (by decide +kernel) (by decide +kernel) hw) hx
    have hdf : legT x = match Txt.split x blank with | [a, b, c, n] => if numOk n then some (a, b, c, numV n) else none | _ => none := rfl
    generalize Txt.split x blank = ws at hpt hdf
    have s1 := Same.upd (o := .lst (ws.map V.str)) hp
    have h1 : (upd H p (.lst (ws.map V.str))) p = some (.lst (ws.map V.str)) := upd_same
    generalize upd H p (.lst (ws.map V.str)) = H1 at s1 h1
    refine ⟨p, _, rfl, .inl (SqL.of h1), rfl, ⟨_, rfl, fun h3 => ?_, fun h3 => ?_⟩⟩
    · have h3 := len_yes (n := 4) h3
      match ws, h1, hpt, h3, hdf with
      | [a, b, c, n], h1, hpt, _, hdf =>
        refine ixL_of h1 (by rfl) (ixL_of h1 (by rfl) (ixL_of h1 (by rfl) (ixL_of h1 (by rfl) ?_)))
        refine ⟨n, rfl, hpt n (by simp), fun hn H2 s2 t ht => ?_, fun hn H2 s2 => hE (by rw [hdf]; show (if numOk n = true then _ else _) = _; rw [hn]; rfl) _ (s1.trans s2)⟩
        refine hQ (a, b, c, numV n) (by rw [hdf]; show (if numOk n = true then _ else _) = _; rw [hn]; rfl) t _ ((s1.trans s2).trans (Same.upd ht)) upd_same
    · refine hE ?_ _ s1
      rw [hdf]
      have h3 := len_no (n := 4) h3
      match ws, h3 with
      | [], _ => rfl
      | [_], _ => rfl
      | [_, _], _ => rfl
      | [_, _, _], _ => rfl
      | [_, _, _, _], h3 => exact absurd rfl h3
      | _ :: _ :: _ :: _ :: _ :: _, _ => rfl
def sp_is_leg (K : PySem.W.Frag) : Sp := fun vs H Q _ => ∃ d v, vs = [v] ∧ Rep H d v ∧ okT d ∧ ∀ H', Same H H' → Q (.bl (legD d)) H'
theorem ok_is_leg (T : Txt w K mg Ax) (D : Dfn K mg "is_leg" s_is_leg ["thing"]) (H_is_name : Has P w K mg base 1 "is_name" ["thing"] sp_is_name) (H_is_amount : Has P w K mg base 2 "is_amount" ["thing"] sp_is_amount) : Has P w K mg base 3 "is_leg" ["thing"] (sp_is_leg K) := by
  refine D.has sc_is_leg (fun vs H Q E h => ?_) (fun f cdv A outer s H vs Q E hr h => ?_)
  · obtain ⟨d, v, rfl, _⟩ := h
    rfl
  · obtain ⟨d, v, rfl, hR, hz, k⟩ := h
    have hu := hu_of hr
    have hu64 := hr.units
    refine ⟨_, (pss_l3 (ps_if (PW.pt (pw_or (pt_not (pt_val (pe_cB (call_isik (K := K) rfl) (by rfl) T.b_isinstance (by rfl) (pa_l2 (pv 0) (pe_ty (by rfl) T.b_tuple (by rfl)))))) (pw_or1 (pt_cmpR op_ne (pe_cB (call_len_seqk (K := K) rfl) (by rfl) T.b_len (by rfl) (pa_l1 (pv 0))) pe_int (nomark _)))))
      (pss_l1 (ps_ret pe_bl))
      pss_nil)
      (ps_if (pt_not (pt_val (pe_cB (call_allk (K := K) rfl rfl) (by rfl) T.b_all (by rfl) (pa_l1 (pe_comp (show CompSc ["thing"] ["part"] (defScope s_is_leg) _ [none] from by exact ⟨rfl, by decide +kernel, by decide +kernel, by decide +kernel, by decide +kernel⟩) (pi_tupk (K := K) rfl (pe_slice (sl_tupk (K := K) rfl) (pv 0) po_none (po_some pe_int))) (fun _ _ _ => (pg_name (i := 0) (show List.Nodup [("part" : Str)] from by decide +kernel) rfl (Or.inl rfl))) (fun _ _ _ => pf_nil) (fun _ _ _ => (pe_callH H_is_name (hr.mono (by decide)) rfl (pa_l1 (pv 0)))))))))
      (pss_l1 (ps_ret pe_bl))
      pss_nil)
      (ps_ret (pe_and (pe_cmpR op_ne (pe_ix (ix_tupk (K := K) rfl) (pv 0) pe_int (fun _ _ => rfl)) (pe_ix (ix_tupk (K := K) rfl) (pv 0) pe_int (fun _ _ => rfl)) (nomark _)) (pe_one (pe_callH H_is_amount (hr.mono (by decide)) rfl (pa_l1 (pe_ix (ix_tupk (K := K) rfl) (pv 0) pe_int (fun _ _ => rfl)))))))), ?_⟩
    walk_at "rx"
    refine isi_of hR (by simp) ⟨_, rfl, ?_⟩
    cases d with
    | tuple ds =>
      obtain ⟨a, vs, rfl, ha, hv⟩ := hR
      have hz := hz ds rfl
      rw [if_neg (by simp [isT, tyD])]
      have hl := reps_len hv
      refine ⟨a, vs, rfl, .inr (SqT.of ha), rfl, ite2 (fun h => ?_) (fun h => ?_)⟩
      · have hne : ds.length ≠ 4 := fun e => h (by rw [hl, e]; rfl)
        have := k H (Same.refl H)
        rwa [show legD (.tuple ds) = false from by
          match ds, hne with
          | [], _ => rfl
          | [_], _ => rfl
          | [_, _], _ => rfl
          | [_, _, _], _ => rfl
          | [_, _, _, _], e => exact absurd rfl e
          | _ :: _ :: _ :: _ :: _ :: _, _ => rfl] at this
      · have h4 : ds.length = 4 := by
          have h := Decidable.not_not.mp h
          injection h with h
          omega
        match ds, h4, hv, hz, k with
        | [d0, d1, d2, d3], _, ⟨v0, r0, e0, h0, v1, r1, e1, h1, v2, r2, e2, h2, v3, r3, e3, h3, e4⟩, hz, k =>
          subst e0; subst e1; subst e2; subst e3; cases (show r3 = [] from e4)
          refine ⟨a, _, rfl, SqT.of ha, (show ¬ (HT.sIx 4 0 none = 0 ∧ HT.sIx 4 4 (some 3) = 4) by decide), fun q hq => ?_⟩
          rw [show cutV [v0, v1, v2, v3] none (some 3) = [v0, v1, v2] from rfl]
          have s1 := Same.upd (o := .tup [v0, v1, v2]) hq
          have hq1 : (upd H q (.tup [v0, v1, v2])) q = some (.tup [v0, v1, v2]) := upd_same
          generalize upd H q (.tup [v0, v1, v2]) = H1 at s1 hq1
          have hv3 : Reps H1 [d0, d1, d2] [v0, v1, v2] := ⟨_, _, rfl, h0.mono s1, _, _, rfl, h1.mono s1, _, _, rfl, h2.mono s1, rfl⟩
          have hsb := sizeLine_big
          refine ⟨q, rfl, ⟨_, SqT.of hq1⟩, comp_w (y_tup K q [v0, v1, v2]) (fun i σ acc H2 => (∃ o, σ = [o]) ∧ Same H1 H2 ∧ acc = (([d0, d1, d2].take i).map nameD).map V.bl) ?_ ?_ ?_ ?_⟩
          · exact ⟨⟨none, rfl⟩, Same.refl _, rfl⟩
          · rintro i σ acc H2 hi ⟨_, s2, rfl⟩
            refine ⟨SqT.of (s2 _ _ hq1), fun _ => ?_⟩
            rw [List.length_map, List.length_map, List.length_take]
            have : [d0, d1, d2].length = 3 := rfl
            omega
          · rintro i σ acc H2 y H' hi ⟨⟨o, rfl⟩, s2, rfl⟩ ⟨rfl, hy⟩
            obtain ⟨d, hd, hr⟩ := reps_get hv3 hy
            walk_at "rx"
            refine ⟨d, y, rfl, hr.mono s2, hz d ?_, fun H3 s3 => ⟨s2.trans s3, (take_all hd).symm⟩⟩
            have := List.mem_of_getElem? hd
            simp only [List.mem_cons, List.not_mem_nil, or_false] at this ⊢
            rcases this with h | h | h
            · exact .inl h
            · exact .inr (.inl h)
            · exact .inr (.inr (.inl h))
          · rintro σ acc H2 ⟨_, s2, rfl⟩ r hr
            have s3 := (s1.trans s2).updT (o := .lst [.bl (nameD d0), .bl (nameD d1), .bl (nameD d2)]) hr
            refine ⟨r, [nameD d0, nameD d1, nameD d2], rfl, SqL.of upd_same, ⟨_, rfl, ite2 (fun h => ?_) (fun h => ?_)⟩⟩
            · have := k _ s3
              rwa [show legD (.tuple [d0, d1, d2, d3]) = false from by
                have h : (nameD d0 && (nameD d1 && (nameD d2 && true))) = false := h
                rw [legD_four]
                cases g0 : nameD d0 <;> cases g1 : nameD d1 <;> cases g2 : nameD d2 <;> simp_all] at this
            · have g : (nameD d0 && (nameD d1 && (nameD d2 && true))) = true := by simpa using h
              clear h
              simp only [Bool.and_eq_true, and_true] at g
              obtain ⟨x0, rfl⟩ := nameD_is g.1
              obtain ⟨x1, rfl⟩ := nameD_is g.2.1
              cases (show v0 = .str x0 from h0)
              cases (show v1 = .str x1 from h1)
              refine ixT_of (s3 _ _ ha) (by rfl) (ixT_of (s3 _ _ ha) (by rfl) ⟨rfl, ite2 (fun hne => ?_) (fun he => ?_)⟩)
              · refine ixT_of (s3 _ _ ha) (by rfl) ⟨d3, v3, rfl, h3.mono s3, ?_⟩
                have := k _ s3
                rwa [show legD (.tuple [.str x0, .str x1, d2, d3]) = amountD d3 from by
                  rw [legD_four, g.1, g.2.1, g.2.2, eqv_ne (fun z => hne (by rw [z]))]; rfl] at this
              · have he : x0 = x1 := by
                  have he := Decidable.not_not.mp he
                  injection he
                have := k _ s3
                rwa [show legD (.tuple [.str x0, .str x1, d2, d3]) = false from by
                  rw [legD_four, he, eqv_self]; simp] at this
    | _ => exact k H (Same.refl H)
def sp_are_legs (K : PySem.W.Frag) : Sp := fun vs H Q _ => ∃ d v, vs = [v] ∧ Rep H d v ∧ okL d ∧ ∀ H', Same H H' → Q (.bl (legsD d)) H'
theorem ok_are_legs (T : Txt w K mg Ax) (D : Dfn K mg "are_legs" s_are_legs ["thing"]) (H_is_leg : Has P w K mg base 3 "is_leg" ["thing"] (sp_is_leg K)) : Has P w K mg base 4 "are_legs" ["thing"] (sp_are_legs K) := by
  refine D.has sc_are_legs (fun vs H Q E h => ?_) (fun f cdv A outer s H vs Q E hr h => ?_)
  · obtain ⟨d, v, rfl, _⟩ := h
    rfl
  · obtain ⟨d, v, rfl, hR, hz, k⟩ := h
    have hu := hu_of hr
    have hu64 := hr.units
    refine ⟨_, (pss_l2 (ps_if (PW.pt (pw_or (pt_not (pt_val (pe_cB (call_isik (K := K) rfl) (by rfl) T.b_isinstance (by rfl) (pa_l2 (pv 0) (pe_ty (by rfl) T.b_list (by rfl)))))) (pw_or1 (pt_not (pt_chain op_le op_le pe_int (pe_cB (call_len_seqk (K := K) rfl) (by rfl) T.b_len (by rfl) (pa_l1 (pv 0))) (pe_globI (by rfl) T.c_MOST_LEGS))))))
      (pss_l1 (ps_ret pe_bl))
      pss_nil)
      (ps_ret (pe_cB (call_allk (K := K) rfl rfl) (by rfl) T.b_all (by rfl) (pa_l1 (pe_comp (show CompSc ["thing"] ["leg"] (defScope s_are_legs) _ [none] from by exact ⟨rfl, by decide +kernel, by decide +kernel, by decide +kernel, by decide +kernel⟩) (pi_listk (K := K) rfl (pv 0)) (fun _ _ _ => (pg_name (i := 0) (show List.Nodup [("leg" : Str)] from by decide +kernel) rfl (Or.inl rfl))) (fun _ _ _ => pf_nil) (fun _ _ _ => (pe_callH H_is_leg (hr.mono (by decide)) rfl (pa_l1 (pv 0))))))))), ?_⟩
    walk_at "rx"
    refine isi_of hR (by simp) ⟨_, rfl, ?_⟩
    cases d with
    | list ds =>
      obtain ⟨a, vs, rfl, ha, hv⟩ := hR
      obtain ⟨hz1, hz2⟩ := hz ds rfl
      rw [if_neg (by simp [isT, tyD])]
      have hl := reps_len hv
      have hsb := sizeLine_big
      refine ⟨a, vs, rfl, .inl (SqL.of ha), ⟨_, rfl, ite2 (fun h1 => ⟨_, rfl, ite2 (fun h8 => ?_) (fun h8 => ?_)⟩) (fun h1 => ?_)⟩⟩
      · have := k H (Same.refl H)
        rwa [show legsD (.list ds) = false from by rw [legsD_list, decide_eq_false (by omega)]; rfl] at this
      · refine ⟨a, rfl, ⟨_, SqL.of ha⟩, comp_w (y_list K a vs) (fun i σ acc H2 => (∃ o, σ = [o]) ∧ Same H H2 ∧ acc = ((ds.take i).map legD).map V.bl) ?_ ?_ ?_ ?_⟩
        · exact ⟨⟨none, rfl⟩, Same.refl _, rfl⟩
        · rintro i σ acc H2 hi ⟨_, s2, rfl⟩
          refine ⟨SqL.of (s2 _ _ ha), fun _ => ?_⟩
          rw [List.length_map, List.length_map, List.length_take]
          omega
        · rintro i σ acc H2 y H' hi ⟨⟨o, rfl⟩, s2, rfl⟩ ⟨rfl, hy⟩
          obtain ⟨d, hd, hr⟩ := reps_get hv hy
          walk_at "rx"
          refine ⟨d, y, rfl, hr.mono s2, hz2 d (List.mem_of_getElem? hd), fun H3 s3 => ?_⟩
          exact ⟨s2.trans s3, (take_all hd).symm⟩
        · rintro σ acc H2 ⟨_, s2, rfl⟩ q hq
          rw [hl, List.take_length]
          refine ⟨q, ds.map legD, rfl, SqL.of upd_same, ?_⟩
          have := k _ (s2.updT (o := .lst ((ds.map legD).map V.bl)) hq)
          rwa [show legsD (.list ds) = (ds.map legD).all id from by rw [legsD_list, decide_eq_true (by omega), List.all_map]; rfl] at this
      · have := k H (Same.refl H)
        rwa [show legsD (.list ds) = false from by rw [legsD_list, decide_eq_false (by omega)]; rfl] at this
    | _ => exact k H (Same.refl H)
def sp_deal_of (K : PySem.W.Frag) (Ax : Ad) : Sp := fun vs H Q E => ∃ dn vn dl vl, vs = [vn, vl] ∧ Rep H dn vn ∧ okS dn ∧ Rep H dl vl ∧ okL dl ∧
  (nameD dn = false → ∀ H', Same H H' → E (.ref Ax.NoName) none H') ∧ (nameD dn = true → legsD dl = false → ∀ H', Same H H' → E (.ref Ax.NoLeg) none H') ∧
  (nameD dn = true → legsD dl = true → ∀ p us t t2 H', vl = .ref p → H p = some (.lst us) → Same H H' → H' t = some (.tup [vn, .ref t2]) → H' t2 = some (.tup us) → Q (.ref t) H')
theorem ok_deal_of (T : Txt w K mg Ax) (D : Dfn K mg "deal_of" s_deal_of ["name", "legs"]) (H_is_name : Has P w K mg base 1 "is_name" ["thing"] sp_is_name) (H_are_legs : Has P w K mg base 4 "are_legs" ["thing"] (sp_are_legs K)) : HasE P w K mg base 5 "deal_of" ["name", "legs"] (sp_deal_of K Ax) := by
  refine D.hasE sc_deal_of (fun vs H Q E h => ?_) (fun f cdv A outer s H vs Q E hr h => ?_)
  · obtain ⟨dn, vn, dl, vl, rfl, _⟩ := h
    rfl
  · obtain ⟨dn, vn, dl, vl, rfl, hn, hzn, hl, hzl, hE1, hE2, hQ⟩ := h
    have hu := hu_of hr
    have hu64 := hr.units
    refine ⟨_, (pss_l3 (ps_if (pt_not (pt_val (pe_callH H_is_name (hr.mono (by decide)) rfl (pa_l1 (pv 0)))))
      (pss_l1 (ps_raise PySem.F.excBase_ValueError (by rfl) T.c_NoName T.q_NoName rfl rfl rfl rfl (fun _ _ h => h) (pa_l1 pe_str)))
      pss_nil)
      (ps_if (pt_not (pt_val (pe_callH H_are_legs (hr.mono (by decide)) rfl (pa_l1 (pv 1)))))
      (pss_l1 (ps_raise PySem.F.excBase_ValueError (by rfl) T.c_NoLeg T.q_NoLeg rfl rfl rfl rfl (fun _ _ h => h) (pa_l1 pe_str)))
      pss_nil)
      (ps_ret (pe_tup (pa_l2 (pv 0) (pe_cT (call_tuple_ofk (K := K) rfl) (by rfl) T.b_tuple (by rfl) (pa_l1 (pv 1))))))), ?_⟩
    walk_at "rx"
    refine ⟨dn, vn, rfl, hn, hzn, fun H1 s1 => ⟨_, rfl, ite2 (fun h => hE1 h _ s1) (fun h => ?_)⟩⟩
    have h : nameD dn = true := by simpa using h
    refine ⟨dl, vl, rfl, hl.mono s1, hzl, fun H2 s2 => ⟨_, rfl, ite2 (fun h2 => hE2 h h2 _ (s1.trans s2)) (fun h2 => ?_)⟩⟩
    have h2 : legsD dl = true := by simpa using h2
    obtain ⟨ds, rfl⟩ : ∃ ds, dl = .list ds := by
      cases dl with
      | list ds => exact ⟨_, rfl⟩
      | _ => cases h2
    obtain ⟨p, us, rfl, hp, hu⟩ := hl
    refine ⟨p, us, rfl, .inl ⟨SqL.of ((s1.trans s2) _ _ hp), fun t2 ht2 t ht => ?_⟩⟩
    have s3 := Same.upd (o := .tup us) ht2
    have s4 := Same.upd (o := .tup [vn, .ref t2]) ht
    exact hQ h h2 p us t t2 _ rfl hp ((s1.trans s2).trans (s3.trans s4)) upd_same (s4 _ _ upd_same)
def sp_name_in (Ax : Ad) : Sp := fun vs H Q E => ∃ x, vs = [.str x] ∧ x.length ≤ 5000 ∧ (nameS x = true → ∀ H', Same H H' → Q (.str x) H') ∧ (nameS x = false → ∀ H', Same H H' → E (.ref Ax.NoRow) none H')
theorem ok_name_in (T : Txt w K mg Ax) (D : Dfn K mg "name_in" s_name_in ["word"]) (H_check_row : HasE P w K mg base 1 "check_row" ["right"] (sp_check_row Ax)) (H_is_name : Has P w K mg base 1 "is_name" ["thing"] sp_is_name) : HasE P w K mg base 2 "name_in" ["word"] (sp_name_in Ax) := by
  refine D.hasE sc_name_in (fun vs H Q E h => ?_) (fun f cdv A outer s H vs Q E hr h => ?_)
  · obtain ⟨x, rfl, _⟩ := h
    rfl
  · obtain ⟨x, rfl, hx, hQ, hE⟩ := h
    have hu := hu_of hr
    have hu64 := hr.units
    refine ⟨_, (pss_l2 (ps_expr (pe_callE (E := E) H_check_row (hr.mono (by decide)) (by rfl) (passE (show Leaves _ E from ⟨rfl, rfl, rfl, fun _ _ h => h⟩)) (pa_l1 (pe_callH H_is_name (hr.mono (by decide)) rfl (pa_l1 (pv 0))))))
      (ps_ret (pv 0))), ?_⟩
    walk_at "rx"
    exact ⟨.str x, .str x, rfl, rfl, okS_big hx, fun H1 s1 => ⟨_, rfl, fun h => hQ h _ s1, fun h => hE h _ s1⟩⟩
def sp_offer_in (K : PySem.W.Frag) (Ax : Ad) : Sp := fun vs H Q E => ∃ p ws, vs = [.ref p] ∧ H p = some (.lst (List.map V.str ws)) ∧ (∀ w ∈ ws, w.length ≤ 5000) ∧ ws.length ≤ 3000 ∧ (Txt.join blank (ws.drop 1)).length ≤ 5000 ∧ (∀ d, offs ws = some d → ∀ r H', Same H H' → DeedAt Ax H' r d → Q (.ref r) H') ∧ (offs ws = none → ∀ H', Same H H' → E (.ref Ax.NoRow) none H')
theorem ok_offer_in (T : Txt w K mg Ax) (D : Dfn K mg "offer_in" s_offer_in ["words"]) (H_check_row : HasE P w K mg base 1 "check_row" ["right"] (sp_check_row Ax)) (H_Offer__init : HasM P w K mg base 1 Ax.Offer__init ["self", "deal"] (sp_Offer__init Ax)) (H_leg_in : HasE P w K mg base 3 "leg_in" ["text"] (sp_leg_in K Ax)) (H_are_legs : Has P w K mg base 4 "are_legs" ["thing"] (sp_are_legs K)) (H_deal_of : HasE P w K mg base 5 "deal_of" ["name", "legs"] (sp_deal_of K Ax)) (H_name_in : HasE P w K mg base 2 "name_in" ["word"] (sp_name_in Ax)) : HasE P w K mg base 6 "offer_in" ["words"] (sp_offer_in K Ax) := by
  refine D.hasE sc_offer_in (fun vs H Q E h => ?_) (fun f cdv A outer s H vs Q E hr h => ?_)
  · obtain ⟨p, ws, rfl, _⟩ := h
    rfl
  · obtain ⟨p, ws, rfl, hp, hw0, hrl0, hj0, hQ0, hE0⟩ := h
    have hu := hu_of hr
    have hu64 := hr.units
    refine ⟨_, (pss_l3 (ps_setcompE (i := 1) sc_offer_in.nd rfl rfl (show CompSc ["words", "legs"] ["text"] (defScope s_offer_in) _ [none] from by exact ⟨rfl, by decide +kernel, by decide +kernel, by decide +kernel, by decide +kernel⟩) (pi_listk (K := K) rfl (pe_mk (K := K) rfl PySem.F.plainAttrs_str PySem.F.slot_str_split PySem.F.type_str_split mt_split (pe_mk (K := K) rfl PySem.F.plainAttrs_str PySem.F.slot_str_join PySem.F.type_str_join (mt_joink (K := K) rfl) pe_str (pa_l1 (pe_slice (sl_listk (K := K) rfl) (pv 0) (po_some pe_int) po_none))) (pa_l1 pe_str))) (fun _ _ _ => (pg_name (i := 0) (show List.Nodup [("text" : Str)] from by decide +kernel) rfl (Or.inl rfl))) (fun _ _ _ => pf_nil) (show Leaves _ E from ⟨rfl, rfl, rfl, fun _ _ h => h⟩) (fun _ _ _ => (pe_callE (E := E) H_leg_in (hr.mono (by decide)) (by rfl) passC (pa_l1 (pv 0)))))
      (ps_expr (pe_callE (E := E) H_check_row (hr.mono (by decide)) (by rfl) (passE (show Leaves _ E from ⟨rfl, rfl, rfl, fun _ _ h => h⟩)) (pa_l1 (pe_callH H_are_legs (hr.mono (by decide)) rfl (pa_l1 (pv 1))))))
      (ps_ret (pe_makeM H_Offer__init T.mk_Offer (hr.mono (by decide)) (by rfl) T.c_Offer (pa_l1 (pe_callE (E := E) H_deal_of (hr.mono (by decide)) (by rfl) (passE (show Leaves _ E from ⟨rfl, rfl, rfl, fun _ _ h => h⟩)) (pa_l2 (pe_callE (E := E) H_name_in (hr.mono (by decide)) (by rfl) (passE (show Leaves _ E from ⟨rfl, rfl, rfl, fun _ _ h => h⟩)) (pa_l1 (pe_ix (ix_listk (K := K) rfl) (pv 0) pe_int (fun _ _ => rfl)))) (pv 1))))))), ?_⟩
    walk_at "rx"
    cases ws with
    | nil =>
      refine ⟨ty_str, p, _, rfl, SqL.of hp, fun q hq => ?_⟩
      have s1 := Same.upd (o := .lst (cutV (List.map V.str []) (some 1) none)) hq
      have h1 : (upd H q (.lst (cutV (List.map V.str []) (some 1) none))) q = some (.lst (List.map V.str [])) := upd_same
      generalize upd H q (.lst (cutV (List.map V.str []) (some 1) none)) = H1 at s1 h1
      refine ⟨_, q, [], rfl, rfl, SqL.of h1, by simp, ?_⟩
      refine ⟨ty_str, _, rfl, by decide +kernel, by decide +kernel, by decide +kernel, fun pt hpt => ?_⟩
      have e1 : Txt.split (Txt.join (Str.ofString " ") []) (Str.ofString ", ") = [Str.empty] := by decide +kernel
      rw [e1]
      have s2 := Same.upd (o := .lst (List.map V.str [Str.empty])) hpt
      have h2 : (upd H1 pt (.lst (List.map V.str [Str.empty]))) pt = some (.lst (List.map V.str [Str.empty])) := upd_same
      generalize upd H1 pt (.lst (List.map V.str [Str.empty])) = H2 at s2 h2
      have hsb := sizeLine_big
      refine ⟨⟨_, SqL.of h2⟩, comp_w (y_list K pt (List.map V.str [Str.empty])) (fun i σ acc H3 => (∃ o, σ = [o]) ∧ Same H2 H3 ∧ i = 0 ∧ acc = []) ?_ ?_ ?_ ?_⟩
      · exact ⟨⟨none, rfl⟩, Same.refl _, rfl, rfl⟩
      · rintro i σ acc H3 hi ⟨_, s3, _, rfl⟩
        refine ⟨SqL.of (s3 _ _ h2), fun _ => ?_⟩
        show 0 < sizeLine
        omega
      · rintro i σ acc H3 y H' hi ⟨⟨o, rfl⟩, s3, rfl, rfl⟩ ⟨rfl, hy⟩
        cases (show V.str Str.empty = y by simpa using hy)
        walk_at "rx"
        refine ⟨Str.empty, rfl, by decide, fun l hl => ?_, fun _ H4 s4 => hE0 rfl _ (((s1.trans s2).trans s3).trans s4)⟩
        have : legT Str.empty = none := by decide +kernel
        rw [this] at hl
        cases hl
      · rintro σ acc H3 ⟨_, _, h, _⟩
        simp at h
    | cons nm rest =>
      have hnm : nm.length ≤ 5000 := hw0 nm List.mem_cons_self
      have hw : ∀ w ∈ rest, w.length ≤ 5000 := fun v hv => hw0 v (List.mem_cons_of_mem _ hv)
      have hrl : rest.length ≤ 3000 := by simp only [List.length_cons] at hrl0; omega
      have hj : (Txt.join blank rest).length ≤ 5000 := hj0
      have hQ : ∀ d, offT nm rest = some d → ∀ r H', Same H H' → DeedAt Ax H' r d → Q (.ref r) H' := hQ0
      have hE : offT nm rest = none → ∀ H', Same H H' → E (.ref Ax.NoRow) none H' := hE0
      refine ⟨ty_str, p, _, rfl, SqL.of hp, fun q hq => ?_⟩
      rw [show cutV (List.map V.str (nm :: rest)) (some 1) none = rest.map V.str from cutV_on (nm :: rest) (by decide)]
      have s1 := Same.upd (o := .lst (rest.map V.str)) hq
      have h1 : (upd H q (.lst (rest.map V.str))) q = some (.lst (rest.map V.str)) := upd_same
      generalize upd H q (.lst (rest.map V.str)) = H1 at s1 h1
      have hsum : (rest.map (·.length)).sum ≤ rest.length * 5000 := (join_small blank rest).resolve_right (fun ⟨v, hv, h⟩ => by have := hw v hv; omega)
      have hb1 : blank.length = 1 := by decide +kernel
      refine ⟨_, q, rest, rfl, rfl, SqL.of h1, by rw [hb1]; omega, ?_⟩
      refine ⟨ty_str, _, rfl, by decide +kernel, by decide +kernel, Nat.le_trans hj (by decide), fun pt hpt => ?_⟩
      have htl : (Txt.split (Txt.join blank rest) comma).length ≤ 5001 := Nat.le_trans (split_len _ _ (by decide +kernel) (by decide +kernel)) (by omega)
      have hts : ∀ t ∈ Txt.split (Txt.join blank rest) comma, t.length ≤ 5000 := fun t ht => Nat.le_trans (split_part (by decide +kernel) (by decide +kernel) ht) hj
      have hdf : offT nm rest = match legsT (Txt.split (Txt.join blank rest) comma) with | some ls => if legsD (.list (ls.map legDat)) && nameS nm then some (.deal nm ls) else none | none => none := rfl
      show (∃ xs, SqL K (upd H1 pt (.lst (List.map V.str (Txt.split (Txt.join blank rest) comma)))) pt xs) ∧ _
      generalize Txt.split (Txt.join blank rest) comma = ts at htl hts hdf
      have s2 := Same.upd (o := .lst (ts.map V.str)) hpt
      have h2 : (upd H1 pt (.lst (ts.map V.str))) pt = some (.lst (ts.map V.str)) := upd_same
      generalize upd H1 pt (.lst (ts.map V.str)) = H2 at s2 h2
      have hsb := sizeLine_big
      refine ⟨⟨_, SqL.of h2⟩, comp_w (y_list K pt (ts.map V.str)) (fun i σ acc H3 => (∃ o, σ = [o]) ∧ Same H2 H3 ∧ ∃ ls, legsT (ts.take i) = some ls ∧ LegsAt H3 ls acc ∧ ∀ l ∈ ls, okT (legDat l)) ?_ ?_ ?_ ?_⟩
      · exact ⟨⟨none, rfl⟩, Same.refl _, [], rfl, .nil, fun _ h => nomatch h⟩
      · rintro i σ acc H3 hi ⟨_, s3, ls, hls, hL, _⟩
        refine ⟨SqL.of (s3 _ _ h2), fun _ => ?_⟩
        rw [← hL.len, legsT_len hls, List.length_take]
        omega
      · rintro i σ acc H3 y H' hi ⟨⟨o, rfl⟩, s3, ls, hls, hL, hok⟩ ⟨rfl, hy⟩
        obtain ⟨t, ht, rfl⟩ : ∃ t, ts[i]? = some t ∧ y = V.str t := by
          rw [List.getElem?_map] at hy
          cases hti : ts[i]? with
          | none => rw [hti] at hy; cases hy
          | some t => rw [hti] at hy; cases hy; exact ⟨t, rfl, rfl⟩
        walk_at "rx"
        have htm := hts t (List.mem_of_getElem? ht)
        refine ⟨t, rfl, htm, fun l hl r H4 s4 hr => ⟨s3.trans s4, ls ++ [l], legsT_take hls ht hl, Paired.append (hL.same s4) (.cons ⟨r, rfl, hr⟩ .nil), fun l' hl' => ?_⟩, fun hn H4 s4 => ?_⟩
        · rcases List.mem_append.mp hl' with h | h
          · exact hok l' h
          · rw [List.mem_singleton.mp h]; exact legT_okT hl htm
        · exact hE (by rw [hdf, legsT_none ht hn]) _ (((s1.trans s2).trans s3).trans s4)
      · rintro σ acc H3 ⟨_, s3, ls, hls, hL, hok⟩ r hr
        rw [List.length_map, List.take_length] at hls
        have hlen := legsT_len hls
        have s4 := Same.upd (o := .lst acc) hr
        have h4 : (upd H3 r (.lst acc)) r = some (.lst acc) := upd_same
        generalize upd H3 r (.lst acc) = H4 at s4 h4
        have hL4 := hL.same s4
        have hp4 := s4 _ _ (s3 _ _ (s2 _ _ (s1 _ _ hp)))
        have s04 := ((s1.trans s2).trans s3).trans s4
        have rp : Rep H4 (.list (ls.map legDat)) (.ref r) := ⟨r, acc, rfl, h4, legs_reps hL4⟩
        have ok : okL (.list (ls.map legDat)) := by
          intro ds e
          cases e
          refine ⟨by rw [List.length_map, hlen]; omega, fun d hd => ?_⟩
          obtain ⟨l, hl, rfl⟩ := List.mem_map.mp hd
          exact hok l hl
        have hdf2 : offT nm rest = if legsD (.list (ls.map legDat)) && nameS nm then some (.deal nm ls) else none := by rw [hdf, hls]
        refine ⟨_, _, rfl, rp, ok, fun H5 s5 => ⟨_, rfl, fun hlo => ?_, fun hlo => hE (by rw [hdf2, hlo]; rfl) _ (s04.trans s5)⟩⟩
        refine ixL_of (s5 _ _ hp4) (show atI (List.map V.str (nm :: rest)) ((0 : Nat) : Int) = some (.str nm) from atI_nat rfl) ?_
        refine ⟨nm, rfl, hnm, fun hn H6 s6 => ?_, fun hn H6 s6 => hE (by rw [hdf2, hn, Bool.and_false]; rfl) _ ((s04.trans s5).trans s6)⟩
        have s56 := s5.trans s6
        refine ⟨.str nm, _, .list (ls.map legDat), _, rfl, rfl, okS_big hnm, rp.mono s56, ok, fun z => ?_, fun _ z => ?_, fun _ _ p' us t t2 H7 e hp' s7 ht ht2 => ?_⟩
        · rw [show nameD (.str nm) = true from hn] at z; cases z
        · rw [hlo] at z; cases z
        · cases e
          rw [s56 _ _ h4] at hp'
          cases hp'
          intro x dx hx hdx hne
          have hL7 := (hL4.same s56).same s7
          have s7x : Same H7 (upd (upd (upd H7 dx (.own x)) x (.ins Ax.Offer dx [])) x (.ins Ax.Offer dx (putF "deal" (.ref t) []))) := by
            rw [upd_upd]
            exact ((Same.refl H7).updT hdx).updT (by rw [upd_ne (Ne.symm hne)]; exact hx)
          refine ⟨x, dx, _, rfl, upd_same, rfl, hQ (.deal nm ls) (by rw [hdf2, hlo, hn]; rfl) x _ (((s04.trans s56).trans s7).trans s7x) ⟨t, t2, acc, ⟨dx, upd_same⟩, s7x _ _ ht, s7x _ _ ht2, hL7.same s7x⟩⟩
def sp_Off__init (Ax : Ad) : Sp := fun vs H Q _ => ∃ x dx nm, vs = [.ref x, nm] ∧ H x = some (.ins Ax.Off dx []) ∧ Q .non (upd H x (.ins Ax.Off dx (putF "name" nm [])))
theorem ok_Off__init (T : Txt w K mg Ax) (D : DfnM K "__init__" "Off.__init__" s_Off__init ["self", "name"] Ax.Off__init)  : HasM P w K mg base 1 Ax.Off__init ["self", "name"] (sp_Off__init Ax) := by
  refine D.has sc_Off__init (fun vs H Q E h => ?_) (fun cdv A outer s H vs Q E hr h => ?_)
  · obtain ⟨x, dx, nm, rfl, _⟩ := h
    rfl
  · obtain ⟨x, dx, nm, rfl, hx, k⟩ := h
    have hu := hu_of hr
    have hu64 := hr.units
    refine ⟨_, (pss_l1 (ps_fld (pv 0) (pv 1) (by rfl))), ?_⟩
    walk_at "rx"
    refine ⟨_, _, _, hx, T.cl_Off, T.na_Off_name, by decide, ?_⟩
    exact k
def sp_off_in (K : PySem.W.Frag) (Ax : Ad) : Sp := fun vs H Q E => ∃ p ws, vs = [.ref p] ∧ H p = some (.lst (List.map V.str ws)) ∧ (∀ w ∈ ws, w.length ≤ 5000) ∧ (∀ d, oneT ws = some d → ∀ r H', Same H H' → DeedAt Ax H' r d → Q (.ref r) H') ∧ (oneT ws = none → ∀ H', Same H H' → E (.ref Ax.NoRow) none H')
theorem ok_off_in (T : Txt w K mg Ax) (D : Dfn K mg "off_in" s_off_in ["words"]) (H_check_row : HasE P w K mg base 1 "check_row" ["right"] (sp_check_row Ax)) (H_name_in : HasE P w K mg base 2 "name_in" ["word"] (sp_name_in Ax)) (H_Off__init : HasM P w K mg base 1 Ax.Off__init ["self", "name"] (sp_Off__init Ax)) : HasE P w K mg base 3 "off_in" ["words"] (sp_off_in K Ax) := by
  refine D.hasE sc_off_in (fun vs H Q E h => ?_) (fun f cdv A outer s H vs Q E hr h => ?_)
  · obtain ⟨p, ws, rfl, _⟩ := h
    rfl
  · obtain ⟨p, ws, rfl, hp, hw, hQ, hE⟩ := h
    have hu := hu_of hr
    have hu64 := hr.units
    refine ⟨_, (pss_l2 (ps_expr (pe_callE (E := E) H_check_row (hr.mono (by decide)) (by rfl) (passE (show Leaves _ E from ⟨rfl, rfl, rfl, fun _ _ h => h⟩)) (pa_l1 (pe_cmpR op_eq (pe_cB (call_len_seqk (K := K) rfl) (by rfl) T.b_len (by rfl) (pa_l1 (pv 0))) pe_int (nomark _)))))
      (ps_ret (pe_makeM H_Off__init T.mk_Off (hr.mono (by decide)) (by rfl) T.c_Off (pa_l1 (pe_callE (E := E) H_name_in (hr.mono (by decide)) (by rfl) (passE (show Leaves _ E from ⟨rfl, rfl, rfl, fun _ _ h => h⟩)) (pa_l1 (pe_ix (ix_listk (K := K) rfl) (pv 0) pe_int (fun _ _ => rfl)))))))), ?_⟩
    walk_at "rx"
    refine ⟨p, _, rfl, .inl (SqL.of hp), rfl, ⟨_, rfl, fun h3 => ?_, fun h3 => ?_⟩⟩
    · have h3 := len_yes (n := 1) h3
      match ws, hp, hw, h3, hQ, hE with
      | [nm], hp, hw, _, hQ, hE =>
        refine ixL_of hp (by rfl) ?_
        refine ⟨nm, rfl, hw nm (by simp), fun hm H2 s2 => ?_, fun hm H2 s2 => hE (by rw [oneT_1, hm]; rfl) _ s2⟩
        intro r dx hr hdx hne
        refine ⟨r, dx, _, rfl, upd_same, rfl, hQ (.off nm) (by rw [oneT_1, hm]; rfl) r _ ?_ ⟨dx, upd_same⟩⟩
        rw [upd_upd]
        exact (s2.updT hdx).updT (by rw [upd_ne (Ne.symm hne)]; exact hr)
    · refine hE ?_ _ (Same.refl _)
      have h3 := len_no (n := 1) h3
      match ws, h3 with
      | [], _ => rfl
      | [_], h3 => exact absurd rfl h3
      | _ :: _ :: _, _ => rfl
def sp_Put__init (Ax : Ad) : Sp := fun vs H Q _ => ∃ x dx sh nm pl, vs = [.ref x, sh, nm, pl] ∧ H x = some (.ins Ax.Put dx []) ∧ Q .non (upd H x (.ins Ax.Put dx (putF "place" pl (putF "name" nm (putF "shelf" sh [])))))
theorem ok_Put__init (T : Txt w K mg Ax) (D : DfnM K "__init__" "Put.__init__" s_Put__init ["self", "shelf", "name", "place"] Ax.Put__init)  : HasM P w K mg base 1 Ax.Put__init ["self", "shelf", "name", "place"] (sp_Put__init Ax) := by
  refine D.has sc_Put__init (fun vs H Q E h => ?_) (fun cdv A outer s H vs Q E hr h => ?_)
  · obtain ⟨x, dx, sh, nm, pl, rfl, _⟩ := h
    rfl
  · obtain ⟨x, dx, sh, nm, pl, rfl, hx, k⟩ := h
    have hu := hu_of hr
    have hu64 := hr.units
    refine ⟨_, (pss_l3 (ps_fld (pv 0) (pv 1) (by rfl))
      (ps_fld (pv 0) (pv 2) (by rfl))
      (ps_fld (pv 0) (pv 3) (by rfl))), ?_⟩
    walk_at "rx"
    refine ⟨_, _, _, hx, T.cl_Put, T.na_Put_shelf, by decide, ?_⟩
    refine ⟨_, _, _, upd_same, T.cl_Put, T.na_Put_name, put1_len _ _, ?_⟩
    refine ⟨_, _, _, upd_same, T.cl_Put, T.na_Put_place, put2_len _ _ _ _, ?_⟩
    rw [upd_upd, upd_upd]
    exact k
def sp_put_in (K : PySem.W.Frag) (Ax : Ad) : Sp := fun vs H Q E => ∃ p ws, vs = [.ref p] ∧ H p = some (.lst (List.map V.str ws)) ∧ (∀ w ∈ ws, w.length ≤ 5000) ∧ (∀ d, four ws = some d → ∀ r H', Same H H' → DeedAt Ax H' r d → Q (.ref r) H') ∧ (four ws = none → ∀ H', Same H H' → E (.ref Ax.NoRow) none H')
theorem ok_put_in (T : Txt w K mg Ax) (D : Dfn K mg "put_in" s_put_in ["words"]) (H_check_row : HasE P w K mg base 1 "check_row" ["right"] (sp_check_row Ax)) (H_shelf_in : HasE P w K mg base 3 "shelf_in" ["house", "ware"] (sp_shelf_in Ax)) (H_number_in : HasE P w K mg base 2 "number_in" ["word"] (sp_number_in Ax)) (H_name_in : HasE P w K mg base 2 "name_in" ["word"] (sp_name_in Ax)) (H_Put__init : HasM P w K mg base 1 Ax.Put__init ["self", "shelf", "name", "place"] (sp_Put__init Ax)) : HasE P w K mg base 4 "put_in" ["words"] (sp_put_in K Ax) := by
  refine D.hasE sc_put_in (fun vs H Q E h => ?_) (fun f cdv A outer s H vs Q E hr h => ?_)
  · obtain ⟨p, ws, rfl, _⟩ := h
    rfl
  · obtain ⟨p, ws, rfl, hp, hw, hQ, hE⟩ := h
    have hu := hu_of hr
    have hu64 := hr.units
    refine ⟨_, (pss_l2 (ps_expr (pe_callE (E := E) H_check_row (hr.mono (by decide)) (by rfl) (passE (show Leaves _ E from ⟨rfl, rfl, rfl, fun _ _ h => h⟩)) (pa_l1 (pe_cmpR op_eq (pe_cB (call_len_seqk (K := K) rfl) (by rfl) T.b_len (by rfl) (pa_l1 (pv 0))) pe_int (nomark _)))))
      (ps_ret (pe_makeM H_Put__init T.mk_Put (hr.mono (by decide)) (by rfl) T.c_Put (pa_l3 (pe_callE (E := E) H_shelf_in (hr.mono (by decide)) (by rfl) (passE (show Leaves _ E from ⟨rfl, rfl, rfl, fun _ _ h => h⟩)) (pa_l2 (pe_ix (ix_listk (K := K) rfl) (pv 0) pe_int (fun _ _ => rfl)) (pe_ix (ix_listk (K := K) rfl) (pv 0) pe_int (fun _ _ => rfl)))) (pe_callE (E := E) H_name_in (hr.mono (by decide)) (by rfl) (passE (show Leaves _ E from ⟨rfl, rfl, rfl, fun _ _ h => h⟩)) (pa_l1 (pe_ix (ix_listk (K := K) rfl) (pv 0) pe_int (fun _ _ => rfl)))) (pe_callE (E := E) H_number_in (hr.mono (by decide)) (by rfl) (passE (show Leaves _ E from ⟨rfl, rfl, rfl, fun _ _ h => h⟩)) (pa_l1 (pe_ix (ix_listk (K := K) rfl) (pv 0) pe_int (fun _ _ => rfl)))))))), ?_⟩
    walk_at "rx"
    refine ⟨p, _, rfl, .inl (SqL.of hp), rfl, ⟨_, rfl, fun h3 => ?_, fun h3 => ?_⟩⟩
    · have h3 := len_yes (n := 4) h3
      match ws, hp, hw, h3, hQ, hE with
      | [a, b, nm, n], hp, hw, _, hQ, hE =>
        refine ixL_of hp (by rfl) (ixL_of hp (by rfl) ?_)
        have hdf : four [a, b, nm, n] = if nameS a && nameS b && nameS nm && numOk n then some (.put a b nm n) else none := rfl
        refine ⟨a, b, rfl, hw a (by simp), hw b (by simp), fun ha hb t H1 s1 ht => ?_, fun h H1 s1 => hE (by rw [hdf, h]; rfl) _ s1⟩
        refine ixL_of (s1 _ _ hp) (by rfl) ?_
        refine ⟨nm, rfl, hw nm (by simp), fun hm H2 s2 => ?_, fun hm H2 s2 => hE (by rw [hdf, hm, Bool.and_false]; rfl) _ (s1.trans s2)⟩
        refine ixL_of (s2 _ _ (s1 _ _ hp)) (by rfl) ?_
        refine ⟨n, rfl, hw n (by simp), fun hn H3 s3 => ?_, fun hn H3 s3 => hE (by rw [hdf, hn, Bool.and_false]; rfl) _ ((s1.trans s2).trans s3)⟩
        intro r dx hr hdx hne
        refine ⟨r, dx, _, _, _, rfl, upd_same, rfl, hQ (.put a b nm n) (by rw [hdf, ha, hb, hm, hn]; rfl) r _ ?_ ⟨t, ⟨dx, upd_same⟩, ?_⟩⟩
        · rw [upd_upd]
          exact ((((s1.trans s2).trans s3).updT hdx).updT (by rw [upd_ne (Ne.symm hne)]; exact hr))
        · have ht2 := s3 _ _ (s2 _ _ ht)
          rw [upd_upd, upd_ne (fun e => by rw [e, hr] at ht2; cases ht2), upd_ne (fun e => by rw [e, hdx] at ht2; cases ht2)]
          exact ht2
    · refine hE ?_ _ (Same.refl _)
      have h3 := len_no (n := 4) h3
      match ws, h3 with
      | [], _ => rfl
      | [_], _ => rfl
      | [_, _], _ => rfl
      | [_, _, _], _ => rfl
      | [_, _, _, _], h3 => exact absurd rfl h3
      | _ :: _ :: _ :: _ :: _ :: _, _ => rfl
def sp_bell_in (K : PySem.W.Frag) (Ax : Ad) : Sp := fun vs H Q E => ∃ p ws, vs = [.ref p] ∧ H p = some (.lst (List.map V.str ws)) ∧ (∀ d, noneT ws = some d → ∀ r H', Same H H' → DeedAt Ax H' r d → Q (.ref r) H') ∧ (noneT ws = none → ∀ H', Same H H' → E (.ref Ax.NoRow) none H')
theorem ok_bell_in (T : Txt w K mg Ax) (D : Dfn K mg "bell_in" s_bell_in ["words"]) (H_check_row : HasE P w K mg base 1 "check_row" ["right"] (sp_check_row Ax)) : HasE P w K mg base 2 "bell_in" ["words"] (sp_bell_in K Ax) := by
  refine D.hasE sc_bell_in (fun vs H Q E h => ?_) (fun f cdv A outer s H vs Q E hr h => ?_)
  · obtain ⟨p, ws, rfl, _⟩ := h
    rfl
  · obtain ⟨p, ws, rfl, hp, hQ, hE⟩ := h
    have hu := hu_of hr
    have hu64 := hr.units
    refine ⟨_, (pss_l2 (ps_expr (pe_callE (E := E) H_check_row (hr.mono (by decide)) (by rfl) (passE (show Leaves _ E from ⟨rfl, rfl, rfl, fun _ _ h => h⟩)) (pa_l1 (pe_cmpR op_eq (pe_cB (call_len_seqk (K := K) rfl) (by rfl) T.b_len (by rfl) (pa_l1 (pv 0))) pe_int (nomark _)))))
      (ps_ret (pe_new0 T.mk0_Bell (by rfl) T.c_Bell))), ?_⟩
    walk_at "rx"
    refine ⟨p, _, rfl, .inl (SqL.of hp), rfl, ⟨_, rfl, fun h3 => ?_, fun h3 => ?_⟩⟩
    · have h3 := len_yes (n := 0) h3
      match ws, h3, hQ with
      | [], _, hQ =>
        intro r dx hr hdx hne
        exact hQ .bell rfl r _ (((Same.refl H).updT hdx).updT (by rw [upd_ne (Ne.symm hne)]; exact hr)) ⟨dx, upd_same⟩
    · refine hE ?_ _ (Same.refl _)
      have h3 := len_no (n := 0) h3
      match ws, h3 with
      | [], h3 => exact absurd rfl h3
      | _ :: _, _ => rfl
def sp_read (K : PySem.W.Frag) (Ax : Ad) : Sp := fun vs H Q E => ∃ dt v, vs = [v] ∧ Rep H dt v ∧ (∀ x, dt = .str x → x.length ≤ 3000) ∧
  (∀ x, dt = .str x → (∀ d, parse x = some d → ∀ rr H', Same H H' → DeedAt Ax H' rr d → Q (.ref rr) H') ∧ (parse x = none → ∀ H', Same H H' → E (.ref Ax.NoRow) none H')) ∧ ((∀ x, dt ≠ .str x) → ∀ H', Same H H' → E (.ref Ax.NoRow) none H')
theorem ok_read (T : Txt w K mg Ax) (D : Dfn K mg "read" s_read ["row"]) (H_check_row : HasE P w K mg base 1 "check_row" ["right"] (sp_check_row Ax)) (H_words_of : HasE P w K mg base 2 "words_of" ["row"] (sp_words_of Ax)) (H_lay_in : HasE P w K mg base 4 "lay_in" ["words"] (sp_lay_in K Ax)) (H_take_in : HasE P w K mg base 4 "take_in" ["words"] (sp_take_in K Ax)) (H_line_in : HasE P w K mg base 4 "line_in" ["words"] (sp_line_in K Ax)) (H_offer_in : HasE P w K mg base 6 "offer_in" ["words"] (sp_offer_in K Ax)) (H_off_in : HasE P w K mg base 3 "off_in" ["words"] (sp_off_in K Ax)) (H_put_in : HasE P w K mg base 4 "put_in" ["words"] (sp_put_in K Ax)) (H_bell_in : HasE P w K mg base 2 "bell_in" ["words"] (sp_bell_in K Ax)) : HasE P w K mg base 7 "read" ["row"] (sp_read K Ax) := by
  refine D.hasE sc_read (fun vs H Q E h => ?_) (fun f cdv A outer s H vs Q E hr h => ?_)
  · obtain ⟨dt, v, rfl, _⟩ := h
    rfl
  · obtain ⟨dt, v, rfl, hR, hx, hS, hN⟩ := h
    have hu := hu_of hr
    have hu64 := hr.units
    refine ⟨_, (pss_l3 (ps_set (i := 1) sc_read.nd rfl (Or.inl rfl) (pe_callE (E := E) H_words_of (hr.mono (by decide)) (by rfl) (passE (show Leaves _ E from ⟨rfl, rfl, rfl, fun _ _ h => h⟩)) (pa_l1 (pv 0))))
      (ps_expr (pe_callE (E := E) H_check_row (hr.mono (by decide)) (by rfl) (passE (show Leaves _ E from ⟨rfl, rfl, rfl, fun _ _ h => h⟩)) (pa_l1 (pe_cmpR (op_kin (K := K) rfl T.kd_READERS) (pe_ix (ix_listk (K := K) rfl) (pv 1) pe_int (fun _ _ => rfl)) (pe_globC (by rfl) T.c_READERS) (by with_unfolding_all rfl)))))
      (ps_ret (pe_callV (E := E) rfl rfl rfl rfl rfl (pe_ix (ix_kdict (K := K) rfl T.kd_READERS) (pe_globC (by rfl) T.c_READERS) (pe_ix (ix_listk (K := K) rfl) (pv 1) pe_int (fun _ _ => rfl)) (fun _ _ => rfl)) hr (passE (show Leaves _ E from ⟨rfl, rfl, rfl, fun _ _ h => h⟩)) (pa_l1 (pe_slice (sl_listk (K := K) rfl) (pv 1) (po_some pe_int) po_none))))), ?_⟩
    walk_at "rx"
    refine ⟨dt, v, rfl, hR, fun x e => ⟨Nat.le_trans (hx x e) (by decide), fun p hp => ?_⟩, fun h => hN h _ (Same.refl _)⟩
    subst e
    have hx := hx x rfl
    obtain ⟨hQ, hE⟩ := hS x rfl
    obtain ⟨wd, r, hs⟩ : ∃ wd r, Txt.split x blank = wd :: r := by
      cases h : Txt.split x blank with
      | nil =>
        have := congrArg List.length (split_eq x blank (by decide +kernel) (by decide +kernel))
        rw [h] at this
        exact absurd this.symm (splG_ne _ _ _ _)
      | cons a b => exact ⟨a, b, rfl⟩
    have hpe : parse x = readT wd r := by unfold parse; rw [hs]
    rw [hpe] at hQ hE
    have hpt : ∀ v ∈ wd :: r, v.length ≤ 5000 := fun v hv => Nat.le_trans (split_part (by decide +kernel) (by decide +kernel) (hs ▸ hv)) (by omega)
    have hln : (wd :: r).length ≤ 3001 := hs ▸ Nat.le_trans (split_len x blank (by decide +kernel) (by decide +kernel)) (by omega)
    rw [hs]
    have s1 := Same.upd (o := .lst (List.map V.str (wd :: r))) hp
    have h1 : (upd H p (.lst (List.map V.str (wd :: r)))) p = some (.lst (List.map V.str (wd :: r))) := upd_same
    generalize upd H p (.lst (List.map V.str (wd :: r))) = H1 at s1 h1
    have at0 : atI (List.map V.str (wd :: r)) 0 = some (.str wd) := atI_nat (j := 0) rfl
    have hr5 : ∀ v ∈ r, v.length ≤ 5000 := fun v hv => hpt v (List.mem_cons_of_mem _ hv)
    have go : (∃ f, PySem.W.nsIn K Ax.READERS wd = some (some (.ref f)) ∧ PySem.W.keepIn K (.ref f) = true ∧ ∀ q H2, Same H1 H2 → H2 q = some (.lst (r.map V.str)) → CallsE P w K mg base 6 f E [.ref q] H2 Q) ∨ (PySem.W.nsIn K Ax.READERS wd = some none ∧ readT wd r = none) := by
      clear at0
      by_cases w1 : wd = Str.ofString "lay"
      · subst w1
        exact .inl ⟨_, T.r_lay, (H_lay_in.keep T.c_lay_in), fun q H2 s2 h2 => H_lay_in.calls T.c_lay_in (by decide) ⟨q, r, rfl, h2, hr5, fun d hd rr H3 s3 hD => hQ d (by unfold readT; rw [if_pos rfl]; exact hd) rr _ ((s1.trans s2).trans s3) hD, fun hn H3 s3 => hE (by unfold readT; rw [if_pos rfl]; exact hn) _ ((s1.trans s2).trans s3)⟩⟩
      by_cases w2 : wd = Str.ofString "take"
      · subst w2
        have e5 : readT (Str.ofString "take") r = three amtOk .take r := by unfold readT; rw [if_neg w1, if_pos rfl]
        exact .inl ⟨_, T.r_take, (H_take_in.keep T.c_take_in), fun q H2 s2 h2 => H_take_in.calls T.c_take_in (by decide) ⟨q, r, rfl, h2, hr5, fun d hd rr H3 s3 hD => hQ d (by rw [e5]; exact hd) rr _ ((s1.trans s2).trans s3) hD, fun hn H3 s3 => hE (by rw [e5]; exact hn) _ ((s1.trans s2).trans s3)⟩⟩
      by_cases w3 : wd = Str.ofString "line"
      · subst w3
        have e5 : readT (Str.ofString "line") r = three numOk .line r := by unfold readT; rw [if_neg w1, if_neg w2, if_pos rfl]
        exact .inl ⟨_, T.r_line, (H_line_in.keep T.c_line_in), fun q H2 s2 h2 => H_line_in.calls T.c_line_in (by decide) ⟨q, r, rfl, h2, hr5, fun d hd rr H3 s3 hD => hQ d (by rw [e5]; exact hd) rr _ ((s1.trans s2).trans s3) hD, fun hn H3 s3 => hE (by rw [e5]; exact hn) _ ((s1.trans s2).trans s3)⟩⟩
      by_cases w4 : wd = Str.ofString "put"
      · subst w4
        have e5 : readT (Str.ofString "put") r = four r := by unfold readT; rw [if_neg w1, if_neg w2, if_neg w3, if_pos rfl]
        exact .inl ⟨_, T.r_put, (H_put_in.keep T.c_put_in), fun q H2 s2 h2 => H_put_in.calls T.c_put_in (by decide) ⟨q, r, rfl, h2, hr5, fun d hd rr H3 s3 hD => hQ d (by rw [e5]; exact hd) rr _ ((s1.trans s2).trans s3) hD, fun hn H3 s3 => hE (by rw [e5]; exact hn) _ ((s1.trans s2).trans s3)⟩⟩
      by_cases w5 : wd = Str.ofString "deal"
      · subst w5
        have e5 : readT (Str.ofString "deal") r = offs r := by unfold readT; rw [if_neg w1, if_neg w2, if_neg w3, if_neg w4, if_pos rfl]
        have hj : (Txt.join blank (r.drop 1)).length ≤ 5000 := by
          have e := join_split x blank
          rw [hs, join_glue] at e
          have h2 := glue_tail blank (Str.ofString "deal") r
          rw [e] at h2
          rw [join_glue]
          cases r with
          | nil => exact Nat.le_trans h2 (by omega)
          | cons nm rest =>
            have h1 := glue_tail blank nm rest
            show (glue blank rest).length ≤ 5000
            omega
        exact .inl ⟨_, T.r_deal, (H_offer_in.keep T.c_offer_in), fun q H2 s2 h2 => H_offer_in.calls T.c_offer_in (by decide) ⟨q, r, rfl, h2, hr5, by simp only [List.length_cons] at hln; omega, hj, fun d hd rr H3 s3 hD => hQ d (by rw [e5]; exact hd) rr _ ((s1.trans s2).trans s3) hD, fun hn H3 s3 => hE (by rw [e5]; exact hn) _ ((s1.trans s2).trans s3)⟩⟩
      by_cases w6 : wd = Str.ofString "off"
      · subst w6
        have e5 : readT (Str.ofString "off") r = oneT r := by unfold readT; rw [if_neg w1, if_neg w2, if_neg w3, if_neg w4, if_neg w5, if_pos rfl]
        exact .inl ⟨_, T.r_off, (H_off_in.keep T.c_off_in), fun q H2 s2 h2 => H_off_in.calls T.c_off_in (by decide) ⟨q, r, rfl, h2, hr5, fun d hd rr H3 s3 hD => hQ d (by rw [e5]; exact hd) rr _ ((s1.trans s2).trans s3) hD, fun hn H3 s3 => hE (by rw [e5]; exact hn) _ ((s1.trans s2).trans s3)⟩⟩
      by_cases w7 : wd = Str.ofString "bell"
      · subst w7
        have e5 : readT (Str.ofString "bell") r = noneT r := by unfold readT; rw [if_neg w1, if_neg w2, if_neg w3, if_neg w4, if_neg w5, if_neg w6, if_pos rfl]
        exact .inl ⟨_, T.r_bell, (H_bell_in.keep T.c_bell_in), fun q H2 s2 h2 => H_bell_in.calls T.c_bell_in (by decide) ⟨q, r, rfl, h2, fun d hd rr H3 s3 hD => hQ d (by rw [e5]; exact hd) rr _ ((s1.trans s2).trans s3) hD, fun hn H3 s3 => hE (by rw [e5]; exact hn) _ ((s1.trans s2).trans s3)⟩⟩
      refine .inr ⟨?_, by unfold readT; rw [if_neg w1, if_neg w2, if_neg w3, if_neg w4, if_neg w5, if_neg w6, if_neg w7]⟩
      obtain ⟨es, n, hl, hk, hrf⟩ := T.rk_READERS
      refine keys_none hl hk hrf ?_
      simp only [List.mem_cons, List.not_mem_nil, or_false]
      rintro (h | h | h | h | h | h | h)
      · exact w1 h
      · exact w2 h
      · exact w3 h
      · exact w5 h
      · exact w6 h
      · exact w4 h
      · exact w7 h
    rcases go with ⟨f, hn, hk, hc⟩ | ⟨hn, hnone⟩
    · refine ixL_of h1 at0 ⟨wd, rfl, _, hn, ⟨_, rfl, fun _ => ?_, fun h => absurd h (by simp)⟩⟩
      refine ixL_of h1 at0 ⟨wd, rfl, f, hn, hk, p, _, rfl, SqL.of h1, fun q hq => ?_⟩
      rw [show cutV (List.map V.str (wd :: r)) (some 1) none = r.map V.str from cutV_on (wd :: r) (by decide)]
      exact hc q _ (Same.upd hq) upd_same
    · exact ixL_of h1 at0 ⟨wd, rfl, _, hn, ⟨_, rfl, fun h => absurd h (by simp), fun _ => hE hnone _ s1⟩⟩

def sp__law_told (K : PySem.W.Frag) (Ax : Ad) : Sp := fun vs H Q _ => ∃ dt v, vs = [v] ∧ Rep H dt v ∧ (∀ x, dt = .str x → x.length ≤ 3000) ∧
  (∀ x d, dt = .str x → parse x = some d → ∀ t r H', Same H H' → H' t = some (.tup [.ref r, .non]) → DeedAt Ax H' r d → Q (.ref t) H') ∧
  ((∀ x d, dt = .str x → parse x ≠ some d) → ∀ t q H', Same H H' → H' t = some (.tup [.non, .ref q]) → H' q = some (.lst [.bl true, .bl true, .bl false, .bl false]) → Q (.ref t) H')
theorem ok__law_told (T : Txt w K mg Ax) (D : Dfn K mg "_law_told" s__law_told ["row"]) (H_read : HasE P w K mg base 7 "read" ["row"] (sp_read K Ax)) : Has P w K mg base 8 "_law_told" ["row"] (sp__law_told K Ax) := by
  refine D.has sc__law_told (fun vs H Q E h => ?_) (fun f cdv A outer s H vs Q E hr h => ?_)
  · obtain ⟨dt, v, rfl, _⟩ := h
    rfl
  · obtain ⟨dt, v, rfl, hR, hx, hY, hN⟩ := h
    have hu := hu_of hr
    have hu64 := hr.units
    refine ⟨_, (pss_l4 (ps_set (i := 1) sc__law_told.nd rfl (Or.inl rfl) pe_non)
      (ps_set (i := 2) sc__law_told.nd rfl (Or.inl rfl) pe_non)
      (ps_try1 (i := 1) (j := 3) H_read (hr.mono (by decide)) (by rfl) rfl rfl rfl rfl sc__law_told.nd rfl rfl rfl rfl (by rfl) T.c_HallError (pa_l1 (pv 0)) (fun _ => (pss_l1 (ps_set (i := 2) sc__law_told.nd rfl (Or.inl rfl) (pe_lst (pa_l4 (pe_cB (call_isiEk (K := K) rfl) (by rfl) T.b_isinstance (by rfl) (pa_l2 (pv 3) (pe_globC (by rfl) T.c_NoRow))) (pe_cB (call_isiEk (K := K) rfl) (by rfl) T.b_isinstance (by rfl) (pa_l2 (pv 3) (pe_ty (by rfl) T.b_ValueError (by rfl)))) (pe_cB (call_isiEk (K := K) rfl) (by rfl) T.b_isinstance (by rfl) (pa_l2 (pv 3) (pe_tup (pa_l4 (pe_globC (by rfl) T.c_NoName) (pe_globC (by rfl) T.c_NoAmount) (pe_globC (by rfl) T.c_NoLeg) (pe_globC (by rfl) T.c_NotWaiting))))) (pe_cB (call_isiEk (K := K) rfl) (by rfl) T.b_isinstance (by rfl) (pa_l2 (pv 3) (pe_tup (pa_l5 (pe_globC (by rfl) T.c_Twice) (pe_globC (by rfl) T.c_TooLittle) (pe_globC (by rfl) T.c_NotNow) (pe_globC (by rfl) T.c_NotForetold) (pe_globC (by rfl) T.c_NoBack)))))))))))
      (ps_ret (pe_tup (pa_l2 (pv 1) (pv 2))))), ?_⟩
    walk_at "rx"
    refine ⟨fun C _ H9 => C = .ref Ax.NoRow ∧ (∀ x d, dt = .str x → parse x ≠ some d) ∧ Same H H9, ⟨dt, v, rfl, hR, hx, fun x e => ⟨fun d hd rr H2 s2 hD t ht => hY x d e hd t rr _ (s2.updT ht) upd_same (hD.same (Same.upd ht)), fun hn H2 s2 => ⟨rfl, fun x' d e' hd => ?_, s2⟩⟩, fun hno H2 s2 => ⟨rfl, fun x d e => absurd e (hno x), s2⟩⟩, ?_⟩
    · rw [e] at e'
      cases e'
      rw [hn] at hd
      cases hd
    rintro C dx H2 ⟨hC, hg, s2⟩
    cases hC
    refine ⟨T.m_NoRow, fun xa hxa => ?_⟩
    have s3 := Same.upd (o := excO xa Ax.NoRow) hxa
    have hx3 : (upd H2 xa (excO xa Ax.NoRow)) xa = some (excO xa Ax.NoRow) := upd_same
    generalize upd H2 xa (excO xa Ax.NoRow) = H3 at s3 hx3
    refine ⟨xa, _, _, true, rfl, hx3, T.e_NoRow, .inr (.inl ⟨_, rfl, T.i_NoRow⟩), ?_⟩
    refine ⟨xa, _, _, true, rfl, hx3, T.e_NoRow, .inl ⟨_, rfl, T.v_NoRow⟩, fun p hp => ?_⟩
    have s4 := Same.upd (o := .tup [V.ref Ax.NoName, V.ref Ax.NoAmount, V.ref Ax.NoLeg, V.ref Ax.NotWaiting]) hp
    have q4 : (upd H3 p (.tup [V.ref Ax.NoName, V.ref Ax.NoAmount, V.ref Ax.NoLeg, V.ref Ax.NotWaiting])) p = some (.tup [V.ref Ax.NoName, V.ref Ax.NoAmount, V.ref Ax.NoLeg, V.ref Ax.NotWaiting]) := upd_same
    generalize upd H3 p (.tup [V.ref Ax.NoName, V.ref Ax.NoAmount, V.ref Ax.NoLeg, V.ref Ax.NotWaiting]) = H4 at s4 q4
    refine ⟨xa, _, _, false, rfl, s4 _ _ hx3, T.e_NoRow, .inr (.inr ⟨p, [Ax.NoName, Ax.NoAmount, Ax.NoLeg, Ax.NotWaiting], rfl, q4, T.o1_NoRow⟩), fun p2 hp2 => ?_⟩
    have s5 := Same.upd (o := .tup [V.ref Ax.Twice, V.ref Ax.TooLittle, V.ref Ax.NotNow, V.ref Ax.NotForetold, V.ref Ax.NoBack]) hp2
    have q5 : (upd H4 p2 (.tup [V.ref Ax.Twice, V.ref Ax.TooLittle, V.ref Ax.NotNow, V.ref Ax.NotForetold, V.ref Ax.NoBack])) p2 = some (.tup [V.ref Ax.Twice, V.ref Ax.TooLittle, V.ref Ax.NotNow, V.ref Ax.NotForetold, V.ref Ax.NoBack]) := upd_same
    generalize upd H4 p2 (.tup [V.ref Ax.Twice, V.ref Ax.TooLittle, V.ref Ax.NotNow, V.ref Ax.NotForetold, V.ref Ax.NoBack]) = H5 at s5 q5
    refine ⟨xa, _, _, false, rfl, s5 _ _ (s4 _ _ hx3), T.e_NoRow, .inr (.inr ⟨p2, [Ax.Twice, Ax.TooLittle, Ax.NotNow, Ax.NotForetold, Ax.NoBack], rfl, q5, T.o2_NoRow⟩), fun q hq t ht => ?_⟩
    exact hN hg t q _ (((((s2.trans s3).trans s4).trans s5).updT hq).updT ht) upd_same (by rw [upd_ne (fun e => by rw [e, upd_same] at ht; cases ht)]; exact upd_same)
def sp__law_word : Sp := fun vs H Q _ => ∃ x, vs = [.str x] ∧ x.length ≤ 5000 ∧ Q (.bl (nameS x)) H
theorem ok__law_word (T : Txt w K mg Ax) (D : Dfn K mg "_law_word" s__law_word ["word"])  : Has P w K mg base 1 "_law_word" ["word"] sp__law_word := by
  refine D.has sc__law_word (fun vs H Q E h => ?_) (fun f cdv A outer s H vs Q E hr h => ?_)
  · obtain ⟨x, rfl, _⟩ := h
    rfl
  · obtain ⟨x, rfl, hx, k⟩ := h
    have hu := hu_of hr
    have hu64 := hr.units
    refine ⟨_, (pss_l2 (ps_for PassesOwn.never rfl (pi_str (pv 0)) (pg_name (i := 1) sc__law_word.nd rfl (Or.inl rfl))
      (pss_l1 (ps_if (pt_cmpR op_notin_str (pv 1) pe_str (by with_unfolding_all rfl))
      (pss_l1 (ps_ret pe_bl))
      pss_nil)))
      (ps_ret (pe_and (pe_cmpR op_ge (pe_cB call_len_str (by rfl) T.b_len (by rfl) (pa_l1 (pv 0))) pe_int (nomark _)) (pe_one (pe_cmpR op_le (pe_cB call_len_str (by rfl) T.b_len (by rfl) (pa_l1 (pv 0))) pe_int (nomark _)))))), ?_⟩
    walk_at "rx"
    have hsb := sizeLine_big
    refine for_w (y_str x) (fun i σ H2 => (∃ o, σ = [some (.str x), o]) ∧ H2 = H ∧ (x.cps.toList.take i).all isIn = true) ?_ ?_ ?_ ?_
    · exact ⟨⟨none, rfl⟩, rfl, rfl⟩
    · intros; trivial
    · rintro i σ H2 y H' hi ⟨⟨o, rfl⟩, rfl, hall⟩ ⟨rfl, c, hc, rfl⟩
      have hc' : x.cps.toList[i]? = some c := by simpa using hc
      walk_at "rx"
      refine ite2 (fun h => ?_) (fun h => ?_)
      · have hb : isIn c = false := by
          rcases hh : isIn c with _ | _
          · rfl
          · have hh : (!(Builtin.Str.occurrences (Str.ofString "abcdefghijklmnopqrstuvwxyz") ⟨#[c]⟩ 0 (Str.ofString "abcdefghijklmnopqrstuvwxyz").length 1).isEmpty) = true := hh
            simp at h
            rw [h] at hh
            cases hh
        rwa [show nameS x = false from bad_sign (List.mem_of_getElem? hc') hb] at k
      · have hb : isIn c = true := by
          show (!(Builtin.Str.occurrences (Str.ofString "abcdefghijklmnopqrstuvwxyz") ⟨#[c]⟩ 0 (Str.ofString "abcdefghijklmnopqrstuvwxyz").length 1).isEmpty) = true
          simp at h
          cases ho : Builtin.Str.occurrences (Str.ofString "abcdefghijklmnopqrstuvwxyz") ⟨#[c]⟩ 0 (Str.ofString "abcdefghijklmnopqrstuvwxyz").length 1 with
          | nil => exact absurd ho h
          | cons _ _ => rfl
        rw [List.take_add_one, hc', List.all_append, hall]
        simp [hb]
    · rintro σ H2 ⟨⟨o, rfl⟩, rfl, hall⟩
      rw [show x.cps.size = x.cps.toList.length by simp, List.take_length] at hall
      have hn : nameS x = decide (1 ≤ x.length ∧ x.length ≤ 8) := by
        unfold nameS
        rw [nameD_str, hall, Bool.and_true]
      rw [hn] at k
      walk_at "rx"
      refine ⟨by omega, ite2 (fun h => ⟨by omega, ?_⟩) (fun h => ?_)⟩
      · rwa [show decide (1 ≤ x.length ∧ x.length ≤ 8) = decide ((x.length : Int) ≤ 8) from by rw [decide_eq_decide]; omega] at k
      · rwa [decide_eq_false (show ¬ (1 ≤ x.length ∧ x.length ≤ 8) by omega)] at k
def sp__law_figures : Sp := fun vs H Q _ => ∃ (x : Str) (b : Int), vs = [.str x, .int b] ∧ x.length ≤ 5000 ∧ (b = 0 ∨ b = 1) ∧ Q (.bl (if b = 0 then numOk x else amtOk x)) H
theorem ok__law_figures (T : Txt w K mg Ax) (D : Dfn K mg "_law_figures" s__law_figures ["word", "bottom"])  : Has P w K mg base 1 "_law_figures" ["word", "bottom"] sp__law_figures := by
  refine D.has sc__law_figures (fun vs H Q E h => ?_) (fun f cdv A outer s H vs Q E hr h => ?_)
  · obtain ⟨x, b, rfl, _⟩ := h
    rfl
  · obtain ⟨x, b, rfl, hx, hb, k⟩ := h
    have hu := hu_of hr
    have hu64 := hr.units
    refine ⟨_, (pss_l3 (ps_if (PW.pt (pw_or (pt_cmpR op_eq (pv 0) pe_str (nomark _)) (pw_or (pt_cmpR op_gt (pe_cB call_len_str (by rfl) T.b_len (by rfl) (pa_l1 (pv 0))) pe_int (nomark _)) (pw_or1 (pt_cmpR op_eq (pv 0) pe_str (nomark _))))))
      (pss_l1 (ps_ret (pe_and (pe_cmpR op_eq (pv 0) pe_str (nomark _)) (pe_one (pe_cmpR op_eq (pv 1) pe_int (nomark _))))))
      pss_nil)
      (ps_for PassesOwn.never rfl (pi_str (pv 0)) (pg_name (i := 2) sc__law_figures.nd rfl (Or.inl rfl))
      (pss_l1 (ps_if (pt_cmpR op_notin_str (pv 2) pe_str (by with_unfolding_all rfl))
      (pss_l1 (ps_ret pe_bl))
      pss_nil)))
      (ps_ret (pe_cmpR op_ne (pe_ix ix_str (pv 0) pe_int (fun _ _ => rfl)) pe_str (nomark _)))), ?_⟩
    walk_at "rx"
    have hsb := sizeLine_big
    have zero : x = nought → (if b = 0 then numOk x else amtOk x) = decide (b = 0) := fun e => by
      subst e
      rcases hb with rfl | rfl
      · rw [if_pos rfl]; decide +kernel
      · rw [if_neg (by decide)]; decide +kernel
    have fin : (x ≠ nought → numOk x = false) → if x = Str.ofString "0" then Q (V.bl (decide (b = 0))) H else Q (V.bl false) H := fun hf => by
      refine ite2 (fun e => ?_) (fun e => ?_)
      · rwa [zero e] at k
      · rwa [fig_res e, hf e] at k
    refine ite2 (fun e => fin fun _ => num_no ?_) (fun e => ⟨by omega, ite2 (fun h60 => fin fun _ => num_no (by omega)) (fun h60 => ite2 (fun e0 => fin fun z => absurd e0 z) (fun e0 => ?_))⟩)
    · rw [e]
      decide +kernel
    rw [fig_res e0] at k
    have hne : x.cps.toList ≠ [] := fun z => e (str_ext9 (by rw [z]; decide +kernel))
    have h1 : 1 ≤ x.length := by
      rw [str_len]
      cases hc : x.cps.toList with
      | nil => exact absurd hc hne
      | cons _ _ => simp
    refine for_w (y_str x) (fun i σ H2 => (∃ o, σ = [some (.str x), some (.int b), o]) ∧ H2 = H ∧ (x.cps.toList.take i).all isFig = true) ?_ ?_ ?_ ?_
    · exact ⟨⟨none, rfl⟩, rfl, rfl⟩
    · intros; trivial
    · rintro i σ H2 y H' hi ⟨⟨o, rfl⟩, rfl, hall⟩ ⟨rfl, c, hc, rfl⟩
      have hc' : x.cps.toList[i]? = some c := by simpa using hc
      walk_at "rx"
      refine ite2 (fun h => ?_) (fun h => ?_)
      · have hb : isFig c = false := by
          unfold isFig
          simpa using h
        have : numOk x = false := by
          unfold numOk
          rw [show x.cps.toList.all isFig = false from List.all_eq_false.mpr ⟨c, List.mem_of_getElem? hc', by rw [hb]; decide⟩]
          simp
        rwa [this] at k
      · have hb : isFig c = true := by
          unfold isFig
          simpa using h
        rw [List.take_add_one, hc', List.all_append, hall]
        simp [hb]
    · rintro σ H2 ⟨⟨o, rfl⟩, rfl, hall⟩
      rw [show x.cps.size = x.cps.toList.length by simp, List.take_length] at hall
      have hn : numOk x = decide (x.cps.toList.head? ≠ some 48) := by
        unfold numOk
        rw [hall, decide_eq_true (show 1 ≤ x.length ∧ x.length ≤ 60 by omega), decide_eq_false e0, starts0]
        by_cases h0 : x.cps.toList.head? = some 48 <;> simp [h0]
      rw [hn] at k
      have hf := first_48 hne
      walk_at "rx"
      refine ixS_of (by omega) (by decide) (by omega) ⟨rfl, ?_⟩
      by_cases h0 : x.cps.toList.head? = some 48
      · rw [decide_eq_true (hf.mpr h0)]
        rwa [decide_eq_false (fun z => z h0)] at k
      · rw [decide_eq_false (fun z => h0 (hf.mp z))]
        rwa [decide_eq_true h0] at k
def sp__law_is_leg (K : PySem.W.Frag) : Sp := fun vs H Q _ => ∃ x, vs = [.str x] ∧ x.length ≤ 5000 ∧ ∀ H', Same H H' → Q (.bl (legG x)) H'
theorem ok__law_is_leg (T : Txt w K mg Ax) (D : Dfn K mg "_law_is_leg" s__law_is_leg ["text"]) (H__law_word : Has P w K mg base 1 "_law_word" ["word"] sp__law_word) (H__law_figures : Has P w K mg base 1 "_law_figures" ["word", "bottom"] sp__law_figures) : Has P w K mg base 2 "_law_is_leg" ["text"] (sp__law_is_leg K) := by
  refine D.has sc__law_is_leg (fun vs H Q E h => ?_) (fun f cdv A outer s H vs Q E hr h => ?_)
  · obtain ⟨x, rfl, _⟩ := h
    rfl
  · obtain ⟨x, rfl, hx, k⟩ := h
    have hu := hu_of hr
    have hu64 := hr.units
    refine ⟨_, (pss_l3 (ps_set (i := 1) sc__law_is_leg.nd rfl (Or.inl rfl) (pe_mk (K := K) rfl PySem.F.plainAttrs_str PySem.F.slot_str_split PySem.F.type_str_split mt_split (pv 0) (pa_l1 pe_str)))
      (ps_if (PW.pt (pw_or (pt_cmpR op_ne (pe_cB (call_len_seqk (K := K) rfl) (by rfl) T.b_len (by rfl) (pa_l1 (pv 1))) pe_int (nomark _)) (pw_or (pt_not (pt_val (pe_callH H__law_word (hr.mono (by decide)) rfl (pa_l1 (pe_ix (ix_listk (K := K) rfl) (pv 1) pe_int (fun _ _ => rfl)))))) (pw_or (pt_not (pt_val (pe_callH H__law_word (hr.mono (by decide)) rfl (pa_l1 (pe_ix (ix_listk (K := K) rfl) (pv 1) pe_int (fun _ _ => rfl)))))) (pw_or1 (pt_not (pt_val (pe_callH H__law_word (hr.mono (by decide)) rfl (pa_l1 (pe_ix (ix_listk (K := K) rfl) (pv 1) pe_int (fun _ _ => rfl)))))))))))
      (pss_l1 (ps_ret pe_bl))
      pss_nil)
      (ps_ret (pe_and (pe_cmpR op_ne (pe_ix (ix_listk (K := K) rfl) (pv 1) pe_int (fun _ _ => rfl)) (pe_ix (ix_listk (K := K) rfl) (pv 1) pe_int (fun _ _ => rfl)) (nomark _)) (pe_one (pe_callH H__law_figures (hr.mono (by decide)) rfl (pa_l2 (pe_ix (ix_listk (K := K) rfl) (pv 1) pe_int (fun _ _ => rfl)) pe_int)))))), ?_⟩
    walk_at "rx"
    refine ⟨ty_str, by decide +kernel, by decide +kernel, by omega, fun p hp => ?_⟩
    have hpt : ∀ v ∈ Txt.split x blank, v.length ≤ 5000 := fun v hv => Nat.le_trans (split_part (by decide +kernel) (by decide +kernel) hv) hx
    have hdf : legG x = match (match Txt.split x blank with | [a, b, c, n] => if numOk n then some (a, b, c, numV n) else none | _ => none) with | some l => legD (legDat l) | none => false := rfl
    show rLenQ K [V.ref p] (upd H p (.lst (List.map V.str (Txt.split x blank)))) _
    generalize Txt.split x blank = ws at hpt hdf
    have s1 := Same.upd (o := .lst (ws.map V.str)) hp
    have h1 : (upd H p (.lst (ws.map V.str))) p = some (.lst (ws.map V.str)) := upd_same
    generalize upd H p (.lst (ws.map V.str)) = H1 at s1 h1
    have kf : legG x = false → Q (.bl false) H1 := fun e => by rw [← e]; exact k _ s1
    refine ⟨p, _, rfl, .inl (SqL.of h1), rfl, ite2 (fun h4 => ?_) (fun h4 => ?_)⟩
    · refine kf ?_
      have h3 : ws.length ≠ 4 := fun e => h4 (by rw [List.length_map, e]; rfl)
      rw [hdf]
      match ws, h3 with
      | [], _ => rfl
      | [_], _ => rfl
      | [_, _], _ => rfl
      | [_, _, _], _ => rfl
      | [_, _, _, _], h3 => exact absurd rfl h3
      | _ :: _ :: _ :: _ :: _ :: _, _ => rfl
    · have h3 : ws.length = 4 := by
        have h := Decidable.not_not.mp h4
        injection h with h
        rw [List.length_map] at h
        omega
      match ws, h1, hpt, h3, hdf with
      | [a, b, c, n], h1, hpt, _, hdf =>
        have hdf : legG x = match (if numOk n = true then some (a, b, c, numV n) else none : Option Leg) with | some l => legD (legDat l) | none => false := hdf
        have hval : legG x = (nameS a && nameS b && nameS c && !(PyData.eqv (.str a) (.str b)) && amtOk n) := by
          rw [hdf]
          unfold amtOk
          cases hn : numOk n with
          | false => simp
          | true =>
            have hs := (numV_small hn).2
            show legD (legDat (a, b, c, numV n)) = _
            unfold legDat
            rw [legD_four, amountD_int, show decide (1 ≤ numV n ∧ numV n < 10 ^ 60) = decide (1 ≤ numV n) from by rw [decide_eq_decide]; exact ⟨fun z => z.1, fun z => ⟨z, hs⟩⟩, Bool.true_and]
            rfl
        refine ixL_of h1 (by rfl) ⟨a, rfl, hpt a (by simp), ⟨_, rfl, ite2 (fun ha => kf (by rw [hval, ha]; simp)) (fun ha => ?_)⟩⟩
        have ha : nameS a = true := by simpa using ha
        refine ixL_of h1 (by rfl) ⟨b, rfl, hpt b (by simp), ⟨_, rfl, ite2 (fun hb => kf (by rw [hval, hb]; simp)) (fun hb => ?_)⟩⟩
        have hb : nameS b = true := by simpa using hb
        refine ixL_of h1 (by rfl) ⟨c, rfl, hpt c (by simp), ⟨_, rfl, ite2 (fun hc => kf (by rw [hval, hc]; simp)) (fun hc => ?_)⟩⟩
        have hc : nameS c = true := by simpa using hc
        refine ixL_of h1 (by rfl) (ixL_of h1 (by rfl) ⟨rfl, ite2 (fun hab => ?_) (fun hab => ?_)⟩)
        · have hab : a ≠ b := fun e => hab (by rw [e])
          refine ixL_of h1 (by rfl) ⟨n, 1, rfl, hpt n (by simp), .inr rfl, ?_⟩
          have := k _ s1
          rw [hval, ha, hb, hc, eqv_ne hab] at this
          simpa using this
        · have hab : a = b := by
            have hab := Decidable.not_not.mp hab
            injection hab
          exact kf (by rw [hval, hab, eqv_self]; simp)
def sp__law_is_deal (K : PySem.W.Frag) : Sp := fun vs H Q _ => ∃ p wd r, vs = [.ref p] ∧ H p = some (.lst (List.map V.str (wd :: r))) ∧ (∀ w ∈ r, w.length ≤ 5000) ∧ r.length ≤ 3000 ∧ (Txt.join blank (r.drop 1)).length ≤ 5000 ∧ ∀ H', Same H H' → Q (.bl (offs r).isSome) H'
theorem ok__law_is_deal (T : Txt w K mg Ax) (D : Dfn K mg "_law_is_deal" s__law_is_deal ["words"]) (H__law_word : Has P w K mg base 1 "_law_word" ["word"] sp__law_word) (H__law_is_leg : Has P w K mg base 2 "_law_is_leg" ["text"] (sp__law_is_leg K)) : Has P w K mg base 3 "_law_is_deal" ["words"] (sp__law_is_deal K) := by
  refine D.has sc__law_is_deal (fun vs H Q E h => ?_) (fun f cdv A outer s H vs Q E hr h => ?_)
  · obtain ⟨p, wd, r, rfl, _⟩ := h
    rfl
  · obtain ⟨p, wd, r, rfl, hp, hw, hrl, hj, k⟩ := h
    have hu := hu_of hr
    have hu64 := hr.units
    refine ⟨_, (pss_l4 (ps_if (PW.pt (pw_or (pt_cmpR op_lt (pe_cB (call_len_seqk (K := K) rfl) (by rfl) T.b_len (by rfl) (pa_l1 (pv 0))) pe_int (nomark _)) (pw_or1 (pt_not (pt_val (pe_callH H__law_word (hr.mono (by decide)) rfl (pa_l1 (pe_ix (ix_listk (K := K) rfl) (pv 0) pe_int (fun _ _ => rfl)))))))))
      (pss_l1 (ps_ret pe_bl))
      pss_nil)
      (ps_set (i := 1) sc__law_is_deal.nd rfl (Or.inl rfl) (pe_mk (K := K) rfl PySem.F.plainAttrs_str PySem.F.slot_str_split PySem.F.type_str_split mt_split (pe_mk (K := K) rfl PySem.F.plainAttrs_str PySem.F.slot_str_join PySem.F.type_str_join (mt_joink (K := K) rfl) pe_str (pa_l1 (pe_slice (sl_listk (K := K) rfl) (pv 0) (po_some pe_int) po_none))) (pa_l1 pe_str)))
      (ps_for PassesOwn.never rfl (pi_listk (K := K) rfl (pv 1)) (pg_name (i := 2) sc__law_is_deal.nd rfl (Or.inl rfl))
      (pss_l1 (ps_if (pt_not (pt_val (pe_callH H__law_is_leg (hr.mono (by decide)) rfl (pa_l1 (pv 2)))))
      (pss_l1 (ps_ret pe_bl))
      pss_nil)))
      (ps_ret (pe_cmpR op_le (pe_cB (call_len_seqk (K := K) rfl) (by rfl) T.b_len (by rfl) (pa_l1 (pv 1))) pe_int (nomark _)))), ?_⟩
    walk_at "rx"
    cases r with
    | nil => exact ⟨p, _, rfl, .inl (SqL.of hp), _, rfl, ite2 (fun _ => k _ (Same.refl _)) (fun h => absurd (by simp) h)⟩
    | cons nm rest =>
      by_cases hr : rest = []
      · subst hr
        rw [offs_one] at k
        exact ⟨p, _, rfl, .inl (SqL.of hp), _, rfl, ite2 (fun _ => k _ (Same.refl _)) (fun h => absurd (by simp) h)⟩
      have hr1 : 1 ≤ rest.length := List.length_pos_iff.mpr hr
      have hnm : nm.length ≤ 5000 := hw nm List.mem_cons_self
      have hw2 : ∀ w ∈ rest, w.length ≤ 5000 := fun v hv => hw v (List.mem_cons_of_mem _ hv)
      have hrl2 : rest.length ≤ 3000 := by simp only [List.length_cons] at hrl; omega
      have hj2 : (Txt.join blank rest).length ≤ 5000 := hj
      have k2 : ∀ H', Same H H' → Q (.bl (offT nm rest).isSome) H' := k
      refine ⟨p, _, rfl, .inl (SqL.of hp), _, rfl, ite2 (fun h => absurd h (by simp only [List.length_map, List.length_cons]; omega)) (fun _ => ?_)⟩
      refine ixL_of hp (show atI (List.map V.str (wd :: nm :: rest)) ((1 : Nat) : Int) = some (.str nm) from atI_nat rfl) ⟨nm, rfl, hnm, _, rfl, ite2 (fun hn => ?_) (fun hn => ?_)⟩
      · have : (offT nm rest).isSome = false := by
          unfold offT
          rw [hn]
          cases legsT (Txt.split (Txt.join blank rest) comma) with
          | none => rfl
          | some ls =>
            show (if (legsD (.list (ls.map legDat)) && false) = true then some (DD.deal nm ls) else none).isSome = false
            rw [Bool.and_false]
            rfl
        rw [this] at k2
        exact k2 _ (Same.refl _)
      have hn : nameS nm = true := by simpa using hn
      refine ⟨ty_str, p, _, rfl, SqL.of hp, fun q hq => ?_⟩
      rw [show cutV (List.map V.str (wd :: nm :: rest)) (some 2) none = rest.map V.str from cutV_on (wd :: nm :: rest) (by decide)]
      have s1 := Same.upd (o := .lst (rest.map V.str)) hq
      have h1 : (upd H q (.lst (rest.map V.str))) q = some (.lst (rest.map V.str)) := upd_same
      generalize upd H q (.lst (rest.map V.str)) = H1 at s1 h1
      have hsum : (rest.map (·.length)).sum ≤ rest.length * 5000 := (join_small blank rest).resolve_right (fun ⟨v, hv, h⟩ => by have := hw2 v hv; omega)
      have hb1 : blank.length = 1 := by decide +kernel
      refine ⟨_, q, rest, rfl, rfl, SqL.of h1, by rw [hb1]; omega, ?_⟩
      refine ⟨ty_str, _, rfl, by decide +kernel, by decide +kernel, Nat.le_trans hj2 (by decide), fun pt hpt => ?_⟩
      have htl : (Txt.split (Txt.join blank rest) comma).length ≤ 5001 := Nat.le_trans (split_len _ _ (by decide +kernel) (by decide +kernel)) (by omega)
      have hts : ∀ t ∈ Txt.split (Txt.join blank rest) comma, t.length ≤ 5000 := fun t ht => Nat.le_trans (split_part (by decide +kernel) (by decide +kernel) ht) hj2
      have hne : 1 ≤ (Txt.split (Txt.join blank rest) comma).length := by
        have := congrArg List.length (split_eq (Txt.join blank rest) comma (by decide +kernel) (by decide +kernel))
        have h0 := splG_ne comma.cps.toList 0 [] (Txt.join blank rest).cps.toList
        rw [← this, List.length_map] at h0
        omega
      have hdf : offT nm rest = match legsT (Txt.split (Txt.join blank rest) comma) with | some ls => if legsD (.list (ls.map legDat)) && nameS nm then some (.deal nm ls) else none | none => none := rfl
      show (∃ xs, SqL K (upd H1 pt (.lst (List.map V.str (Txt.split (Txt.join blank rest) comma)))) pt xs) ∧ _
      generalize Txt.split (Txt.join blank rest) comma = ts at htl hts hdf hne
      have s2 := Same.upd (o := .lst (ts.map V.str)) hpt
      have h2 : (upd H1 pt (.lst (ts.map V.str))) pt = some (.lst (ts.map V.str)) := upd_same
      generalize upd H1 pt (.lst (ts.map V.str)) = H2 at s2 h2
      refine ⟨⟨_, SqL.of h2⟩, for_w (y_list K pt (ts.map V.str)) (fun i σ H3 => (∃ o, σ = [some (.ref p), some (.ref pt), o]) ∧ Same H2 H3 ∧ ∀ t ∈ ts.take i, legG t = true) ?_ ?_ ?_ ?_⟩
      · exact ⟨⟨none, rfl⟩, Same.refl _, fun _ h => nomatch h⟩
      · rintro i σ H3 hi ⟨_, s3, _⟩
        exact SqL.of (s3 _ _ h2)
      · rintro i σ H3 y H' hi ⟨⟨o, rfl⟩, s3, hall⟩ ⟨rfl, hy⟩
        obtain ⟨t, ht, rfl⟩ : ∃ t, ts[i]? = some t ∧ y = V.str t := by
          rw [List.getElem?_map] at hy
          cases hti : ts[i]? with
          | none => rw [hti] at hy; cases hy
          | some t => rw [hti] at hy; cases hy; exact ⟨t, rfl, rfl⟩
        walk_at "rx"
        have htm := hts t (List.mem_of_getElem? ht)
        refine ⟨t, rfl, htm, fun H4 s4 => ⟨_, rfl, ite2 (fun hg => ?_) (fun hg => ⟨s3.trans s4, fun t' ht' => ?_⟩)⟩⟩
        · have : (offT nm rest).isSome = false := by
            rw [hdf]
            rcases legs_no (List.mem_of_getElem? ht) hg with h | ⟨ls, h, h'⟩
            · rw [h]; rfl
            · rw [h]
              show (if (legsD (.list (ls.map legDat)) && nameS nm) = true then some (DD.deal nm ls) else none).isSome = false
              rw [h']
              rfl
          rw [this] at k2
          exact k2 _ (((s1.trans s2).trans s3).trans s4)
        · rw [List.take_add_one, ht] at ht'
          rcases List.mem_append.mp ht' with h | h
          · exact hall t' h
          · rw [List.mem_singleton.mp h]
            simpa using hg
      · rintro σ H3 ⟨⟨o, rfl⟩, s3, hall⟩
        rw [List.length_map, List.take_length] at hall
        obtain ⟨ls, hls, hok⟩ := legs_yes hall
        have hll := legsT_len hls
        walk_at "rx"
        refine ⟨pt, _, rfl, .inl (SqL.of (s3 _ _ h2)), _, rfl, ?_⟩
        have := k2 _ ((s1.trans s2).trans s3)
        have e : (offT nm rest).isSome = decide (((ts.map V.str).length : Int) ≤ 8) := by
          rw [hdf, hls]
          show (if (legsD (.list (ls.map legDat)) && nameS nm) = true then some (DD.deal nm ls) else none).isSome = _
          rw [hn, Bool.and_true, legsD_list, show (ls.map legDat).all legD = true from by rw [List.all_map, List.all_eq_true]; exact hok, Bool.and_true, List.length_map, List.length_map]
          by_cases h8 : ts.length ≤ 8
          · rw [decide_eq_true (show 1 ≤ ls.length ∧ ls.length ≤ 8 by omega), decide_eq_true (show (ts.length : Int) ≤ 8 by omega)]
            rfl
          · rw [decide_eq_false (show ¬ (1 ≤ ls.length ∧ ls.length ≤ 8) by omega), decide_eq_false (show ¬ (ts.length : Int) ≤ 8 by omega)]
            rfl
        rwa [e] at this
def sp__law_good (K : PySem.W.Frag) : Sp := fun vs H Q _ => ∃ dt v, vs = [v] ∧ Rep H dt v ∧ (∀ x, dt = .str x → x.length ≤ 3000) ∧ (∀ x, dt = .str x → ∀ H', Same H H' → Q (.bl (parse x).isSome) H') ∧ ((∀ x, dt ≠ .str x) → ∀ H', Same H H' → Q (.bl false) H')
theorem ok__law_good (T : Txt w K mg Ax) (D : Dfn K mg "_law_good" s__law_good ["row"]) (H__law_word : Has P w K mg base 1 "_law_word" ["word"] sp__law_word) (H__law_figures : Has P w K mg base 1 "_law_figures" ["word", "bottom"] sp__law_figures) (H__law_is_deal : Has P w K mg base 3 "_law_is_deal" ["words"] (sp__law_is_deal K)) : Has P w K mg base 4 "_law_good" ["row"] (sp__law_good K) := by
  refine D.has sc__law_good (fun vs H Q E h => ?_) (fun f cdv A outer s H vs Q E hr h => ?_)
  · obtain ⟨dt, v, rfl, _⟩ := h
    rfl
  · obtain ⟨dt, v, rfl, hR, hx, hS, hN⟩ := h
    have hu := hu_of hr
    have hu64 := hr.units
    refine ⟨_, (pss_l7 (ps_if (pt_not (pt_val (pe_cB (call_isik (K := K) rfl) (by rfl) T.b_isinstance (by rfl) (pa_l2 (pv 0) (pe_ty (by rfl) T.b_str (by rfl))))))
      (pss_l1 (ps_ret pe_bl))
      pss_nil)
      (ps_set (i := 1) sc__law_good.nd rfl (Or.inl rfl) (pe_mk (K := K) rfl PySem.F.plainAttrs_str PySem.F.slot_str_split PySem.F.type_str_split mt_split (pv 0) (pa_l1 pe_str)))
      (ps_if (pt_cmpR op_eq (pe_ix (ix_listk (K := K) rfl) (pv 1) pe_int (fun _ _ => rfl)) pe_str (nomark _))
      (pss_l1 (ps_ret (pe_callH H__law_is_deal (hr.mono (by decide)) rfl (pa_l1 (pv 1)))))
      pss_nil)
      (ps_if (pt_cmpR op_eq (pe_ix (ix_listk (K := K) rfl) (pv 1) pe_int (fun _ _ => rfl)) pe_str (nomark _))
      (pss_l1 (ps_ret (pe_and (pe_cmpR op_eq (pe_cB (call_len_seqk (K := K) rfl) (by rfl) T.b_len (by rfl) (pa_l1 (pv 1))) pe_int (nomark _)) (pe_one (pe_callH H__law_word (hr.mono (by decide)) rfl (pa_l1 (pe_ix (ix_listk (K := K) rfl) (pv 1) pe_int (fun _ _ => rfl))))))))
      pss_nil)
      (ps_if (pt_cmpR op_eq (pe_ix (ix_listk (K := K) rfl) (pv 1) pe_int (fun _ _ => rfl)) pe_str (nomark _))
      (pss_l2 (ps_if (PW.pt (pw_or (pt_cmpR op_ne (pe_cB (call_len_seqk (K := K) rfl) (by rfl) T.b_len (by rfl) (pa_l1 (pv 1))) pe_int (nomark _)) (pw_or (pt_not (pt_val (pe_callH H__law_word (hr.mono (by decide)) rfl (pa_l1 (pe_ix (ix_listk (K := K) rfl) (pv 1) pe_int (fun _ _ => rfl)))))) (pw_or1 (pt_not (pt_val (pe_callH H__law_word (hr.mono (by decide)) rfl (pa_l1 (pe_ix (ix_listk (K := K) rfl) (pv 1) pe_int (fun _ _ => rfl))))))))))
      (pss_l1 (ps_ret pe_bl))
      pss_nil)
      (ps_ret (pe_and (pe_callH H__law_word (hr.mono (by decide)) rfl (pa_l1 (pe_ix (ix_listk (K := K) rfl) (pv 1) pe_int (fun _ _ => rfl)))) (pe_one (pe_callH H__law_figures (hr.mono (by decide)) rfl (pa_l2 (pe_ix (ix_listk (K := K) rfl) (pv 1) pe_int (fun _ _ => rfl)) pe_int))))))
      pss_nil)
      (ps_if (pt_cmpR (op_ink (K := K) rfl) (pe_ix (ix_listk (K := K) rfl) (pv 1) pe_int (fun _ _ => rfl)) (pe_lst (pa_l3 pe_str pe_str pe_str)) (by with_unfolding_all rfl))
      (pss_l2 (ps_if (PW.pt (pw_or (pt_cmpR op_ne (pe_cB (call_len_seqk (K := K) rfl) (by rfl) T.b_len (by rfl) (pa_l1 (pv 1))) pe_int (nomark _)) (pw_or (pt_not (pt_val (pe_callH H__law_word (hr.mono (by decide)) rfl (pa_l1 (pe_ix (ix_listk (K := K) rfl) (pv 1) pe_int (fun _ _ => rfl)))))) (pw_or1 (pt_not (pt_val (pe_callH H__law_word (hr.mono (by decide)) rfl (pa_l1 (pe_ix (ix_listk (K := K) rfl) (pv 1) pe_int (fun _ _ => rfl))))))))))
      (pss_l1 (ps_ret pe_bl))
      pss_nil)
      (ps_ret (pe_callH H__law_figures (hr.mono (by decide)) rfl (pa_l2 (pe_ix (ix_listk (K := K) rfl) (pv 1) pe_int (fun _ _ => rfl)) (pe_cT call_int1 (by rfl) T.b_int (by rfl) (pa_l1 (pe_cmpR op_ne (pe_ix (ix_listk (K := K) rfl) (pv 1) pe_int (fun _ _ => rfl)) pe_str (nomark _))))))))
      pss_nil)
      (ps_ret (pe_cmpR op_eq (pv 0) pe_str (nomark _)))), ?_⟩
    walk_at "rx"
    refine isi_of hR (by simp) ⟨_, rfl, ite2 (fun h => ?_) (fun h => ?_)⟩
    · refine hN (fun x e => ?_) _ (Same.refl _)
      subst e
      exact absurd h (by simp [isT, tyD])
    obtain ⟨x, rfl⟩ : ∃ x, dt = .str x := by
      cases dt with
      | str x => exact ⟨x, rfl⟩
      | _ => exact absurd (by simp [isT, tyD]) h
    cases (show v = .str x from hR)
    have hx := hx x rfl
    have k := hS x rfl
    refine ⟨ty_str, x, rfl, by decide +kernel, by decide +kernel, by omega, fun p hp => ?_⟩
    obtain ⟨wd, r, hs⟩ : ∃ wd r, Txt.split x blank = wd :: r := by
      cases h : Txt.split x blank with
      | nil =>
        have := congrArg List.length (split_eq x blank (by decide +kernel) (by decide +kernel))
        rw [h] at this
        exact absurd this.symm (splG_ne _ _ _ _)
      | cons a b => exact ⟨a, b, rfl⟩
    have hpe : parse x = readT wd r := by unfold parse; rw [hs]
    rw [hpe] at k
    have hpt : ∀ v ∈ wd :: r, v.length ≤ 5000 := fun v hv => Nat.le_trans (split_part (by decide +kernel) (by decide +kernel) (hs ▸ hv)) (by omega)
    have hln : (wd :: r).length ≤ 3001 := hs ▸ Nat.le_trans (split_len x blank (by decide +kernel) (by decide +kernel)) (by omega)
    show rIxL K (V.ref p) (V.int 0) (upd H p (.lst (List.map V.str (Txt.split x blank)))) _
    rw [hs]
    have s1 := Same.upd (o := .lst (List.map V.str (wd :: r))) hp
    have h1 : (upd H p (.lst (List.map V.str (wd :: r)))) p = some (.lst (List.map V.str (wd :: r))) := upd_same
    generalize upd H p (.lst (List.map V.str (wd :: r))) = H1 at s1 h1
    have at0 : atI (List.map V.str (wd :: r)) 0 = some (.str wd) := atI_nat (j := 0) rfl
    have hr5 : ∀ v ∈ r, v.length ≤ 5000 := fun v hv => hpt v (List.mem_cons_of_mem _ hv)
    have k1 := k H1 s1
    refine ixL_of h1 at0 ⟨rfl, ite2 (fun e => ?_) (fun n1 => ixL_of h1 at0 ⟨rfl, ite2 (fun e => ?_) (fun n2 => ixL_of h1 at0 ⟨rfl, ite2 (fun e => ?_) (fun n3 => ixL_of h1 at0 fun q hq => ?_)⟩)⟩)⟩
    · injection e with e
      subst e
      have e5 : readT (Str.ofString "deal") r = offs r := by
        unfold readT
        rw [if_neg (by decide +kernel), if_neg (by decide +kernel), if_neg (by decide +kernel), if_neg (by decide +kernel), if_pos rfl]
      have hj : (Txt.join blank (r.drop 1)).length ≤ 5000 := by
        have e := join_split x blank
        rw [hs, join_glue] at e
        have h2 := glue_tail blank (Str.ofString "deal") r
        rw [e] at h2
        rw [join_glue]
        cases r with
        | nil => exact Nat.le_trans h2 (by omega)
        | cons nm rest =>
          have h1 := glue_tail blank nm rest
          show (glue blank rest).length ≤ 5000
          omega
      rw [e5] at k
      exact ⟨p, _, r, rfl, h1, hr5, by simp only [List.length_cons] at hln; omega, hj, fun H' s' => k _ (s1.trans s')⟩
    · injection e with e
      subst e
      have e5 : readT (Str.ofString "off") r = oneT r := by
        unfold readT
        rw [if_neg (by decide +kernel), if_neg (by decide +kernel), if_neg (by decide +kernel), if_neg (by decide +kernel), if_neg (by decide +kernel), if_pos rfl]
      rw [e5] at k1
      refine ⟨p, _, rfl, .inl (SqL.of h1), rfl, ite2 (fun h => ?_) (fun h => ?_)⟩
      · have h := len_is h
        match r, h, h1, hr5, k1 with
        | [nm], _, h1, hr5, k1 =>
          refine ixL_of h1 (by rfl) ⟨nm, rfl, hr5 nm List.mem_cons_self, ?_⟩
          rw [oneT_1] at k1
          cases hn : nameS nm with
          | false => rw [hn] at k1; exact k1
          | true => rw [hn] at k1; exact k1
        | [], h, _, _, _ => exact absurd h (by simp)
        | _ :: _ :: _, h, _, _, _ => exact absurd h (by simp only [List.length_cons]; omega)
      · match r, h, k1 with
        | [nm], h, _ => exact absurd rfl h
        | [], _, k1 => exact k1
        | _ :: _ :: _, _, k1 => exact k1
    · injection e with e
      subst e
      have e5 : readT (Str.ofString "put") r = four r := by
        unfold readT
        rw [if_neg (by decide +kernel), if_neg (by decide +kernel), if_neg (by decide +kernel), if_pos rfl]
      rw [e5] at k1
      refine ⟨p, _, rfl, .inl (SqL.of h1), rfl, ite2 (fun h => ?_) (fun h => ?_)⟩
      · match r, h, k1 with
        | [_, _, _, _], h, _ => exact absurd rfl h
        | [], _, k1 => exact k1
        | [_], _, k1 => exact k1
        | [_, _], _, k1 => exact k1
        | [_, _, _], _, k1 => exact k1
        | _ :: _ :: _ :: _ :: _ :: _, _, k1 => exact k1
      · have h := len_is (Decidable.not_not.mp h)
        match r, h, h1, hr5, k1 with
        | [a, b, nm, n], _, h1, hr5, k1 =>
          have kf : ∀ {c : Bool}, (nameS a && nameS b && nameS nm && numOk n) = c → Q (.bl c) H1 := fun {c} e => by
            rw [four_4, e] at k1
            cases c <;> exact k1
          refine ixL_of h1 (by rfl) ⟨a, rfl, hr5 a (by simp), _, rfl, ite2 (fun ha => kf (by rw [ha]; simp)) (fun ha => ?_)⟩
          have ha : nameS a = true := by simpa using ha
          refine ixL_of h1 (by rfl) ⟨b, rfl, hr5 b (by simp), _, rfl, ite2 (fun hb => kf (by rw [hb]; simp)) (fun hb => ?_)⟩
          have hb : nameS b = true := by simpa using hb
          refine ixL_of h1 (by rfl) ⟨nm, rfl, hr5 nm (by simp), _, rfl, ite2 (fun hm => ?_) (fun hm => kf (by rw [show nameS nm = false from by simpa using hm]; simp))⟩
          refine ixL_of h1 (by rfl) ⟨n, 0, rfl, hr5 n (by simp), .inl rfl, ?_⟩
          rw [if_pos rfl]
          exact kf (by rw [ha, hb, hm]; simp)
        | [], h, _, _, _ => exact absurd h (by simp)
        | [_], h, _, _, _ => exact absurd h (by simp)
        | [_, _], h, _, _, _ => exact absurd h (by simp)
        | [_, _, _], h, _, _, _ => exact absurd h (by simp)
        | _ :: _ :: _ :: _ :: _ :: _, h, _, _, _ => exact absurd h (by simp only [List.length_cons]; omega)
    · have s2 := Same.upd (o := .lst [V.str (Str.ofString "lay"), V.str (Str.ofString "take"), V.str (Str.ofString "line")]) hq
      have h2 : (upd H1 q (.lst [V.str (Str.ofString "lay"), V.str (Str.ofString "take"), V.str (Str.ofString "line")])) q = some (.lst [V.str (Str.ofString "lay"), V.str (Str.ofString "take"), V.str (Str.ofString "line")]) := upd_same
      generalize upd H1 q (.lst [V.str (Str.ofString "lay"), V.str (Str.ofString "take"), V.str (Str.ofString "line")]) = H2 at s2 h2
      have k2 := k H2 (s1.trans s2)
      replace h1 := s2 _ _ h1
      refine in_strs (ss := [Str.ofString "lay", Str.ofString "take", Str.ofString "line"]) h2 ⟨_, rfl, ite2 (fun hin => ?_) (fun hin => ⟨rfl, ?_⟩)⟩
      · obtain ⟨ok, mk, b, e5, hb, eb, hf⟩ : ∃ (ok : Str → Bool) (mk : Str → Str → Str → DD) (b : Int), readT wd r = three ok mk r ∧ (b = 0 ∨ b = 1) ∧ (if ¬ V.str wd = V.str (Str.ofString "line") then 1 else 0 : Int) = b ∧ ∀ n, (if b = 0 then numOk n else amtOk n) = ok n := by
          have hin : wd ∈ [Str.ofString "lay", Str.ofString "take", Str.ofString "line"] := of_decide_eq_true hin
          simp only [List.mem_cons, List.not_mem_nil, or_false] at hin
          rcases hin with rfl | rfl | rfl
          · exact ⟨amtOk, .lay, 1, by unfold readT; rw [if_pos rfl], .inr rfl, if_pos (fun h => by injection h with h; exact absurd h (by decide +kernel)), fun n => if_neg (by decide)⟩
          · exact ⟨amtOk, .take, 1, by unfold readT; rw [if_neg (by decide +kernel), if_pos rfl], .inr rfl, if_pos (fun h => by injection h with h; exact absurd h (by decide +kernel)), fun n => if_neg (by decide)⟩
          · exact ⟨numOk, .line, 0, by unfold readT; rw [if_neg (by decide +kernel), if_neg (by decide +kernel), if_pos rfl], .inl rfl, if_neg (fun h => h rfl), fun n => if_pos rfl⟩
        rw [e5] at k2
        refine ⟨p, _, rfl, .inl (SqL.of h1), rfl, ite2 (fun h => ?_) (fun h => ?_)⟩
        · match r, h, k2 with
          | [_, _, _], h, _ => exact absurd rfl h
          | [], _, k1 => exact k1
          | [_], _, k1 => exact k1
          | [_, _], _, k1 => exact k1
          | _ :: _ :: _ :: _ :: _, _, k1 => exact k1
        · have h := len_is (Decidable.not_not.mp h)
          match r, h, h1, hr5, k2 with
          | [x1, x2, n], _, h1, hr5, k1 =>
            have kf : ∀ {c : Bool}, (nameS x1 && nameS x2 && ok n) = c → Q (.bl c) H2 := fun {c} e => by
              rw [three_3, e] at k1
              cases c <;> exact k1
            refine ixL_of h1 (by rfl) ⟨x1, rfl, hr5 x1 (by simp), _, rfl, ite2 (fun ha => kf (by rw [ha]; simp)) (fun ha => ?_)⟩
            have ha : nameS x1 = true := by simpa using ha
            refine ixL_of h1 (by rfl) ⟨x2, rfl, hr5 x2 (by simp), _, rfl, ite2 (fun hb => kf (by rw [hb]; simp)) (fun hb => ?_)⟩
            have hb : nameS x2 = true := by simpa using hb
            refine ixL_of h1 (by rfl) (ixL_of h1 (by rfl) ⟨rfl, .inr ?_⟩)
            rw [eb]
            refine ⟨n, b, rfl, hr5 n (by simp), ‹b = 0 ∨ b = 1›, ?_⟩
            rw [hf]
            exact kf (by rw [ha, hb]; simp)
          | [], h, _, _, _ => exact absurd h (by simp)
          | [_], h, _, _, _ => exact absurd h (by simp)
          | [_, _], h, _, _, _ => exact absurd h (by simp)
          | _ :: _ :: _ :: _ :: _, h, _, _, _ => exact absurd h (by simp only [List.length_cons]; omega)
      · have hin : ¬ wd ∈ [Str.ofString "lay", Str.ofString "take", Str.ofString "line"] := fun z => hin (decide_eq_true z)
        simp only [List.mem_cons, List.not_mem_nil, or_false, not_or] at hin
        have e5 : readT wd r = if wd = Str.ofString "bell" then noneT r else none := by
          unfold readT
          rw [if_neg hin.1, if_neg hin.2.1, if_neg hin.2.2, if_neg (fun e => n3 (by rw [e])), if_neg (fun e => n1 (by rw [e])), if_neg (fun e => n2 (by rw [e]))]
        have e6 : (readT wd r).isSome = decide (V.str x = V.str (Str.ofString "bell")) := by
          by_cases hb : x = Str.ofString "bell"
          · have hsb : Txt.split (Str.ofString "bell") blank = [Str.ofString "bell"] := by decide +kernel
            rw [hb, hsb] at hs
            injection hs with w1 w2
            rw [e5, ← w1, ← w2, if_pos rfl, decide_eq_true (by rw [hb])]
            rfl
          · rw [decide_eq_false (fun h => hb (by injection h)), e5]
            by_cases hw : wd = Str.ofString "bell"
            · rw [if_pos hw]
              cases r with
              | nil =>
                have hjs := join_split x blank
                rw [hs, join_glue] at hjs
                exact absurd (hjs.symm.trans hw) hb
              | cons _ _ => rfl
            · rw [if_neg hw]
              rfl
        rwa [e6] at k2
def sp__law_cell_at (K : PySem.W.Frag) : Sp := fun vs H Q _ => ∃ a ns, ∃ n : Int, vs = [.ref a, .int n] ∧ SqL K H a (List.map V.int ns) ∧ 0 ≤ n ∧ ∀ m, Q (.int m) H
theorem ok__law_cell_at (T : Txt w K mg Ax) (D : Dfn K mg "_law_cell_at" s__law_cell_at ["script", "k"])  : Has P w K mg base 1 "_law_cell_at" ["script", "k"] (sp__law_cell_at K) := by
  refine D.has sc__law_cell_at (fun vs H Q E h => ?_) (fun f cdv A outer s H vs Q E hr h => ?_)
  · obtain ⟨a, ns, n, rfl, _⟩ := h
    rfl
  · obtain ⟨a, ns, n, rfl, hS, hn, k⟩ := h
    have hu := hu_of hr
    have hu64 := hr.units
    refine ⟨_, (pss_l2 (ps_if (pt_cmpR op_lt (pv 1) (pe_cB (call_len_seqk (K := K) rfl) (by rfl) T.b_len (by rfl) (pa_l1 (pv 0))) (nomark _))
      (pss_l1 (ps_ret (pe_ix (ix_listk (K := K) rfl) (pv 0) (pv 1) (fun _ _ => rfl))))
      pss_nil)
      (ps_ret pe_int)), ?_⟩
    walk_at "rx"
    refine ⟨a, _, rfl, .inl hS, ?_⟩
    walk_at "rx"
    refine ite2 (fun h => ?_) (fun h => ?_)
    · rw [List.length_map] at h
      refine ixLs_of hS (v := .int (ns.getD n.toNat 0)) ?_ (k _)
      rw [atI_lt (.int 0) hn (by rw [List.length_map]; exact h)]
      rw [List.getD_eq_getElem?_getD, List.getD_eq_getElem?_getD, List.getElem?_map]
      cases ns[n.toNat]? <;> rfl
    · exact k _
def sp__law_amount : Sp := fun vs H Q _ => ∃ c : Int, vs = [.int c] ∧ ∀ n : Int, 1 ≤ n → n < 10 ^ 60 → Q (.int n) H
theorem ok__law_amount (T : Txt w K mg Ax) (D : Dfn K mg "_law_amount" s__law_amount ["cell"])  : Has P w K mg base 1 "_law_amount" ["cell"] sp__law_amount := by
  refine D.has sc__law_amount (fun vs H Q E h => ?_) (fun f cdv A outer s H vs Q E hr h => ?_)
  · obtain ⟨c, rfl, _⟩ := h
    rfl
  · obtain ⟨c, rfl, k⟩ := h
    have hu := hu_of hr
    have hu64 := hr.units
    refine ⟨_, (pss_l3 (ps_if (pt_cmpR op_eq (pe_op op_mod (pv 0) pe_int) pe_int (nomark _))
      (pss_l1 (ps_ret (pe_op op_add pe_int (pe_op op_mod (pe_op op_fdiv (pv 0) pe_int) pe_int))))
      pss_nil)
      (ps_if (pt_cmpR op_eq (pe_op op_mod (pv 0) pe_int) pe_int (nomark _))
      (pss_l1 (ps_ret (pe_op op_sub (pe_op op_sub (pe_op op_pow pe_int pe_int) pe_int) (pe_op op_mod (pe_op op_fdiv (pv 0) pe_int) pe_int))))
      pss_nil)
      (ps_ret (pe_op op_add pe_int (pe_op op_mod (pe_op op_fdiv (pv 0) pe_int) (pe_op op_sub (pe_op op_pow pe_int pe_int) pe_int))))), ?_⟩
    walk_at "rx"
    refine ite2 (fun _ => ?_) (fun _ => ite2 (fun _ => ?_) (fun _ => ?_))
    · exact k _ (by omega) (by omega)
    · exact k _ (by omega) (by omega)
    · refine ⟨by decide, ?_⟩
      have h1 := Int.emod_nonneg (c / 4) (show (1000000000000000000000000000000000000000000000000000000000000 - 1 : Int) ≠ 0 by decide)
      have h2 := Int.emod_lt_of_pos (c / 4) (show (0 : Int) < 1000000000000000000000000000000000000000000000000000000000000 - 1 by decide)
      exact k _ (by omega) (by omega)
def sp__law_name (K : PySem.W.Frag) : Sp := fun vs H Q _ => ∃ c : Int, vs = [.int c] ∧ ∀ x H', Same H H' → goodNm x → Q (.str x) H'
theorem ok__law_name (T : Txt w K mg Ax) (D : Dfn K mg "_law_name" s__law_name ["cell"])  : Has P w K mg base 1 "_law_name" ["cell"] (sp__law_name K) := by
  refine D.has sc__law_name (fun vs H Q E h => ?_) (fun f cdv A outer s H vs Q E hr h => ?_)
  · obtain ⟨c, rfl, _⟩ := h
    rfl
  · obtain ⟨c, rfl, k⟩ := h
    have hu := hu_of hr
    have hu64 := hr.units
    refine ⟨_, (pss_l6 (ps_set (i := 1) sc__law_name.nd rfl (Or.inl rfl) (pe_lst (pa_l13 pe_str pe_str pe_str pe_str pe_str pe_str pe_str pe_str pe_str pe_str pe_str pe_str pe_str)))
      (ps_if (pt_cmpR op_eq (pe_op op_mod (pv 0) pe_int) pe_int (nomark _))
      (pss_l1 (ps_ret (pe_ix (ix_listk (K := K) rfl) (pv 1) (pe_op op_mod (pe_op op_fdiv (pv 0) pe_int) pe_int) (fun _ _ => rfl))))
      pss_nil)
      (ps_set (i := 2) sc__law_name.nd rfl (Or.inl rfl) (pe_op op_mod (pv 0) pe_int))
      (ps_set (i := 3) sc__law_name.nd rfl (Or.inl rfl) pe_str)
      (ps_for PassesOwn.never rfl (pi_range1 rfl T.b_range (pa_l1 (pe_op op_add pe_int (pe_op op_mod (pe_op op_fdiv (pv 2) pe_int) pe_int)))) (pg_name (i := 4) sc__law_name.nd rfl (Or.inl rfl))
      (pss_l2 (ps_set (i := 2) sc__law_name.nd rfl (Or.inl rfl) (pe_op op_mod (pe_op op_add (pe_op op_add (pe_op op_add (pe_op op_mul (pv 2) (pv 2)) (pe_op op_mul pe_int (pv 2))) (pv 4)) pe_int) pe_int))
      (ps_set (i := 3) sc__law_name.nd rfl (Or.inl rfl) (pe_op op_add_str (pv 3) (pe_ix ix_str pe_str (pe_op op_mod (pe_op op_fdiv (pv 2) pe_int) pe_int) (fun _ _ => rfl))))))
      (ps_ret (pv 3))), ?_⟩
    walk_at "rx"
    intro p hp
    have s1 := Same.upd (o := .lst [V.str (Str.ofString "lay"), V.str (Str.ofString "take"), V.str (Str.ofString "line"), V.str (Str.ofString "deal"), V.str (Str.ofString "off"), V.str (Str.ofString "put"), V.str (Str.ofString "bell"), V.str (Str.ofString "back"), V.str (Str.ofString "most"), V.str (Str.ofString "none"), V.str (Str.ofString "short"), V.str (Str.ofString "behind"), V.str (Str.ofString "row")]) hp
    have hsb := sizeLine_big
    have q1 : (upd H p (.lst (someW.map V.str))) p = some (.lst (someW.map V.str)) := upd_same
    change Same H (upd H p (.lst (someW.map V.str))) at s1
    show (if c % 5 = 1 then rIxL K (.ref p) (.int (c / 5 % 13)) (upd H p (.lst (someW.map V.str))) Q else _)
    refine ite2 (fun _ => ?_) (fun _ => ?_)
    · have a0 := Int.emod_nonneg (c / 5) (show (13 : Int) ≠ 0 by decide)
      have a1 := Int.emod_lt_of_pos (c / 5) (show (0 : Int) < 13 by decide)
      obtain ⟨n, hn⟩ := Int.eq_ofNat_of_zero_le a0
      rw [hn] at a1 ⊢
      have hl : n < someW.length := by
        have : someW.length = 13 := rfl
        omega
      refine ixL_of q1 (atI_nat (v := V.str someW[n]) (by rw [List.getElem?_map, List.getElem?_eq_getElem hl]; rfl)) ?_
      exact k _ _ s1 (someW_good _ (List.getElem_mem hl))
    · show _ ∧ _ ∧ forW _ _ _ _ _ (upd H p (.lst (someW.map V.str)))
      generalize upd H p (.lst (someW.map V.str)) = H1 at s1 q1
      have ha26 : (abc.length : Int) = 26 := by decide +kernel
      refine ⟨by omega, by omega, for_w (y_range 0 _) (fun i σ H2 => ∃ (nb : Int) (x : Str) (o : Option V), σ = [some (.int c), some (.ref p), some (.int nb), some (.str x), o] ∧ H2 = H1 ∧ 0 ≤ nb ∧ nb < 2147483647 ∧ x.length = i ∧ ∀ ch ∈ x.cps.toList, ch ∈ abc.cps.toList) ?_ ?_ ?_ ?_⟩
      · exact ⟨_, _, none, rfl, rfl, by omega, by omega, rfl, by intro ch h; cases h⟩
      · intros; trivial
      · rintro i σ H2 x H' hi ⟨nb, z, o, rfl, rfl, h0, h1, hl, hc⟩ ⟨rfl, rfl⟩
        walk_at "rx"
        generalize (nb * nb + 48271 * nb + (0 + (i : Int)) + 7) = big
        refine ⟨.inl (by omega), ixS_of (z := abc) (by decide +kernel) (by omega) (by rw [ha26]; omega) ⟨_, rfl, ?_, _, _, ⟨rfl, rfl⟩, rfl, by omega, by omega, ?_, fun ch hch => ?_⟩⟩
        · show z.length + 1 ≤ sizeLine
          omega
        · rw [str_len, app_chars, List.length_append, ← str_len, hl]
          rfl
        · rw [app_chars] at hch
          rcases List.mem_append.mp hch with h | h
          · exact hc ch h
          · rw [List.mem_singleton.mp h]
            exact abc_at (by omega)
      · rintro σ H2 ⟨nb, z, o, rfl, rfl, h0, h1, hl, hc⟩
        walk_at "rx"
        exact k z _ s1 ⟨by omega, by omega, hc⟩
def sp__law_leg (K : PySem.W.Frag) : Sp := fun vs H Q _ => ∃ c : Int, vs = [.int c] ∧ ∀ p g t w m H', Same H H' → H p = none → H' p = some (.tup [.str g, .str t, .str w, .int m]) → goodNm g → goodNm t → goodNm w → g ≠ t → 1 ≤ m → m < 10 ^ 60 → Q (.ref p) H'
theorem ok__law_leg (T : Txt w K mg Ax) (D : Dfn K mg "_law_leg" s__law_leg ["cell"]) (H__law_amount : Has P w K mg base 1 "_law_amount" ["cell"] sp__law_amount) (H__law_name : Has P w K mg base 1 "_law_name" ["cell"] (sp__law_name K)) : Has P w K mg base 2 "_law_leg" ["cell"] (sp__law_leg K) := by
  refine D.has sc__law_leg (fun vs H Q E h => ?_) (fun f cdv A outer s H vs Q E hr h => ?_)
  · obtain ⟨c, rfl, _⟩ := h
    rfl
  · obtain ⟨c, rfl, k⟩ := h
    have hu := hu_of hr
    have hu64 := hr.units
    refine ⟨_, (pss_l4 (ps_set (i := 1) sc__law_leg.nd rfl (Or.inl rfl) (pe_callH H__law_name (hr.mono (by decide)) rfl (pa_l1 (pv 0))))
      (ps_set (i := 2) sc__law_leg.nd rfl (Or.inl rfl) (pe_callH H__law_name (hr.mono (by decide)) rfl (pa_l1 (pe_op op_add (pe_op op_mul (pv 0) pe_int) pe_int))))
      (ps_if (PW.pt (pw_and (pt_cmpR op_eq (pv 1) (pv 2) (nomark _)) (pw_and1 (pt_cmpR op_eq (pe_ix ix_str (pv 1) pe_int (fun _ _ => rfl)) pe_str (nomark _)))))
      (pss_l1 (ps_set (i := 2) sc__law_leg.nd rfl (Or.inl rfl) (pe_op op_add_str pe_str (pe_slice sl_str (pv 1) (po_some pe_int) po_none))))
      (pss_l1 (ps_if (pt_cmpR op_eq (pv 1) (pv 2) (nomark _))
      (pss_l1 (ps_set (i := 2) sc__law_leg.nd rfl (Or.inl rfl) (pe_op op_add_str pe_str (pe_slice sl_str (pv 1) (po_some pe_int) po_none))))
      pss_nil)))
      (ps_ret (pe_tup (pa_l4 (pv 1) (pv 2) (pe_callH H__law_name (hr.mono (by decide)) rfl (pa_l1 (pe_op op_add (pe_op op_mul (pv 0) pe_int) pe_int))) (pe_callH H__law_amount (hr.mono (by decide)) rfl (pa_l1 (pe_op op_fdiv (pv 0) pe_int))))))), ?_⟩
    walk_at "rx"
    refine ⟨_, rfl, fun g H1 s1 hg => ⟨_, rfl, fun tk H2 s2 ht => ⟨rfl, ?_⟩⟩⟩
    have s12 := s1.trans s2
    have fin : ∀ t', goodNm t' → g ≠ t' → sp__law_name K [V.int (c * 11 + 5)] H2 (fun x H1 => sp__law_amount [V.int (c / 2)] H1 (fun x_1 H1 => ∀ (p : Addr), H1 p = none → Q (V.ref p) (upd H1 p (HO.tup [V.str g, V.str t', x, x_1]))) E0) E0 := fun t' ht' hne => by
      refine ⟨_, rfl, fun wr H3 s3 hw => ⟨_, rfl, fun m m1 m2 p hp => ?_⟩⟩
      exact k p g t' wr m _ ((s12.trans s3).trans (Same.upd hp)) ((s12.trans s3).free hp) upd_same hg ht' hw hne m1 m2
    have hsb := sizeLine_big
    have hg8 := hg.2.1
    have hsl : (Txt.slice g (some 1) none).length ≤ 8 := Nat.le_trans (Txt.slice_le g _ _) hg8
    have hd1 : ("a" : Str).length = 1 := by decide +kernel
    have hd2 : ("b" : Str).length = 1 := by decide +kernel
    refine ite2 (fun h => ?_) (fun h => ?_)
    · have h : g = tk := by injection h
      subst h
      refine ixS_of (z := g) (by omega) (by omega) (by have := hg.1; omega) ⟨rfl, ite2 (fun h => ?_) (fun h => ?_)⟩
      · refine ⟨g, rfl, by omega, _, rfl, by omega, ?_⟩
        obtain ⟨q1, q2⟩ := turn_name (y := "b") (d := 98) hg (by decide +kernel) (by decide +kernel) (fun z => by
          injection h with h
          have := congrArg (fun s : Str => s.cps.toList) h
          have e1 : [g.cps.toList.getD 0 0] = [97] := this.trans (by decide +kernel)
          rw [z] at e1
          exact absurd e1 (by decide))
        exact fin _ q1 q2
      · refine ⟨rfl, ?_⟩
        refine ite2 (fun _ => ?_) (fun z => absurd rfl z)
        refine ⟨g, rfl, by omega, _, rfl, by omega, ?_⟩
        obtain ⟨q1, q2⟩ := turn_name (y := "a") (d := 97) hg (by decide +kernel) (by decide +kernel) (fun z => h (by
          show V.str ⟨#[g.cps.toList.getD 0 0]⟩ = V.str "a"
          rw [z]
          congr))
        exact fin _ q1 q2
    · refine ⟨rfl, ?_⟩
      refine ite2 (fun z => absurd z h) (fun _ => ?_)
      exact fin tk ht (fun e => h (by rw [e]))
def sp__law_leg_text (K : PySem.W.Frag) : Sp := fun vs H Q _ => ∃ t l, vs = [.ref t] ∧ H t = some (.tup [.str l.1, .str l.2.1, .str l.2.2.1, .int l.2.2.2]) ∧ GoodLeg l ∧ Q (.str (legTxt l)) H
theorem ok__law_leg_text (T : Txt w K mg Ax) (D : Dfn K mg "_law_leg_text" s__law_leg_text ["leg"])  : Has P w K mg base 1 "_law_leg_text" ["leg"] (sp__law_leg_text K) := by
  refine D.has sc__law_leg_text (fun vs H Q E h => ?_) (fun f cdv A outer s H vs Q E hr h => ?_)
  · obtain ⟨t, l, rfl, _⟩ := h
    rfl
  · obtain ⟨t, l, rfl, ht, hg, k⟩ := h
    have hu := hu_of hr
    have hu64 := hr.units
    refine ⟨_, (pss_l1 (ps_ret (pe_op op_add_str (pe_op op_add_str (pe_op op_add_str (pe_op op_add_str (pe_op op_add_str (pe_op op_add_str (pe_ix (ix_tupk (K := K) rfl) (pv 0) pe_int (fun _ _ => rfl)) pe_str) (pe_ix (ix_tupk (K := K) rfl) (pv 0) pe_int (fun _ _ => rfl))) pe_str) (pe_ix (ix_tupk (K := K) rfl) (pv 0) pe_int (fun _ _ => rfl))) pe_str) (pe_cT call_str_int (by rfl) T.b_str (by rfl) (pa_l1 (pe_ix (ix_tupk (K := K) rfl) (pv 0) pe_int (fun _ _ => rfl))))))), ?_⟩
    walk_at "rx"
    have hsb := sizeLine_big
    obtain ⟨g1, g2, g3, _, g5, g6⟩ := id hg
    have hb : (Str.ofString " ").length = 1 := by decide +kernel
    have l1 := g1.2.1
    have l2 := g2.2.1
    have l3 := g3.2.1
    have l4 : (figs l.2.2.2.toNat).length ≤ 60 := figs_len (by decide) (by omega)
    refine ixT_of ht (by rfl) ⟨_, rfl, by omega, ixT_of ht (by rfl) ⟨_, rfl, by simp only [app_len, hb]; omega, by simp only [app_len, hb]; omega, ixT_of ht (by rfl) ⟨_, rfl, by simp only [app_len, hb]; omega, by simp only [app_len, hb]; omega, ixT_of ht (by rfl) ⟨_, rfl, figs_log (by omega) (by omega), ?_⟩⟩⟩⟩
    rw [figs_of (show 0 ≤ l.2.2.2 by omega)]
    exact ⟨by simp only [app_len, hb]; omega, k⟩
def sp__law_made (K : PySem.W.Frag) : Sp := fun vs H Q _ => ∃ h o t : Int, vs = [.int h, .int o, .int t] ∧ ∀ d p v H', GoodDD d → Same H H' → H' p = some (.tup [.int (kindN d : Nat), v, .str (textD d)]) → Rep H' (thingsD d) v → Q (.ref p) H'
theorem ok__law_made (T : Txt w K mg Ax) (D : Dfn K mg "_law_made" s__law_made ["head", "one", "two"]) (H__law_amount : Has P w K mg base 1 "_law_amount" ["cell"] sp__law_amount) (H__law_name : Has P w K mg base 1 "_law_name" ["cell"] (sp__law_name K)) (H__law_leg : Has P w K mg base 2 "_law_leg" ["cell"] (sp__law_leg K)) (H__law_leg_text : Has P w K mg base 1 "_law_leg_text" ["leg"] (sp__law_leg_text K)) : Has P w K mg base 3 "_law_made" ["head", "one", "two"] (sp__law_made K) := by
  refine D.has sc__law_made (fun vs H Q E h => ?_) (fun f cdv A outer s H vs Q E hr h => ?_)
  · obtain ⟨h0, o0, t0, rfl, _⟩ := h
    rfl
  · obtain ⟨h0, o0, t0, rfl, k⟩ := h
    have hu := hu_of hr
    have hu64 := hr.units
    refine ⟨_, (pss_l10 (ps_set (i := 3) sc__law_made.nd rfl (Or.inl rfl) (pe_op op_mod (pv 0) pe_int))
      (ps_set (i := 4) sc__law_made.nd rfl (Or.inl rfl) (pe_tup (pa_l2 (pe_callH H__law_name (hr.mono (by decide)) rfl (pa_l1 (pv 1))) (pe_callH H__law_name (hr.mono (by decide)) rfl (pa_l1 (pe_op op_add (pe_op op_mul (pv 1) pe_int) pe_int))))))
      (ps_set (i := 5) sc__law_made.nd rfl (Or.inl rfl) (pe_op op_add_str (pe_op op_add_str (pe_op op_add_str (pe_ix (ix_tupk (K := K) rfl) (pv 4) pe_int (fun _ _ => rfl)) pe_str) (pe_ix (ix_tupk (K := K) rfl) (pv 4) pe_int (fun _ _ => rfl))) pe_str))
      (ps_set (i := 6) sc__law_made.nd rfl (Or.inl rfl) (pe_callH H__law_amount (hr.mono (by decide)) rfl (pa_l1 (pv 2))))
      (ps_if (pt_cmpR op_lt (pv 3) pe_int (nomark _))
      (pss_l1 (ps_ret (pe_tup (pa_l3 (pv 3) (pe_tup (pa_l2 (pv 4) (pv 6))) (pe_op op_add_str (pe_op op_add_str (pe_ix (ix_listk (K := K) rfl) (pe_lst (pa_l2 pe_str pe_str)) (pv 3) (fun _ _ => rfl)) (pv 5)) (pe_cT call_str_int (by rfl) T.b_str (by rfl) (pa_l1 (pv 6))))))))
      pss_nil)
      (ps_if (pt_cmpR op_eq (pv 3) pe_int (nomark _))
      (pss_l2 (ps_set (i := 7) sc__law_made.nd rfl (Or.inl rfl) (pe_ix (ix_listk (K := K) rfl) (pe_lst (pa_l2 pe_int (pv 6))) (pe_cT call_int1 (by rfl) T.b_int (by rfl) (pa_l1 (pe_cmpR op_gt (pe_op op_mod (pe_op op_fdiv (pv 2) pe_int) pe_int) pe_int (nomark _)))) (fun _ _ => rfl)))
      (ps_ret (pe_tup (pa_l3 (pv 3) (pe_tup (pa_l2 (pv 4) (pv 7))) (pe_op op_add_str (pe_op op_add_str pe_str (pv 5)) (pe_cT call_str_int (by rfl) T.b_str (by rfl) (pa_l1 (pv 7))))))))
      pss_nil)
      (ps_if (pt_cmpR op_eq (pv 3) pe_int (nomark _))
      (pss_l3 (ps_setcomp (i := 8) sc__law_made.nd rfl rfl (show CompSc ["head", "one", "two", "kind", "shelf", "front", "amount", "line", "legs", "text", "name", "place"] ["k", "two"] (defScope s__law_made) _ [none, some 2] from by exact ⟨rfl, by decide +kernel, by decide +kernel, by decide +kernel, by decide +kernel⟩) (pi_range1 rfl T.b_range (pa_l1 (pe_op op_add pe_int (pe_op op_mod (pe_op op_fdiv (pv 0) pe_int) pe_int)))) (fun _ _ _ => (pg_name (i := 0) (show List.Nodup [("k" : Str), ("two" : Str)] from by decide +kernel) rfl (Or.inl rfl))) (fun _ _ _ => pf_nil) (fun _ _ _ => (pe_callH H__law_leg (hr.mono (by decide)) rfl (pa_l1 (pe_op op_mod (pe_op op_add (pe_op op_add (pv 1) (pe_op op_mul (pe_op op_mul pe_int (pv 0)) (pv 0))) (pv 0)) (pe_op op_pow pe_int pe_int))))))
      (ps_set (i := 9) sc__law_made.nd rfl (Or.inl rfl) (pe_op op_add_str (pe_op op_add_str (pe_op op_add_str pe_str (pe_ix (ix_tupk (K := K) rfl) (pv 4) pe_int (fun _ _ => rfl))) pe_str) (pe_mk (K := K) rfl PySem.F.plainAttrs_str PySem.F.slot_str_join PySem.F.type_str_join (mt_joink (K := K) rfl) pe_str (pa_l1 (pe_comp (show CompSc ["head", "one", "two", "kind", "shelf", "front", "amount", "line", "legs", "text", "name", "place"] ["leg"] (defScope s__law_made) _ [none] from by exact ⟨rfl, by decide +kernel, by decide +kernel, by decide +kernel, by decide +kernel⟩) (pi_listk (K := K) rfl (pv 8)) (fun _ _ _ => (pg_name (i := 0) (show List.Nodup [("leg" : Str)] from by decide +kernel) rfl (Or.inl rfl))) (fun _ _ _ => pf_nil) (fun _ _ _ => (pe_callH H__law_leg_text (hr.mono (by decide)) rfl (pa_l1 (pv 0)))))))))
      (ps_ret (pe_tup (pa_l3 (pv 3) (pe_tup (pa_l1 (pe_tup (pa_l2 (pe_ix (ix_tupk (K := K) rfl) (pv 4) pe_int (fun _ _ => rfl)) (pe_cT (call_tuple_ofk (K := K) rfl) (by rfl) T.b_tuple (by rfl) (pa_l1 (pv 8))))))) (pv 9)))))
      pss_nil)
      (ps_if (pt_cmpR op_eq (pv 3) pe_int (nomark _))
      (pss_l1 (ps_ret (pe_tup (pa_l3 (pv 3) (pe_tup (pa_l1 (pe_ix (ix_tupk (K := K) rfl) (pv 4) pe_int (fun _ _ => rfl)))) (pe_op op_add_str pe_str (pe_ix (ix_tupk (K := K) rfl) (pv 4) pe_int (fun _ _ => rfl)))))))
      pss_nil)
      (ps_if (pt_cmpR op_eq (pv 3) pe_int (nomark _))
      (pss_l3 (ps_set (i := 10) sc__law_made.nd rfl (Or.inl rfl) (pe_callH H__law_name (hr.mono (by decide)) rfl (pa_l1 (pv 2))))
      (ps_set (i := 11) sc__law_made.nd rfl (Or.inl rfl) (pe_ix (ix_listk (K := K) rfl) (pe_lst (pa_l2 (pe_op op_mod (pe_op op_fdiv (pv 0) pe_int) pe_int) (pe_op op_mod (pe_op op_fdiv (pv 0) pe_int) (pe_op op_pow pe_int pe_int)))) (pe_op op_fdiv (pe_op op_mod (pe_op op_fdiv (pv 0) pe_int) pe_int) pe_int) (fun _ _ => rfl)))
      (ps_ret (pe_tup (pa_l3 (pv 3) (pe_tup (pa_l3 (pv 4) (pv 10) (pv 11))) (pe_op op_add_str (pe_op op_add_str (pe_op op_add_str (pe_op op_add_str pe_str (pv 5)) (pv 10)) pe_str) (pe_cT call_str_int (by rfl) T.b_str (by rfl) (pa_l1 (pv 11))))))))
      pss_nil)
      (ps_ret (pe_tup (pa_l3 (pv 3) (pe_tup pa_nil) pe_str)))), ?_⟩
    have hsb := sizeLine_big
    have hbl : (Str.ofString " ").length = 1 := by decide +kernel
    refine seq_cut (fun σ' H1 => σ' = [some (.int h0), some (.int o0), some (.int t0), some (.int (h0 % 7)), none, none, none, none, none, none, none, none] ∧ H1 = H) ?_ ?_
    · intro N hN
      walk_at "rx"
      exact hN _ _ ⟨rfl, rfl⟩
    rintro σ' H1 ⟨rfl, rfl⟩
    refine seq_cut (fun σ' H2 => ∃ sh a b, σ' = [some (.int h0), some (.int o0), some (.int t0), some (.int (h0 % 7)), some (.ref sh), none, none, none, none, none, none, none] ∧ Same H1 H2 ∧ H2 sh = some (.tup [.str a, .str b]) ∧ goodNm a ∧ goodNm b) ?_ ?_
    · intro N hN
      walk_at "rx"
      exact ⟨_, rfl, fun a H2 s2 ha => ⟨_, rfl, fun b H3 s3 hb sh hsh => hN _ _ ⟨sh, a, b, rfl, (s2.trans s3).updT hsh, upd_same, ha, hb⟩⟩⟩
    rintro σ' H2 ⟨sh, a, b, rfl, s2, hsh, ha, hb⟩
    have la := ha.2.1
    have lb := hb.2.1
    refine seq_cut (fun σ' H3 => σ' = [some (.int h0), some (.int o0), some (.int t0), some (.int (h0 % 7)), some (.ref sh), some (.str (frontS a b)), none, none, none, none, none, none] ∧ H3 = H2) ?_ ?_
    · intro N hN
      walk_at "rx"
      refine ixT_of hsh (by rfl) ⟨_, rfl, by omega, ixT_of hsh (by rfl) ⟨_, rfl, by simp only [app_len, hbl]; omega, by simp only [app_len, hbl]; omega, hN _ _ ⟨rfl, rfl⟩⟩⟩
    rintro σ' H3 ⟨rfl, rfl⟩
    refine seq_cut (fun σ' H4 => ∃ m : Int, σ' = [some (.int h0), some (.int o0), some (.int t0), some (.int (h0 % 7)), some (.ref sh), some (.str (frontS a b)), some (.int m), none, none, none, none, none] ∧ H4 = H3 ∧ 1 ≤ m ∧ m < 10 ^ 60) ?_ ?_
    · intro N hN
      walk_at "rx"
      exact ⟨_, rfl, fun m m1 m2 => hN _ _ ⟨m, rfl, rfl, m1, m2⟩⟩
    rintro σ' H4 ⟨m, rfl, rfl, m1, m2⟩
    have hfl : (frontS a b).length ≤ 18 := by unfold frontS; simp only [app_len, hbl]; omega
    have h70 := Int.emod_nonneg h0 (show (7 : Int) ≠ 0 by decide)
    have h71 := Int.emod_lt_of_pos h0 (show (0 : Int) < 7 by decide)
    have nmb : ∀ {j : Int}, 0 ≤ j → j < 10 ^ 60 → j.natAbs.log2 < 1920 ∧ Str.ofString (toString j) = figs j.toNat ∧ (figs j.toNat).length ≤ 60 ∧ numV (figs j.toNat) = j := fun {j} j0 j1 => ⟨figs_log j0 (Int.lt_trans j1 (by decide)), figs_of j0, figs_len (by decide) (by omega), numV_figs j0 j1⟩
    refine seq_cut (fun σ' H5 => σ' = [some (.int h0), some (.int o0), some (.int t0), some (.int (h0 % 7)), some (.ref sh), some (.str (frontS a b)), some (.int m), none, none, none, none, none] ∧ H5 = H4 ∧ ¬ h0 % 7 < 2) ?_ ?_
    · intro N hN
      obtain ⟨n1, n2, n3, n4⟩ := nmb (show 0 ≤ m by omega) m2
      walk_at "rx"
      refine ite2 (fun h2 p1 hp1 => ?_) (fun h2 => hN _ _ ⟨rfl, rfl, h2⟩)
      have t1 := Same.upd (o := .tup [V.ref sh, V.int m]) hp1
      have q1 : (upd H4 p1 (.tup [V.ref sh, V.int m])) p1 = some (.tup [V.ref sh, V.int m]) := upd_same
      generalize upd H4 p1 (.tup [V.ref sh, V.int m]) = G1 at t1 q1
      intro p2 hp2
      have t2 := Same.upd (o := .lst [V.str (Str.ofString "lay "), V.str (Str.ofString "take ")]) hp2
      have q2 : (upd G1 p2 (.lst [V.str (Str.ofString "lay "), V.str (Str.ofString "take ")])) p2 = some (.lst [V.str (Str.ofString "lay "), V.str (Str.ofString "take ")]) := upd_same
      generalize upd G1 p2 (.lst [V.str (Str.ofString "lay "), V.str (Str.ofString "take ")]) = G2 at t2 q2
      have rp : ∀ {G : Hp}, Same G2 G → Rep G (.tuple [.tuple [.str a, .str b], .int (numV (figs m.toNat))]) (.ref p1) := fun {G} sG => ⟨p1, _, rfl, sG _ _ (t2 _ _ q1), _, _, rfl, rep_two (sG _ _ (t2 _ _ (t1 _ _ hsh))), _, _, rfl, by rw [n4]; rfl, rfl⟩
      have hk : h0 % 7 = 0 ∨ h0 % 7 = 1 := by omega
      rcases hk with hk | hk
      · rw [hk]
        refine ixL_of q2 (by rfl) ⟨_, rfl, by rw [show (Str.ofString "lay ").length = 4 from by decide +kernel]; omega, ?_⟩
        refine ⟨n1, ?_⟩
        rw [n2]
        refine ⟨by simp only [app_len, show (Str.ofString "lay ").length = 4 from by decide +kernel]; omega, fun p3 hp3 => ?_⟩
        exact k (.lay a b (figs m.toNat)) p3 (.ref p1) _ ⟨ha, hb, numG_of (by omega) m2⟩ (((s2.trans t1).trans t2).trans (Same.upd hp3)) upd_same (rp (Same.upd hp3))
      · rw [hk]
        refine ixL_of q2 (by rfl) ⟨_, rfl, by rw [show (Str.ofString "take ").length = 5 from by decide +kernel]; omega, ?_⟩
        refine ⟨n1, ?_⟩
        rw [n2]
        refine ⟨by simp only [app_len, show (Str.ofString "take ").length = 5 from by decide +kernel]; omega, fun p3 hp3 => ?_⟩
        exact k (.take a b (figs m.toNat)) p3 (.ref p1) _ ⟨ha, hb, numG_of (by omega) m2⟩ (((s2.trans t1).trans t2).trans (Same.upd hp3)) upd_same (rp (Same.upd hp3))
    rintro σ' H5 ⟨rfl, rfl, hk2⟩
    refine seq_cut (fun σ' H6 => σ' = [some (.int h0), some (.int o0), some (.int t0), some (.int (h0 % 7)), some (.ref sh), some (.str (frontS a b)), some (.int m), none, none, none, none, none] ∧ H6 = H5 ∧ ¬ h0 % 7 = 2) ?_ ?_
    · intro N hN
      walk_at "rx"
      refine ite2 (fun h2 => ?_) (fun h2 => hN _ _ ⟨rfl, rfl, h2⟩)
      intro p hp
      have t1 := Same.upd (o := .lst [V.int 0, V.int m]) hp
      have q1 : (upd H5 p (.lst [V.int 0, V.int m])) p = some (.lst [V.int 0, V.int m]) := upd_same
      generalize upd H5 p (.lst [V.int 0, V.int m]) = G1 at t1 q1
      obtain ⟨j, hj, j0, j1⟩ : ∃ j : Int, atI [V.int 0, V.int m] (if 0 < t0 / 9 % 4 then 1 else 0) = some (.int j) ∧ 0 ≤ j ∧ j < 10 ^ 60 := by
        by_cases h : 0 < t0 / 9 % 4
        · rw [if_pos h]; exact ⟨m, rfl, by omega, m2⟩
        · rw [if_neg h]; exact ⟨0, rfl, by decide, by decide⟩
      obtain ⟨n1, n2, n3, n4⟩ := nmb j0 j1
      refine .inr (ixL_of q1 hj fun p1 hp1 => ?_)
      have t2 := Same.upd (o := .tup [V.ref sh, V.int j]) hp1
      have q2 : (upd G1 p1 (.tup [V.ref sh, V.int j])) p1 = some (.tup [V.ref sh, V.int j]) := upd_same
      generalize upd G1 p1 (.tup [V.ref sh, V.int j]) = G2 at t2 q2
      refine ⟨by rw [show (Str.ofString "line ").length = 5 from by decide +kernel]; omega, _, rfl, n1, ?_⟩
      rw [n2]
      refine ⟨by simp only [app_len, show (Str.ofString "line ").length = 5 from by decide +kernel]; omega, fun p3 hp3 => ?_⟩
      rw [h2]
      refine k (.line a b (figs j.toNat)) p3 (.ref p1) _ ⟨ha, hb, numG_of j0 j1⟩ (((s2.trans t1).trans t2).trans (Same.upd hp3)) upd_same ?_
      exact ⟨p1, _, rfl, Same.upd hp3 _ _ q2, _, _, rfl, rep_two (Same.upd hp3 _ _ (t2 _ _ (t1 _ _ hsh))), _, _, rfl, by rw [n4]; rfl, rfl⟩
    rintro σ' H6 ⟨rfl, rfl, hk3⟩
    refine seq_cut (fun σ' H7 => σ' = [some (.int h0), some (.int o0), some (.int t0), some (.int (h0 % 7)), some (.ref sh), some (.str (frontS a b)), some (.int m), none, none, none, none, none] ∧ H7 = H6 ∧ ¬ h0 % 7 = 3) ?_ ?_
    · intro N hN
      walk_at "rx"
      refine ite2 (fun h2 => ?_) (fun h2 => hN _ _ ⟨rfl, rfl, h2⟩)
      have e0 := Int.emod_nonneg (h0 / 7) (show (8 : Int) ≠ 0 by decide)
      have e1 := Int.emod_lt_of_pos (h0 / 7) (show (0 : Int) < 8 by decide)
      generalize hmy : (1 + h0 / 7 % 8).toNat = my
      have my1 : 1 ≤ my ∧ my ≤ 8 := by omega
      refine ⟨by omega, by omega, comp_w (y_range 0 _) (fun i σ acc G => (∃ o, σ = [o, some (.int t0)]) ∧ Same H6 G ∧ ∃ ls : List Leg, ls.length = i ∧ LegsAt G ls acc ∧ ∀ l ∈ ls, GoodLeg l) ?_ ?_ ?_ ?_⟩
      · exact ⟨⟨none, rfl⟩, Same.refl _, [], rfl, .nil, fun _ h => nomatch h⟩
      · rintro i σ acc G hi ⟨_, sG, ls, hl, hL, _⟩
        refine ⟨trivial, fun _ => ?_⟩
        rw [← hL.len, hl]
        omega
      · rintro i σ acc G y G' hi ⟨⟨o, rfl⟩, sG, ls, hl, hL, hg⟩ ⟨rfl, rfl⟩
        walk_at "rx"
        refine ⟨.inr (by omega), _, rfl, fun p g tk wr mm G2 sG2 _ hp hg1 hg2 hg3 hne n1 n2 => ⟨sG.trans sG2, ls ++ [(g, tk, wr, mm)], by rw [List.length_append, hl]; rfl, Paired.append (hL.same sG2) (.cons ⟨p, rfl, hp⟩ .nil), fun l hl' => ?_⟩⟩
        rcases List.mem_append.mp hl' with h | h
        · exact hg l h
        · rw [List.mem_singleton.mp h]
          exact ⟨hg1, hg2, hg3, hne, n1, n2⟩
      · rintro σ acc G ⟨_, sG, ls, hl, hL, hg⟩ p hp
        have t1 := sG.updT (o := .lst acc) hp
        have q1 : (upd G p (.lst acc)) p = some (.lst acc) := upd_same
        have hL1 := hL.same (Same.upd (o := .lst acc) hp)
        generalize upd G p (.lst acc) = G1 at t1 q1 hL1
        have hll := hL1.len
        refine ixT_of (t1 _ _ hsh) (by rfl) ⟨_, rfl, by rw [show (Str.ofString "deal ").length = 5 from by decide +kernel]; omega, by simp only [app_len, hbl, show (Str.ofString "deal ").length = 5 from by decide +kernel]; omega, ty_str, p, rfl, ⟨_, SqL.of q1⟩, ?_⟩
        refine comp_w (y_list K p acc) (fun i σ ac2 G2 => (∃ o, σ = [o]) ∧ G2 = G1 ∧ ac2 = ((ls.take i).map legTxt).map V.str) ?_ ?_ ?_ ?_
        · exact ⟨⟨none, rfl⟩, rfl, rfl⟩
        · rintro i σ ac2 G2 hi ⟨_, rfl, rfl⟩
          refine ⟨SqL.of q1, fun _ => ?_⟩
          rw [List.length_map, List.length_map, List.length_take]
          omega
        · rintro i σ ac2 G2 y G' hi ⟨⟨o, rfl⟩, rfl, rfl⟩ ⟨rfl, hy⟩
          obtain ⟨l, hli⟩ : ∃ l, ls[i]? = some l := ⟨_, List.getElem?_eq_getElem (by omega)⟩
          obtain ⟨v, hv, t, rfl, ht⟩ := Paired.get hL1 hli
          rw [hv] at hy
          cases hy
          walk_at "rx"
          refine ⟨t, l, rfl, ht, hg l (List.mem_of_getElem? hli), rfl, ?_⟩
          rw [List.take_add_one, hli, List.map_append, List.map_append]
          rfl
        · rintro σ ac2 G2 ⟨_, rfl, rfl⟩ p2 hp2
          have t2 := Same.upd (o := .lst (((ls.take acc.length).map legTxt).map V.str)) hp2
          have q2 : (upd G2 p2 (.lst (((ls.take acc.length).map legTxt).map V.str))) p2 = some (.lst (((ls.take acc.length).map legTxt).map V.str)) := upd_same
          generalize upd G2 p2 (.lst (((ls.take acc.length).map legTxt).map V.str)) = G3 at t2 q2
          rw [← hll, List.take_length] at q2
          have hjn := join_len hg
          have hcl : (Str.ofString ", ").length = 2 := by decide +kernel
          refine ⟨_, p2, ls.map legTxt, rfl, rfl, SqL.of q2, by rw [List.length_map, hcl]; omega, ?_⟩
          refine ⟨Txt.join comma (ls.map legTxt), rfl, ?_, ixT_of (t2 _ _ (t1 _ _ hsh)) (by rfl) ?_⟩
          · simp only [app_len, hbl, show (Str.ofString "deal ").length = 5 from by decide +kernel]
            omega
          refine ⟨p, acc, rfl, .inl ⟨SqL.of (t2 _ _ q1), fun u1 hu1 => ?_⟩⟩
          have t3 := t2.updT (o := .tup acc) hu1
          have q3 : (upd G3 u1 (.tup acc)) u1 = some (.tup acc) := upd_same
          generalize upd G3 u1 (.tup acc) = G4 at t3 q3
          intro u2 hu2
          have t4 := Same.upd (o := .tup [V.str a, V.ref u1]) hu2
          have q4 : (upd G4 u2 (.tup [V.str a, V.ref u1])) u2 = some (.tup [V.str a, V.ref u1]) := upd_same
          generalize upd G4 u2 (.tup [V.str a, V.ref u1]) = G5 at t4 q4
          intro u3 hu3
          have t5 := Same.upd (o := .tup [V.ref u2]) hu3
          have q5 : (upd G5 u3 (.tup [V.ref u2])) u3 = some (.tup [V.ref u2]) := upd_same
          generalize upd G5 u3 (.tup [V.ref u2]) = G6 at t5 q5
          intro u4 hu4
          have t6 := Same.upd (o := .tup [V.int (h0 % 7), V.ref u3, V.str (Str.ofString "deal " ++ a ++ Str.ofString " " ++ Txt.join comma (List.map legTxt ls))]) hu4
          have s26 := ((t3.trans t4).trans t5).trans t6
          refine k (.deal a ls) u4 (.ref u3) _ ⟨ha, by omega, by omega, hg⟩ ((s2.trans t1).trans s26) (by rw [upd_same, h2]; rfl) ?_
          exact ⟨u3, _, rfl, t6 _ _ q5, _, _, rfl, ⟨u2, _, rfl, t6 _ _ (t5 _ _ q4), _, _, rfl, rfl, _, _, rfl, ⟨u1, acc, rfl, t6 _ _ (t5 _ _ (t4 _ _ q3)), legs_reps (hL1.same s26)⟩, rfl⟩, rfl⟩
    rintro σ' H7 ⟨rfl, rfl, hk4⟩
    refine seq_cut (fun σ' H8 => σ' = [some (.int h0), some (.int o0), some (.int t0), some (.int (h0 % 7)), some (.ref sh), some (.str (frontS a b)), some (.int m), none, none, none, none, none] ∧ H8 = H7 ∧ ¬ h0 % 7 = 4) ?_ ?_
    · intro N hN
      walk_at "rx"
      refine ite2 (fun h2 => ?_) (fun h2 => hN _ _ ⟨rfl, rfl, h2⟩)
      refine ixT_of hsh (by rfl) fun p1 hp1 => ?_
      have t1 := Same.upd (o := .tup [V.str a]) hp1
      have q1 : (upd H7 p1 (.tup [V.str a])) p1 = some (.tup [V.str a]) := upd_same
      generalize upd H7 p1 (.tup [V.str a]) = G1 at t1 q1
      refine ixT_of (t1 _ _ hsh) (by rfl) ⟨_, rfl, by rw [show (Str.ofString "off ").length = 4 from by decide +kernel]; omega, fun p2 hp2 => ?_⟩
      rw [h2]
      exact k (.off a) p2 (.ref p1) _ ha ((s2.trans t1).trans (Same.upd hp2)) upd_same ⟨p1, _, rfl, Same.upd hp2 _ _ q1, _, _, rfl, rfl, rfl⟩
    rintro σ' H8 ⟨rfl, rfl, hk5⟩
    refine seq_cut (fun σ' H9 => σ' = [some (.int h0), some (.int o0), some (.int t0), some (.int (h0 % 7)), some (.ref sh), some (.str (frontS a b)), some (.int m), none, none, none, none, none] ∧ H9 = H8 ∧ ¬ h0 % 7 = 5) ?_ ?_
    · intro N hN
      walk_at "rx"
      refine ite2 (fun h2 => ?_) (fun h2 => hN _ _ ⟨rfl, rfl, h2⟩)
      refine ⟨_, rfl, fun nm G0 t0' hm p hp => ?_⟩
      have lm := hm.2.1
      have u0 := Int.emod_nonneg (h0 / 7) (show (12 : Int) ≠ 0 by decide)
      have u1 := Int.emod_lt_of_pos (h0 / 7) (show (0 : Int) < 12 by decide)
      have v0 := Int.emod_nonneg (h0 / 28) (show (1000000000000000000000000000000000000000000000000000000000000 : Int) ≠ 0 by decide)
      have v1 := Int.emod_lt_of_pos (h0 / 28) (show (0 : Int) < 1000000000000000000000000000000000000000000000000000000000000 by decide)
      have t1 := t0'.updT (o := .lst [V.int (h0 / 7 % 12), V.int (h0 / 28 % 1000000000000000000000000000000000000000000000000000000000000)]) hp
      have q1 : (upd G0 p (.lst [V.int (h0 / 7 % 12), V.int (h0 / 28 % 1000000000000000000000000000000000000000000000000000000000000)])) p = some (.lst [V.int (h0 / 7 % 12), V.int (h0 / 28 % 1000000000000000000000000000000000000000000000000000000000000)]) := upd_same
      generalize upd G0 p (.lst [V.int (h0 / 7 % 12), V.int (h0 / 28 % 1000000000000000000000000000000000000000000000000000000000000)]) = G1 at t1 q1
      obtain ⟨j, hj, j0, j1⟩ : ∃ j : Int, atI [V.int (h0 / 7 % 12), V.int (h0 / 28 % 1000000000000000000000000000000000000000000000000000000000000)] (h0 / 7 % 4 / 3) = some (.int j) ∧ 0 ≤ j ∧ j < 10 ^ 60 := by
        have : h0 / 7 % 4 / 3 = 0 ∨ h0 / 7 % 4 / 3 = 1 := by omega
        rcases this with h | h
        · rw [h]; exact ⟨_, rfl, u0, Int.lt_trans u1 (by decide)⟩
        · rw [h]; exact ⟨_, rfl, v0, v1⟩
      obtain ⟨n1, n2, n3, n4⟩ := nmb j0 j1
      refine ixL_of q1 hj fun p1 hp1 => ?_
      have t2 := Same.upd (o := .tup [V.ref sh, V.str nm, V.int j]) hp1
      have q2 : (upd G1 p1 (.tup [V.ref sh, V.str nm, V.int j])) p1 = some (.tup [V.ref sh, V.str nm, V.int j]) := upd_same
      generalize upd G1 p1 (.tup [V.ref sh, V.str nm, V.int j]) = G2 at t2 q2
      refine ⟨by rw [show (Str.ofString "put ").length = 4 from by decide +kernel]; omega, _, rfl, by simp only [app_len, show (Str.ofString "put ").length = 4 from by decide +kernel]; omega, by simp only [app_len, hbl, show (Str.ofString "put ").length = 4 from by decide +kernel]; omega, _, rfl, n1, ?_⟩
      rw [n2]
      refine ⟨by simp only [app_len, hbl, show (Str.ofString "put ").length = 4 from by decide +kernel]; omega, fun p3 hp3 => ?_⟩
      rw [h2]
      refine k (.put a b nm (figs j.toNat)) p3 (.ref p1) _ ⟨ha, hb, hm, numG_of j0 j1⟩ (((s2.trans t1).trans t2).trans (Same.upd hp3)) upd_same ?_
      exact ⟨p1, _, rfl, Same.upd hp3 _ _ q2, _, _, rfl, rep_two (Same.upd hp3 _ _ (t2 _ _ (t1 _ _ hsh))), _, _, rfl, rfl, _, _, rfl, by rw [n4]; rfl, rfl⟩
    rintro σ' H9 ⟨rfl, rfl, hk6⟩
    walk_at "rx"
    intro p1 hp1
    have t1 := Same.upd (o := .tup []) hp1
    have q1 : (upd H9 p1 (.tup [])) p1 = some (.tup []) := upd_same
    generalize upd H9 p1 (.tup []) = G1 at t1 q1
    intro p2 hp2
    rw [show h0 % 7 = ((6 : Nat) : Int) by omega]
    exact k .bell p2 (.ref p1) _ trivial ((s2.trans t1).trans (Same.upd hp2)) upd_same ⟨p1, _, rfl, Same.upd hp2 _ _ q1, rfl⟩

def sp_Bell__row : Sp := fun vs H Q _ => ∃ r, vs = [.ref r] ∧ Q (.str (textD .bell)) H
theorem ok_Bell__row (T : Txt w K mg Ax) (D : DfnM K "row" "Bell.row" s_Bell__row ["self"] Ax.Bell__row)  : HasM P w K mg base 1 Ax.Bell__row ["self"] sp_Bell__row := by
  refine D.has sc_Bell__row (fun vs H Q E h => ?_) (fun cdv A outer s H vs Q E hr h => ?_)
  · obtain ⟨r, rfl, _⟩ := h
    rfl
  · obtain ⟨r, rfl, k⟩ := h
    have hu := hu_of hr
    have hu64 := hr.units
    refine ⟨_, (pss_l1 (ps_ret pe_str)), ?_⟩
    walk_at "rx"
    exact k
def sp_spaced (K : PySem.W.Frag) : Sp := fun vs H Q _ => ∃ a xs ys, vs = [.ref a] ∧ (H a = some (.lst xs) ∨ H a = some (.tup xs)) ∧ Paired WordV xs ys ∧ xs.length ≤ 20 ∧ (∀ y ∈ ys, y.length ≤ 2000) ∧ ∀ H', Same H H' → Q (.str (Txt.join blank ys)) H'
theorem ok_spaced (T : Txt w K mg Ax) (D : Dfn K mg "spaced" s_spaced ["words"])  : Has P w K mg base 1 "spaced" ["words"] (sp_spaced K) := by
  refine D.has sc_spaced (fun vs H Q E h => ?_) (fun f cdv A outer s H vs Q E hr h => ?_)
  · obtain ⟨a, xs, ys, rfl, _⟩ := h
    rfl
  · obtain ⟨a, xs, ys, rfl, ha, hw, hl, hy, k⟩ := h
    have hu := hu_of hr
    have hu64 := hr.units
    refine ⟨_, (pss_l1 (ps_ret (pe_mk (K := K) rfl PySem.F.plainAttrs_str PySem.F.slot_str_join PySem.F.type_str_join (mt_joink (K := K) rfl) pe_str (pa_l1 (pe_comp (show CompSc ["words"] ["word"] (defScope s_spaced) _ [none] from by exact ⟨rfl, by decide +kernel, by decide +kernel, by decide +kernel, by decide +kernel⟩) (pi_seqk (K := K) rfl (pv 0)) (fun _ _ _ => (pg_name (i := 0) (show List.Nodup [("word" : Str)] from by decide +kernel) rfl (Or.inl rfl))) (fun _ _ _ => pf_nil) (fun _ _ _ => (pe_cT call_strA (by rfl) T.b_str (by rfl) (pa_l1 (pv 0))))))))), ?_⟩
    walk_at "rx"
    have hsb := sizeLine_big
    have hbl : (Str.ofString " ").length = 1 := by decide +kernel
    have hlen : xs.length = ys.length := Paired.length hw
    refine ⟨ty_str, ?_⟩
    rcases ha with ha | ha
    · refine .inl ⟨⟨_, SqL.of ha⟩, comp_w (y_list K a xs) (fun i σ acc G => (∃ o, σ = [o]) ∧ G = H ∧ acc = (ys.take i).map V.str) ?_ ?_ ?_ ?_⟩
      · exact ⟨⟨none, rfl⟩, rfl, rfl⟩
      · rintro i σ acc G hi ⟨_, rfl, rfl⟩
        refine ⟨SqL.of ha, fun _ => ?_⟩
        rw [List.length_map, List.length_take]
        omega
      · rintro i σ acc G v G' hi ⟨⟨o, rfl⟩, rfl, rfl⟩ ⟨rfl, hv⟩
        obtain ⟨y, hyi, hwv⟩ := Paired.get hw hv
        walk_at "rx"
        rcases hwv with rfl | ⟨n, rfl, hz, rfl⟩
        · exact .inl ⟨_, rfl, rfl, by rw [List.take_add_one, hyi, List.map_append]; rfl⟩
        · exact .inr ⟨_, rfl, hz, rfl, by rw [List.take_add_one, hyi, List.map_append]; rfl⟩
      · rintro σ acc G ⟨_, rfl, rfl⟩ p hp
        have hsum := sum_le hy
        rw [hlen, List.take_length]
        exact ⟨_, p, ys, rfl, rfl, SqL.of upd_same, by rw [hbl]; omega, k _ (Same.upd hp)⟩
    · refine .inr ⟨⟨_, SqT.of ha⟩, comp_w (y_tup K a xs) (fun i σ acc G => (∃ o, σ = [o]) ∧ G = H ∧ acc = (ys.take i).map V.str) ?_ ?_ ?_ ?_⟩
      · exact ⟨⟨none, rfl⟩, rfl, rfl⟩
      · rintro i σ acc G hi ⟨_, rfl, rfl⟩
        refine ⟨SqT.of ha, fun _ => ?_⟩
        rw [List.length_map, List.length_take]
        omega
      · rintro i σ acc G v G' hi ⟨⟨o, rfl⟩, rfl, rfl⟩ ⟨rfl, hv⟩
        obtain ⟨y, hyi, hwv⟩ := Paired.get hw hv
        walk_at "rx"
        rcases hwv with rfl | ⟨n, rfl, hz, rfl⟩
        · exact .inl ⟨_, rfl, rfl, by rw [List.take_add_one, hyi, List.map_append]; rfl⟩
        · exact .inr ⟨_, rfl, hz, rfl, by rw [List.take_add_one, hyi, List.map_append]; rfl⟩
      · rintro σ acc G ⟨_, rfl, rfl⟩ p hp
        have hsum := sum_le hy
        rw [hlen, List.take_length]
        exact ⟨_, p, ys, rfl, rfl, SqL.of upd_same, by rw [hbl]; omega, k _ (Same.upd hp)⟩
def sp_Lay__row (K : PySem.W.Frag) (Ax : Ad) : Sp := fun vs H Q _ => ∃ r a b n, vs = [.ref r] ∧ DeedAt Ax H r (.lay a b n) ∧ GoodDD (.lay a b n) ∧ ∀ H', Same H H' → Q (.str (textD (.lay a b n))) H'
theorem ok_Lay__row (T : Txt w K mg Ax) (D : DfnM K "row" "Lay.row" s_Lay__row ["self"] Ax.Lay__row) (H_spaced : Has P w K mg base 1 "spaced" ["words"] (sp_spaced K)) : HasM P w K mg base 2 Ax.Lay__row ["self"] (sp_Lay__row K Ax) := by
  refine D.has sc_Lay__row (fun vs H Q E h => ?_) (fun cdv A outer s H vs Q E hr h => ?_)
  · obtain ⟨r, a, b, n, rfl, _⟩ := h
    rfl
  · obtain ⟨r, a, b, n, rfl, hd, hg, k⟩ := h
    have hu := hu_of hr
    have hu64 := hr.units
    refine ⟨_, (pss_l1 (ps_ret (pe_callH H_spaced (hr.mono (by decide)) rfl (pa_l1 (pe_op op_cat (pe_op op_cat (pe_lst (pa_l1 pe_str)) (pe_cT (call_list_ofk (K := K) rfl) (by rfl) T.b_list (by rfl) (pa_l1 (pe_fld (pv 0) rfl)))) (pe_lst (pa_l1 (pe_fld (pv 0) rfl)))))))), ?_⟩
    obtain ⟨t, ⟨dx, hi⟩, ht⟩ := hd
    walk_at "rx"
    have hsb := sizeLine_big
    obtain ⟨ha, hb, hn⟩ := id hg
    have la := ha.2.1
    have lb := hb.2.1
    have ln := hn.len
    intro p1 hp1
    have t1 := Same.upd (o := .lst [V.str (Str.ofString "lay")]) hp1
    have q1 : (upd H p1 (.lst [V.str (Str.ofString "lay")])) p1 = some (.lst [V.str (Str.ofString "lay")]) := upd_same
    generalize upd H p1 (.lst [V.str (Str.ofString "lay")]) = G1 at t1 q1
    refine ⟨_, _, _, t1 _ _ hi, T.cl_Lay, T.na_Lay_shelf, _, by unfold shF; rw [lookup_putF, if_neg (by decide +kernel), lookup_putF, if_pos rfl], ?_⟩
    refine ⟨t, _, rfl, .inr (SqT.of (t1 _ _ ht)), fun p2 hp2 => ?_⟩
    have t2 := t1.updT (o := .lst [V.str a, V.str b]) hp2
    have q12 := Same.upd (o := .lst [V.str a, V.str b]) hp2 _ _ q1
    have q2 : (upd G1 p2 (.lst [V.str a, V.str b])) p2 = some (.lst [V.str a, V.str b]) := upd_same
    generalize upd G1 p2 (.lst [V.str a, V.str b]) = G2 at t2 q12 q2
    refine cat_of q12 q2 (by show 3 ≤ sizeLine; omega) fun p3 hp3 => ?_
    have t3 := t2.updT (o := .lst ([V.str (Str.ofString "lay")] ++ [V.str a, V.str b])) hp3
    have q3 : (upd G2 p3 (.lst ([V.str (Str.ofString "lay")] ++ [V.str a, V.str b]))) p3 = some (.lst ([V.str (Str.ofString "lay")] ++ [V.str a, V.str b])) := upd_same
    generalize upd G2 p3 (.lst ([V.str (Str.ofString "lay")] ++ [V.str a, V.str b])) = G3 at t3 q3
    refine ⟨_, _, _, t3 _ _ hi, T.cl_Lay, T.na_Lay_amount, _, by unfold shF; rw [lookup_putF, if_pos rfl], fun p4 hp4 => ?_⟩
    have t4 := t3.updT (o := .lst [V.int (numV n)]) hp4
    have q34 := Same.upd (o := .lst [V.int (numV n)]) hp4 _ _ q3
    have q4 : (upd G3 p4 (.lst [V.int (numV n)])) p4 = some (.lst [V.int (numV n)]) := upd_same
    generalize upd G3 p4 (.lst [V.int (numV n)]) = G4 at t4 q34 q4
    refine cat_of q34 q4 (by show 4 ≤ sizeLine; omega) fun p5 hp5 => ?_
    refine ⟨p5, _, [Str.ofString "lay", a, b, n], rfl, .inl upd_same, .cons (.inl rfl) (.cons (.inl rfl) (.cons (.inl rfl) (.cons (num_word hn) .nil))), by simp, fun y hy => ?_, fun H' s' => ?_⟩
    · simp only [List.mem_cons, List.not_mem_nil, or_false] at hy
      rcases hy with rfl | rfl | rfl | rfl
      · decide +kernel
      · omega
      · omega
      · omega
    · have := k H' ((t4.updT hp5).trans s')
      rwa [show textD (.lay a b n) = Txt.join blank [Str.ofString "lay", a, b, n] from (join4 (s := Str.ofString "lay ") (by decide +kernel)).symm] at this
def sp_Take__row (K : PySem.W.Frag) (Ax : Ad) : Sp := fun vs H Q _ => ∃ r a b n, vs = [.ref r] ∧ DeedAt Ax H r (.take a b n) ∧ GoodDD (.take a b n) ∧ ∀ H', Same H H' → Q (.str (textD (.take a b n))) H'
theorem ok_Take__row (T : Txt w K mg Ax) (D : DfnM K "row" "Take.row" s_Take__row ["self"] Ax.Take__row) (H_spaced : Has P w K mg base 1 "spaced" ["words"] (sp_spaced K)) : HasM P w K mg base 2 Ax.Take__row ["self"] (sp_Take__row K Ax) := by
  refine D.has sc_Take__row (fun vs H Q E h => ?_) (fun cdv A outer s H vs Q E hr h => ?_)
  · obtain ⟨r, a, b, n, rfl, _⟩ := h
    rfl
  · obtain ⟨r, a, b, n, rfl, hd, hg, k⟩ := h
    have hu := hu_of hr
    have hu64 := hr.units
    refine ⟨_, (pss_l1 (ps_ret (pe_callH H_spaced (hr.mono (by decide)) rfl (pa_l1 (pe_op op_cat (pe_op op_cat (pe_lst (pa_l1 pe_str)) (pe_cT (call_list_ofk (K := K) rfl) (by rfl) T.b_list (by rfl) (pa_l1 (pe_fld (pv 0) rfl)))) (pe_lst (pa_l1 (pe_fld (pv 0) rfl)))))))), ?_⟩
    obtain ⟨t, ⟨dx, hi⟩, ht⟩ := hd
    walk_at "rx"
    have hsb := sizeLine_big
    obtain ⟨ha, hb, hn⟩ := id hg
    have la := ha.2.1
    have lb := hb.2.1
    have ln := hn.len
    intro p1 hp1
    have t1 := Same.upd (o := .lst [V.str (Str.ofString "take")]) hp1
    have q1 : (upd H p1 (.lst [V.str (Str.ofString "take")])) p1 = some (.lst [V.str (Str.ofString "take")]) := upd_same
    generalize upd H p1 (.lst [V.str (Str.ofString "take")]) = G1 at t1 q1
    refine ⟨_, _, _, t1 _ _ hi, T.cl_Take, T.na_Take_shelf, _, by unfold shF; rw [lookup_putF, if_neg (by decide +kernel), lookup_putF, if_pos rfl], ?_⟩
    refine ⟨t, _, rfl, .inr (SqT.of (t1 _ _ ht)), fun p2 hp2 => ?_⟩
    have t2 := t1.updT (o := .lst [V.str a, V.str b]) hp2
    have q12 := Same.upd (o := .lst [V.str a, V.str b]) hp2 _ _ q1
    have q2 : (upd G1 p2 (.lst [V.str a, V.str b])) p2 = some (.lst [V.str a, V.str b]) := upd_same
    generalize upd G1 p2 (.lst [V.str a, V.str b]) = G2 at t2 q12 q2
    refine cat_of q12 q2 (by show 3 ≤ sizeLine; omega) fun p3 hp3 => ?_
    have t3 := t2.updT (o := .lst ([V.str (Str.ofString "take")] ++ [V.str a, V.str b])) hp3
    have q3 : (upd G2 p3 (.lst ([V.str (Str.ofString "take")] ++ [V.str a, V.str b]))) p3 = some (.lst ([V.str (Str.ofString "take")] ++ [V.str a, V.str b])) := upd_same
    generalize upd G2 p3 (.lst ([V.str (Str.ofString "take")] ++ [V.str a, V.str b])) = G3 at t3 q3
    refine ⟨_, _, _, t3 _ _ hi, T.cl_Take, T.na_Take_amount, _, by unfold shF; rw [lookup_putF, if_pos rfl], fun p4 hp4 => ?_⟩
    have t4 := t3.updT (o := .lst [V.int (numV n)]) hp4
    have q34 := Same.upd (o := .lst [V.int (numV n)]) hp4 _ _ q3
    have q4 : (upd G3 p4 (.lst [V.int (numV n)])) p4 = some (.lst [V.int (numV n)]) := upd_same
    generalize upd G3 p4 (.lst [V.int (numV n)]) = G4 at t4 q34 q4
    refine cat_of q34 q4 (by show 4 ≤ sizeLine; omega) fun p5 hp5 => ?_
    refine ⟨p5, _, [Str.ofString "take", a, b, n], rfl, .inl upd_same, .cons (.inl rfl) (.cons (.inl rfl) (.cons (.inl rfl) (.cons (num_word hn) .nil))), by simp, fun y hy => ?_, fun H' s' => ?_⟩
    · simp only [List.mem_cons, List.not_mem_nil, or_false] at hy
      rcases hy with rfl | rfl | rfl | rfl
      · decide +kernel
      · omega
      · omega
      · omega
    · have := k H' ((t4.updT hp5).trans s')
      rwa [show textD (.take a b n) = Txt.join blank [Str.ofString "take", a, b, n] from (join4 (s := Str.ofString "take ") (by decide +kernel)).symm] at this
def sp_Line__row (K : PySem.W.Frag) (Ax : Ad) : Sp := fun vs H Q _ => ∃ r a b n, vs = [.ref r] ∧ DeedAt Ax H r (.line a b n) ∧ GoodDD (.line a b n) ∧ ∀ H', Same H H' → Q (.str (textD (.line a b n))) H'
theorem ok_Line__row (T : Txt w K mg Ax) (D : DfnM K "row" "Line.row" s_Line__row ["self"] Ax.Line__row) (H_spaced : Has P w K mg base 1 "spaced" ["words"] (sp_spaced K)) : HasM P w K mg base 2 Ax.Line__row ["self"] (sp_Line__row K Ax) := by
  refine D.has sc_Line__row (fun vs H Q E h => ?_) (fun cdv A outer s H vs Q E hr h => ?_)
  · obtain ⟨r, a, b, n, rfl, _⟩ := h
    rfl
  · obtain ⟨r, a, b, n, rfl, hd, hg, k⟩ := h
    have hu := hu_of hr
    have hu64 := hr.units
    refine ⟨_, (pss_l1 (ps_ret (pe_callH H_spaced (hr.mono (by decide)) rfl (pa_l1 (pe_op op_cat (pe_op op_cat (pe_lst (pa_l1 pe_str)) (pe_cT (call_list_ofk (K := K) rfl) (by rfl) T.b_list (by rfl) (pa_l1 (pe_fld (pv 0) rfl)))) (pe_lst (pa_l1 (pe_fld (pv 0) rfl)))))))), ?_⟩
    obtain ⟨t, ⟨dx, hi⟩, ht⟩ := hd
    walk_at "rx"
    have hsb := sizeLine_big
    obtain ⟨ha, hb, hn⟩ := id hg
    have la := ha.2.1
    have lb := hb.2.1
    have ln := hn.len
    intro p1 hp1
    have t1 := Same.upd (o := .lst [V.str (Str.ofString "line")]) hp1
    have q1 : (upd H p1 (.lst [V.str (Str.ofString "line")])) p1 = some (.lst [V.str (Str.ofString "line")]) := upd_same
    generalize upd H p1 (.lst [V.str (Str.ofString "line")]) = G1 at t1 q1
    refine ⟨_, _, _, t1 _ _ hi, T.cl_Line, T.na_Line_shelf, _, by unfold shF; rw [lookup_putF, if_neg (by decide +kernel), lookup_putF, if_pos rfl], ?_⟩
    refine ⟨t, _, rfl, .inr (SqT.of (t1 _ _ ht)), fun p2 hp2 => ?_⟩
    have t2 := t1.updT (o := .lst [V.str a, V.str b]) hp2
    have q12 := Same.upd (o := .lst [V.str a, V.str b]) hp2 _ _ q1
    have q2 : (upd G1 p2 (.lst [V.str a, V.str b])) p2 = some (.lst [V.str a, V.str b]) := upd_same
    generalize upd G1 p2 (.lst [V.str a, V.str b]) = G2 at t2 q12 q2
    refine cat_of q12 q2 (by show 3 ≤ sizeLine; omega) fun p3 hp3 => ?_
    have t3 := t2.updT (o := .lst ([V.str (Str.ofString "line")] ++ [V.str a, V.str b])) hp3
    have q3 : (upd G2 p3 (.lst ([V.str (Str.ofString "line")] ++ [V.str a, V.str b]))) p3 = some (.lst ([V.str (Str.ofString "line")] ++ [V.str a, V.str b])) := upd_same
    generalize upd G2 p3 (.lst ([V.str (Str.ofString "line")] ++ [V.str a, V.str b])) = G3 at t3 q3
    refine ⟨_, _, _, t3 _ _ hi, T.cl_Line, T.na_Line_line, _, by unfold shF; rw [lookup_putF, if_pos rfl], fun p4 hp4 => ?_⟩
    have t4 := t3.updT (o := .lst [V.int (numV n)]) hp4
    have q34 := Same.upd (o := .lst [V.int (numV n)]) hp4 _ _ q3
    have q4 : (upd G3 p4 (.lst [V.int (numV n)])) p4 = some (.lst [V.int (numV n)]) := upd_same
    generalize upd G3 p4 (.lst [V.int (numV n)]) = G4 at t4 q34 q4
    refine cat_of q34 q4 (by show 4 ≤ sizeLine; omega) fun p5 hp5 => ?_
    refine ⟨p5, _, [Str.ofString "line", a, b, n], rfl, .inl upd_same, .cons (.inl rfl) (.cons (.inl rfl) (.cons (.inl rfl) (.cons (num_word hn) .nil))), by simp, fun y hy => ?_, fun H' s' => ?_⟩
    · simp only [List.mem_cons, List.not_mem_nil, or_false] at hy
      rcases hy with rfl | rfl | rfl | rfl
      · decide +kernel
      · omega
      · omega
      · omega
    · have := k H' ((t4.updT hp5).trans s')
      rwa [show textD (.line a b n) = Txt.join blank [Str.ofString "line", a, b, n] from (join4 (s := Str.ofString "line ") (by decide +kernel)).symm] at this
def sp_Put__row (K : PySem.W.Frag) (Ax : Ad) : Sp := fun vs H Q _ => ∃ r a b nm n, vs = [.ref r] ∧ DeedAt Ax H r (.put a b nm n) ∧ GoodDD (.put a b nm n) ∧ ∀ H', Same H H' → Q (.str (textD (.put a b nm n))) H'
theorem ok_Put__row (T : Txt w K mg Ax) (D : DfnM K "row" "Put.row" s_Put__row ["self"] Ax.Put__row) (H_spaced : Has P w K mg base 1 "spaced" ["words"] (sp_spaced K)) : HasM P w K mg base 2 Ax.Put__row ["self"] (sp_Put__row K Ax) := by
  refine D.has sc_Put__row (fun vs H Q E h => ?_) (fun cdv A outer s H vs Q E hr h => ?_)
  · obtain ⟨r, a, b, nm, n, rfl, _⟩ := h
    rfl
  · obtain ⟨r, a, b, nm, n, rfl, hd, hg, k⟩ := h
    have hu := hu_of hr
    have hu64 := hr.units
    refine ⟨_, (pss_l1 (ps_ret (pe_callH H_spaced (hr.mono (by decide)) rfl (pa_l1 (pe_op op_cat (pe_op op_cat (pe_lst (pa_l1 pe_str)) (pe_cT (call_list_ofk (K := K) rfl) (by rfl) T.b_list (by rfl) (pa_l1 (pe_fld (pv 0) rfl)))) (pe_lst (pa_l2 (pe_fld (pv 0) rfl) (pe_fld (pv 0) rfl)))))))), ?_⟩
    obtain ⟨t, ⟨dx, hi⟩, ht⟩ := hd
    walk_at "rx"
    have hsb := sizeLine_big
    obtain ⟨ha, hb, hm, hn⟩ := id hg
    have la := ha.2.1
    have lb := hb.2.1
    have lm := hm.2.1
    have ln := hn.len
    intro p1 hp1
    have t1 := Same.upd (o := .lst [V.str (Str.ofString "put")]) hp1
    have q1 : (upd H p1 (.lst [V.str (Str.ofString "put")])) p1 = some (.lst [V.str (Str.ofString "put")]) := upd_same
    generalize upd H p1 (.lst [V.str (Str.ofString "put")]) = G1 at t1 q1
    refine ⟨_, _, _, t1 _ _ hi, T.cl_Put, T.na_Put_shelf, _, by rw [lookup_putF, if_neg (by decide +kernel), lookup_putF, if_neg (by decide +kernel), lookup_putF, if_pos rfl], ?_⟩
    refine ⟨t, _, rfl, .inr (SqT.of (t1 _ _ ht)), fun p2 hp2 => ?_⟩
    have t2 := t1.updT (o := .lst [V.str a, V.str b]) hp2
    have q12 := Same.upd (o := .lst [V.str a, V.str b]) hp2 _ _ q1
    have q2 : (upd G1 p2 (.lst [V.str a, V.str b])) p2 = some (.lst [V.str a, V.str b]) := upd_same
    generalize upd G1 p2 (.lst [V.str a, V.str b]) = G2 at t2 q12 q2
    refine cat_of q12 q2 (by show 3 ≤ sizeLine; omega) fun p3 hp3 => ?_
    have t3 := t2.updT (o := .lst ([V.str (Str.ofString "put")] ++ [V.str a, V.str b])) hp3
    have q3 : (upd G2 p3 (.lst ([V.str (Str.ofString "put")] ++ [V.str a, V.str b]))) p3 = some (.lst ([V.str (Str.ofString "put")] ++ [V.str a, V.str b])) := upd_same
    generalize upd G2 p3 (.lst ([V.str (Str.ofString "put")] ++ [V.str a, V.str b])) = G3 at t3 q3
    refine ⟨_, _, _, t3 _ _ hi, T.cl_Put, T.na_Put_name, _, by rw [lookup_putF, if_neg (by decide +kernel), lookup_putF, if_pos rfl], ?_⟩
    refine ⟨_, _, _, t3 _ _ hi, T.cl_Put, T.na_Put_place, _, by rw [lookup_putF, if_pos rfl], fun p4 hp4 => ?_⟩
    have t4 := t3.updT (o := .lst [V.str nm, V.int (numV n)]) hp4
    have q34 := Same.upd (o := .lst [V.str nm, V.int (numV n)]) hp4 _ _ q3
    have q4 : (upd G3 p4 (.lst [V.str nm, V.int (numV n)])) p4 = some (.lst [V.str nm, V.int (numV n)]) := upd_same
    generalize upd G3 p4 (.lst [V.str nm, V.int (numV n)]) = G4 at t4 q34 q4
    refine cat_of q34 q4 (by show 5 ≤ sizeLine; omega) fun p5 hp5 => ?_
    refine ⟨p5, _, [Str.ofString "put", a, b, nm, n], rfl, .inl upd_same, .cons (.inl rfl) (.cons (.inl rfl) (.cons (.inl rfl) (.cons (.inl rfl) (.cons (num_word hn) .nil)))), by simp, fun y hy => ?_, fun H' s' => ?_⟩
    · simp only [List.mem_cons, List.not_mem_nil, or_false] at hy
      rcases hy with rfl | rfl | rfl | rfl | rfl
      · decide +kernel
      · omega
      · omega
      · omega
      · omega
    · have := k H' ((t4.updT hp5).trans s')
      rwa [show textD (.put a b nm n) = Txt.join blank [Str.ofString "put", a, b, nm, n] from (join5 (s := Str.ofString "put ") (by decide +kernel)).symm] at this
def sp_Off__row (K : PySem.W.Frag) (Ax : Ad) : Sp := fun vs H Q _ => ∃ r nm, vs = [.ref r] ∧ DeedAt Ax H r (.off nm) ∧ GoodDD (.off nm) ∧ ∀ H', Same H H' → Q (.str (textD (.off nm))) H'
theorem ok_Off__row (T : Txt w K mg Ax) (D : DfnM K "row" "Off.row" s_Off__row ["self"] Ax.Off__row) (H_spaced : Has P w K mg base 1 "spaced" ["words"] (sp_spaced K)) : HasM P w K mg base 2 Ax.Off__row ["self"] (sp_Off__row K Ax) := by
  refine D.has sc_Off__row (fun vs H Q E h => ?_) (fun cdv A outer s H vs Q E hr h => ?_)
  · obtain ⟨r, nm, rfl, _⟩ := h
    rfl
  · obtain ⟨r, nm, rfl, hd, hg, k⟩ := h
    have hu := hu_of hr
    have hu64 := hr.units
    refine ⟨_, (pss_l1 (ps_ret (pe_callH H_spaced (hr.mono (by decide)) rfl (pa_l1 (pe_lst (pa_l2 pe_str (pe_fld (pv 0) rfl))))))), ?_⟩
    obtain ⟨dx, hi⟩ := hd
    walk_at "rx"
    have l8 : nm.length ≤ 8 := hg.2.1
    refine ⟨_, _, _, hi, T.cl_Off, T.na_Off_name, _, by rw [lookup_putF, if_pos rfl], fun p1 hp1 => ?_⟩
    refine ⟨p1, _, [Str.ofString "off", nm], rfl, .inl upd_same, .cons (.inl rfl) (.cons (.inl rfl) .nil), by simp, fun y hy => ?_, fun H' s' => ?_⟩
    · simp only [List.mem_cons, List.not_mem_nil, or_false] at hy
      rcases hy with rfl | rfl
      · decide +kernel
      · omega
    · have := k H' ((Same.upd hp1).trans s')
      rwa [show textD (.off nm) = Txt.join blank [Str.ofString "off", nm] from (join2 (s := Str.ofString "off ") (by decide +kernel)).symm] at this
def sp_Offer__row (K : PySem.W.Frag) (Ax : Ad) : Sp := fun vs H Q _ => ∃ r nm ls, vs = [.ref r] ∧ DeedAt Ax H r (.deal nm ls) ∧ GoodDD (.deal nm ls) ∧ ∀ H', Same H H' → Q (.str (textD (.deal nm ls))) H'
theorem ok_Offer__row (T : Txt w K mg Ax) (D : DfnM K "row" "Offer.row" s_Offer__row ["self"] Ax.Offer__row) (H_spaced : Has P w K mg base 1 "spaced" ["words"] (sp_spaced K)) : HasM P w K mg base 2 Ax.Offer__row ["self"] (sp_Offer__row K Ax) := by
  refine D.has sc_Offer__row (fun vs H Q E h => ?_) (fun cdv A outer s H vs Q E hr h => ?_)
  · obtain ⟨r, nm, ls, rfl, _⟩ := h
    rfl
  · obtain ⟨r, nm, ls, rfl, hd, hg, k⟩ := h
    have hu := hu_of hr
    have hu64 := hr.units
    refine ⟨_, (pss_l2 (ps_asg (pe_fld (pv 0) rfl) (pg_tupk (K := K) (n := 2) rfl rfl (pgs_cons (pg_name (i := 1) sc_Offer__row.nd rfl (Or.inl rfl)) (pgs_cons (pg_name (i := 2) sc_Offer__row.nd rfl (Or.inl rfl)) pgs_nil))))
      (ps_ret (pe_callH H_spaced (hr.mono (by decide)) rfl (pa_l1 (pe_lst (pa_l3 pe_str (pv 1) (pe_mk (K := K) rfl PySem.F.plainAttrs_str PySem.F.slot_str_join PySem.F.type_str_join (mt_joink (K := K) rfl) pe_str (pa_l1 (pe_comp (show CompSc ["self", "name", "legs"] ["leg"] (defScope s_Offer__row) _ [none] from by exact ⟨rfl, by decide +kernel, by decide +kernel, by decide +kernel, by decide +kernel⟩) (pi_tupk (K := K) rfl (pv 2)) (fun _ _ _ => (pg_name (i := 0) (show List.Nodup [("leg" : Str)] from by decide +kernel) rfl (Or.inl rfl))) (fun _ _ _ => pf_nil) (fun _ _ _ => (pe_callH H_spaced (hr.mono (by decide)) rfl (pa_l1 (pv 0))))))))))))), ?_⟩
    obtain ⟨t, t2, us, ⟨dx, hi⟩, ht, ht2, hL⟩ := hd
    walk_at "rx"
    have hsb := sizeLine_big
    obtain ⟨hm, h1, h8, hgl⟩ := id hg
    have lm := hm.2.1
    have hll := hL.len
    refine ⟨_, _, _, hi, T.cl_Offer, T.na_Offer_deal, _, by rw [lookup_putF, if_pos rfl], t, rfl, _, SqT.of ht, rfl, ?_⟩
    walk_at "rx"
    refine ⟨ty_str, ⟨_, SqT.of ht2⟩, comp_w (y_tup K t2 us) (fun i σ acc G => (∃ o, σ = [o]) ∧ Same H G ∧ acc = ((ls.take i).map legTxt).map V.str) ?_ ?_ ?_ ?_⟩
    · exact ⟨⟨none, rfl⟩, Same.refl _, rfl⟩
    · rintro i σ acc G hi' ⟨_, sG, rfl⟩
      refine ⟨SqT.of (sG _ _ ht2), fun _ => ?_⟩
      rw [List.length_map, List.length_map, List.length_take]
      omega
    · rintro i σ acc G y G' hi' ⟨⟨o, rfl⟩, sG, rfl⟩ ⟨rfl, hy⟩
      obtain ⟨l, hli⟩ : ∃ l, ls[i]? = some l := ⟨_, List.getElem?_eq_getElem (by omega)⟩
      obtain ⟨v, hv, tl, rfl, htl⟩ := Paired.get hL hli
      rw [hv] at hy
      cases hy
      have hgi := hgl l (List.mem_of_getElem? hli)
      obtain ⟨g1, g2, g3, _, g5, g6⟩ := id hgi
      have b1 := g1.2.1
      have b2 := g2.2.1
      have b3 := g3.2.1
      have b4 : (figs l.2.2.2.toNat).length ≤ 60 := figs_len (by decide) (by omega)
      walk_at "rx"
      refine ⟨tl, _, [l.1, l.2.1, l.2.2.1, figs l.2.2.2.toNat], rfl, .inr (sG _ _ htl), .cons (.inl rfl) (.cons (.inl rfl) (.cons (.inl rfl) (.cons (.inr ⟨_, rfl, figs_log (by omega) (by omega), (figs_of (by omega)).symm⟩) .nil))), by simp, fun y hy => ?_, fun H' s' => ⟨sG.trans s', ?_⟩⟩
      · simp only [List.mem_cons, List.not_mem_nil, or_false] at hy
        rcases hy with rfl | rfl | rfl | rfl <;> omega
      · rw [leg_join, List.take_add_one, hli, List.map_append, List.map_append]
        rfl
    · rintro σ acc G ⟨_, sG, rfl⟩ p hp
      rw [← hll, List.take_length]
      have t1 := sG.updT (o := .lst ((ls.map legTxt).map V.str)) hp
      have q1 : (upd G p (.lst ((ls.map legTxt).map V.str))) p = some (.lst ((ls.map legTxt).map V.str)) := upd_same
      generalize upd G p (.lst ((ls.map legTxt).map V.str)) = G1 at t1 q1
      have hjn := join_len hgl
      have hcl : (Str.ofString ", ").length = 2 := by decide +kernel
      refine ⟨_, p, ls.map legTxt, rfl, rfl, SqL.of q1, by rw [List.length_map, hcl]; omega, fun p2 hp2 => ?_⟩
      refine ⟨p2, _, [Str.ofString "deal", nm, Txt.join comma (ls.map legTxt)], rfl, .inl upd_same, .cons (.inl rfl) (.cons (.inl rfl) (.cons (.inl rfl) .nil)), by simp, fun y hy => ?_, fun H' s' => ?_⟩
      · simp only [List.mem_cons, List.not_mem_nil, or_false] at hy
        rcases hy with rfl | rfl | rfl
        · decide +kernel
        · omega
        · omega
      · have := k H' ((t1.updT hp2).trans s')
        rwa [show textD (.deal nm ls) = Txt.join blank [Str.ofString "deal", nm, Txt.join comma (ls.map legTxt)] from (join3 (s := Str.ofString "deal ") (by decide +kernel)).symm] at this

theorem ok_law {f : Addr} {fd : FuncData} (F : Fun K "law" "law" s_law f fd) (T : Txt w K mg Ax) (H__law_spoiled : Has P w K mg base 2 "_law_spoiled" ["text", "cell"] (sp__law_spoiled K)) (H__law_told : Has P w K mg base 8 "_law_told" ["row"] (sp__law_told K Ax)) (H__law_good : Has P w K mg base 4 "_law_good" ["row"] (sp__law_good K)) (H__law_cell_at : Has P w K mg base 1 "_law_cell_at" ["script", "k"] (sp__law_cell_at K)) (H__law_made : Has P w K mg base 3 "_law_made" ["head", "one", "two"] (sp__law_made K)) (H_Bell__row : HasM P w K mg base 1 Ax.Bell__row ["self"] sp_Bell__row) (H_Lay__row : HasM P w K mg base 2 Ax.Lay__row ["self"] (sp_Lay__row K Ax)) (H_Take__row : HasM P w K mg base 2 Ax.Take__row ["self"] (sp_Take__row K Ax)) (H_Line__row : HasM P w K mg base 2 Ax.Line__row ["self"] (sp_Line__row K Ax)) (H_Put__row : HasM P w K mg base 2 Ax.Put__row ["self"] (sp_Put__row K Ax)) (H_Off__row : HasM P w K mg base 2 Ax.Off__row ["self"] (sp_Off__row K Ax)) (H_Offer__row : HasM P w K mg base 2 Ax.Offer__row ["self"] (sp_Offer__row K Ax)) : FnOk P w K mg base CX0 9 f fd ["script"] (spLaw K) := by
  refine F.ok sc_law (fun vs H Q E h => ?_) (fun cdv A outer s H vs Q E hr h => ?_)
  · obtain ⟨a, ns, rfl, _⟩ := h
    rfl
  · obtain ⟨a, ns, rfl, hS, hlen, k⟩ := h
    have hu := hu_of hr
    have hu64 := hr.units
    refine ⟨_, (pss_l2 (ps_for PassesOwn.never rfl (pi_range3 rfl T.b_range (pa_l3 pe_int (pe_cB (call_min2 rfl) (by rfl) T.b_min (by rfl) (pa_l2 (pe_cB (call_len_seqk (K := K) rfl) (by rfl) T.b_len (by rfl) (pa_l1 (pv 0))) pe_int)) pe_int)) (pg_name (i := 1) sc_law.nd rfl (Or.inr rfl))
      (pss_l4 (ps_setcomp (i := 2) sc_law.nd rfl rfl (show CompSc ["script", "k", "cells", "row", "found", "kinds"] ["j", "script", "k"] (defScope s_law) _ [none, some 0, some 1] from by exact ⟨rfl, by decide +kernel, by decide +kernel, by decide +kernel, by decide +kernel⟩) (pi_range1 rfl T.b_range (pa_l1 pe_int)) (fun _ _ _ => (pg_name (i := 0) (show List.Nodup [("j" : Str), ("script" : Str), ("k" : Str)] from by decide +kernel) rfl (Or.inl rfl))) (fun _ _ _ => pf_nil) (fun _ _ _ => (pe_op op_mod (pe_callH H__law_cell_at (hr.mono (by decide)) rfl (pa_l2 (pv 1) (pe_op op_add (pv 2) (pv 0)))) (pe_op op_pow pe_int pe_int))))
      (ps_set (i := 3) sc_law.nd rfl (Or.inl rfl) (pe_callH H__law_spoiled (hr.mono (by decide)) rfl (pa_l2 (pe_ix (ix_tupk (K := K) rfl) (pe_callH H__law_made (hr.mono (by decide)) rfl (pa_l3 (pe_ix (ix_listk (K := K) rfl) (pv 2) pe_int (fun _ _ => rfl)) (pe_ix (ix_listk (K := K) rfl) (pv 2) pe_int (fun _ _ => rfl)) (pe_ix (ix_listk (K := K) rfl) (pv 2) pe_int (fun _ _ => rfl)))) pe_int (fun _ _ => rfl)) (pe_ix (ix_listk (K := K) rfl) (pv 2) pe_int (fun _ _ => rfl)))))
      (ps_asg (pe_callH H__law_told (hr.mono (by decide)) rfl (pa_l1 (pv 3))) (pg_tupk (K := K) (n := 2) rfl rfl (pgs_cons (pg_name (i := 4) sc_law.nd rfl (Or.inl rfl)) (pgs_cons (pg_name (i := 5) sc_law.nd rfl (Or.inl rfl)) pgs_nil))))
      (ps_if (pt_not (pt_val (pe_callH H__law_good (hr.mono (by decide)) rfl (pa_l1 (pv 3)))))
      (pss_l1 (ps_if (pt_cmpR (op_neD hu64) (pv 5) (pe_lst (pa_l4 pe_bl pe_bl pe_bl pe_bl)) (nomark _))
      (pss_l1 (ps_ret pe_bl))
      pss_nil))
      (pss_l1 (ps_if (PW.pt (pw_or (pt_cmpR op_notN (pv 5) pe_non (nomark _)) (pw_or1 (pt_cmpR op_ne (pe_methV rfl rfl rfl rfl rfl (pv 4) hr) (pv 3) (nomark _)))))
      (pss_l1 (ps_ret pe_bl))
      pss_nil)))))
      (ps_ret pe_bl)), ?_⟩
    have dr : ∀ {H : Hp} {r : Addr} {d : DD}, DeedAt Ax H r d → GoodDD d → ∀ {Q : VK}, (∀ H', Same H H' → Q (.str (textD d)) H') → ∃ C dx fs, H r = some (.ins C dx fs) ∧ Cls K C ∧ ∃ g, Meth K C (Str.ofString "row") g ∧ List.lookup (Str.ofString "row") fs = none ∧ CallsM P w K mg base 8 g [.ref r] H Q := fun {H r d} hd hg {Q} kk => by
      cases d with
      | lay a b n =>
        obtain ⟨t, ⟨dx, hi⟩, ht⟩ := id hd
        exact ⟨_, _, _, hi, T.cl_Lay, _, T.me_Lay_row, by unfold shF; rw [lookup_putF, if_neg (by decide +kernel), lookup_putF, if_neg (by decide +kernel)]; rfl, H_Lay__row.calls (by decide) ⟨r, a, b, n, rfl, hd, hg, kk⟩⟩
      | take a b n =>
        obtain ⟨t, ⟨dx, hi⟩, ht⟩ := id hd
        exact ⟨_, _, _, hi, T.cl_Take, _, T.me_Take_row, by unfold shF; rw [lookup_putF, if_neg (by decide +kernel), lookup_putF, if_neg (by decide +kernel)]; rfl, H_Take__row.calls (by decide) ⟨r, a, b, n, rfl, hd, hg, kk⟩⟩
      | line a b n =>
        obtain ⟨t, ⟨dx, hi⟩, ht⟩ := id hd
        exact ⟨_, _, _, hi, T.cl_Line, _, T.me_Line_row, by unfold shF; rw [lookup_putF, if_neg (by decide +kernel), lookup_putF, if_neg (by decide +kernel)]; rfl, H_Line__row.calls (by decide) ⟨r, a, b, n, rfl, hd, hg, kk⟩⟩
      | deal nm ls =>
        obtain ⟨t, t2, us, ⟨dx, hi⟩, ht, ht2, hL⟩ := id hd
        exact ⟨_, _, _, hi, T.cl_Offer, _, T.me_Offer_row, by rw [lookup_putF, if_neg (by decide +kernel)]; rfl, H_Offer__row.calls (by decide) ⟨r, nm, ls, rfl, hd, hg, kk⟩⟩
      | off nm =>
        obtain ⟨dx, hi⟩ := id hd
        exact ⟨_, _, _, hi, T.cl_Off, _, T.me_Off_row, by rw [lookup_putF, if_neg (by decide +kernel)]; rfl, H_Off__row.calls (by decide) ⟨r, nm, rfl, hd, hg, kk⟩⟩
      | put a b nm n =>
        obtain ⟨t, ⟨dx, hi⟩, ht⟩ := id hd
        exact ⟨_, _, _, hi, T.cl_Put, _, T.me_Put_row, by rw [lookup_putF, if_neg (by decide +kernel), lookup_putF, if_neg (by decide +kernel), lookup_putF, if_neg (by decide +kernel)]; rfl, H_Put__row.calls (by decide) ⟨r, a, b, nm, n, rfl, hd, hg, kk⟩⟩
      | bell =>
        obtain ⟨dx, hi⟩ := id hd
        exact ⟨_, _, _, hi, T.cl_Bell, _, T.me_Bell_row, rfl, H_Bell__row.calls (by decide) ⟨r, rfl, kk H (Same.refl H)⟩⟩
    walk_at "rx"
    refine ⟨a, _, rfl, .inl hS, ?_⟩
    refine ⟨_, _, ⟨rfl, rfl⟩, 0, _, 4, ⟨rfl, rfl, rfl⟩, by rw [List.length_map]; split <;> omega, ?_⟩
    generalize (if (0 : Int) < (if (63 : Int) < ((ns.map V.int).length : Int) then 63 else ((ns.map V.int).length : Int)) then ((if (63 : Int) < ((ns.map V.int).length : Int) then 63 else ((ns.map V.int).length : Int)) - 0 - 1) / 4 + 1 else 0).toNat = cn
    have hsb := sizeLine_big
    refine for_w (y_step 0 4 cn) (fun i σ H2 => (∃ o1 o2 o3 o4 o5, σ = [some (.ref a), o1, o2, o3, o4, o5]) ∧ Same H H2) ?_ ?_ ?_ ?_
    · exact ⟨⟨none, none, none, none, none, rfl⟩, Same.refl _⟩
    · intros; trivial
    · rintro i σ H2 x0 H' hi ⟨⟨o1, o2, o3, o4, o5, rfl⟩, s2⟩ ⟨rfl, rfl⟩
      refine seq_cut (fun σ' H3 => ∃ p c0 c1 c2 c3, σ' = [some (.ref a), some (.int (0 + (i : Int) * 4)), some (.ref p), o3, o4, o5] ∧ Same H' H3 ∧ H3 p = some (.lst [.int c0, .int c1, .int c2, .int c3])) ?_ ?_
      · intro N hN
        walk_at "rx"
        refine comp_w (y_range 0 _) (fun j σ acc H3 => (∃ o, σ = [o, some (.ref a), some (.int (0 + (i : Int) * 4))]) ∧ H3 = H' ∧ ∃ ms : List Int, acc = ms.map V.int ∧ ms.length = j) ?_ ?_ ?_ ?_
        · exact ⟨⟨none, rfl⟩, rfl, [], rfl, rfl⟩
        · rintro j σ acc H3 hj ⟨_, rfl, ms, rfl, hm⟩
          refine ⟨trivial, fun _ => ?_⟩
          rw [List.length_map]
          omega
        · rintro j σ acc H3 x H4 hj ⟨⟨o, rfl⟩, rfl, ms, rfl, hm⟩ ⟨rfl, rfl⟩
          walk_at "rx"
          refine ⟨a, ns, _, rfl, hS.same s2, by omega, fun c => ?_⟩
          exact ⟨c, rfl, rfl, ms ++ [c % 100000000000000000000000000000000000000000000000000000000000000], by rw [List.map_append]; rfl, by rw [List.length_append, hm]; rfl⟩
        · rintro σ acc H3 ⟨_, rfl, ms, rfl, hm⟩ q hq
          match ms, hm with
          | [c0, c1, c2, c3], _ => exact hN _ _ ⟨q, c0, c1, c2, c3, rfl, Same.upd hq, upd_same⟩
      rintro σ' H3 ⟨p, c0, c1, c2, c3, rfl, s3, hp⟩
      refine seq_cut (fun σ' H4 => ∃ dt v, σ' = [some (.ref a), some (.int (0 + (i : Int) * 4)), some (.ref p), some v, o4, o5] ∧ Same H3 H4 ∧ Rep H4 dt v ∧ ∀ x, dt = .str x → x.length ≤ 3000) ?_ ?_
      · intro N hN
        walk_at "rx"
        refine ixL_of hp (by rfl) (ixL_of hp (by rfl) (ixL_of hp (by rfl) ?_))
        refine ⟨c0, c1, c2, rfl, fun d tp v H4 hg s4 htp rp => ?_⟩
        have htl := text_len hg
        refine ixT_of htp (by rfl) (ixL_of (s4 _ _ hp) (by rfl) ⟨textD d, c3, rfl, by omega, fun dt v' H5 s5 rp5 hl5 => hN _ _ ⟨dt, v', rfl, s4.trans s5, rp5, hl5⟩⟩)
      rintro σ' H4 ⟨dt, v, rfl, s4, hR, hlen⟩
      have s04 := (s2.trans s3).trans s4
      refine seq_cut (fun σ' H5 => Same H4 H5 ∧ ((∃ x d r, dt = .str x ∧ parse x = some d ∧ σ' = [some (.ref a), some (.int (0 + (i : Int) * 4)), some (.ref p), some v, some (.ref r), some .non] ∧ DeedAt Ax H5 r d) ∨
          ((∀ x d, dt = .str x → parse x ≠ some d) ∧ ∃ q, σ' = [some (.ref a), some (.int (0 + (i : Int) * 4)), some (.ref p), some v, some .non, some (.ref q)] ∧ H5 q = some (.lst [.bl true, .bl true, .bl false, .bl false])))) ?_ ?_
      · intro N hN
        walk_at "rx"
        refine ⟨dt, v, rfl, hR, hlen, fun x d e hd t r H5 s5 ht hD => ?_, fun hno t q H5 s5 ht hq => ?_⟩
        · refine ⟨t, rfl, _, SqT.of ht, rfl, ?_⟩
          walk_at "rx"
          exact hN _ _ ⟨s5, .inl ⟨x, d, r, e, hd, rfl, hD⟩⟩
        · refine ⟨t, rfl, _, SqT.of ht, rfl, ?_⟩
          walk_at "rx"
          exact hN _ _ ⟨s5, .inr ⟨hno, q, rfl, hq⟩⟩
      rintro σ' H5 ⟨s5, hcase⟩
      rcases hcase with ⟨x, d, r, rfl, hd, rfl, hD⟩ | ⟨hno, q, rfl, hq⟩
      · cases (show v = .str x from hR)
        obtain ⟨hg, htx⟩ := parse_sound hd
        walk_at "rx"
        refine ⟨.str x, _, rfl, rfl, hlen, fun y e H6 s6 => ?_, fun h => absurd rfl (h x)⟩
        cases e
        rw [hd]
        refine ⟨true, rfl, ite2 (fun h => absurd h (by decide)) (fun _ => ?_)⟩
        refine ite2 (fun h => absurd trivial h) (fun _ => ?_)
        exact dr (hD.same s6) hg fun H7 s7 => ⟨rfl, ite2 (fun h => absurd (by rw [htx]) h) (fun _ => s04.trans ((s5.trans s6).trans s7))⟩
      · walk_at "rx"
        have go : ∀ H6, Same H5 H6 → ∀ (p' : Addr), H6 p' = none → rEqD true (V.ref q) (V.ref p') (upd H6 p' (HO.lst [V.bl true, V.bl true, V.bl false, V.bl false])) fun x H' => ∃ k, x = V.bl k ∧ if k = true then Q (V.bl false) H' else Same H H' := fun H6 s6 p' hp' =>
          neD_same (d := .list [.bool true, .bool true, .bool false, .bool false]) ⟨q, _, rfl, Same.upd hp' _ _ (s6 _ _ hq), _, _, rfl, rfl, _, _, rfl, rfl, _, _, rfl, rfl, _, _, rfl, rfl, rfl⟩ ⟨p', _, rfl, upd_same, _, _, rfl, rfl, _, _, rfl, rfl, _, _, rfl, rfl, _, _, rfl, rfl, rfl⟩ (by rfl) ⟨_, rfl, ite2 (fun h => absurd h (by decide)) (fun _ => ((s04.trans s5).trans s6).updT hp')⟩
        refine ⟨dt, v, rfl, hR.mono s5, hlen, fun x e H6 s6 => ?_, fun _ H6 s6 => ?_⟩
        · have hp0 : parse x = none := by
            cases h : parse x with
            | none => rfl
            | some d => exact absurd h (hno x d e)
          rw [hp0]
          exact ⟨false, rfl, ite2 (fun _ => go _ s6) (fun h => absurd rfl h)⟩
        · exact ⟨false, rfl, ite2 (fun _ => go _ s6) (fun h => absurd rfl h)⟩
    · rintro σ H2 ⟨⟨o1, o2, o3, o4, o5, rfl⟩, s2⟩
      walk_at "rx"
      exact k _

end
theorem all_mk {l : PySem.W.OpenLaw} {w : World} {K : PySem.W.Frag} {h : Heap} {mg : Str → Option Value} {fa : Addr} (X : K.In h) (G : h.Ns mainGlobals mg) (hfa : mg "law" = some (.ref fa))
    {C_HallError : Addr}
    {C_NoName : Addr}
    {C_NoAmount : Addr}
    {C_NoLeg : Addr}
    {C_NotWaiting : Addr}
    {C_Twice : Addr}
    {C_TooLittle : Addr}
    {C_NotNow : Addr}
    {C_NotForetold : Addr}
    {C_NoRow : Addr}
    {C_NoBack : Addr}
    {C_Lay : Addr}
    {C_Take : Addr}
    {C_Line : Addr}
    {C_Offer : Addr}
    {C_Off : Addr}
    {C_Put : Addr}
    {C_Bell : Addr}
    {C_READERS : Addr}
    {C_lay_in : Addr}
    {C_take_in : Addr}
    {C_line_in : Addr}
    {C_offer_in : Addr}
    {C_off_in : Addr}
    {C_put_in : Addr}
    {C_bell_in : Addr}
    {f1 : Addr} {od1 an1 : Option Addr} {sl1 : Array (Option Value)} {oc1 kV1 dc1 pm1 cd1 ct1 : Value}
    {f2 : Addr} {od2 an2 : Option Addr} {sl2 : Array (Option Value)} {oc2 kV2 dc2 pm2 cd2 ct2 : Value}
    {f3 : Addr} {od3 an3 : Option Addr} {sl3 : Array (Option Value)} {oc3 kV3 dc3 pm3 cd3 ct3 : Value}
    {f4 : Addr} {od4 an4 : Option Addr} {sl4 : Array (Option Value)} {oc4 kV4 dc4 pm4 cd4 ct4 : Value}
    {f5 : Addr} {od5 an5 : Option Addr} {sl5 : Array (Option Value)} {oc5 kV5 dc5 pm5 cd5 ct5 : Value}
    {f6 : Addr} {od6 an6 : Option Addr} {sl6 : Array (Option Value)} {oc6 kV6 dc6 pm6 cd6 ct6 : Value}
    {f7 : Addr} {od7 an7 : Option Addr} {sl7 : Array (Option Value)} {oc7 kV7 dc7 pm7 cd7 ct7 : Value}
    {f8 : Addr} {od8 an8 : Option Addr} {sl8 : Array (Option Value)} {oc8 kV8 dc8 pm8 cd8 ct8 : Value}
    {f9 : Addr} {od9 an9 : Option Addr} {sl9 : Array (Option Value)} {oc9 kV9 dc9 pm9 cd9 ct9 : Value}
    {f10 : Addr} {od10 an10 : Option Addr} {sl10 : Array (Option Value)} {oc10 kV10 dc10 pm10 cd10 ct10 : Value}
    {f11 : Addr} {od11 an11 : Option Addr} {sl11 : Array (Option Value)} {oc11 kV11 dc11 pm11 cd11 ct11 : Value}
    {f12 : Addr} {od12 an12 : Option Addr} {sl12 : Array (Option Value)} {oc12 kV12 dc12 pm12 cd12 ct12 : Value}
    {f13 : Addr} {od13 an13 : Option Addr} {sl13 : Array (Option Value)} {oc13 kV13 dc13 pm13 cd13 ct13 : Value}
    {f14 : Addr} {od14 an14 : Option Addr} {sl14 : Array (Option Value)} {oc14 kV14 dc14 pm14 cd14 ct14 : Value}
    {f15 : Addr} {od15 an15 : Option Addr} {sl15 : Array (Option Value)} {oc15 kV15 dc15 pm15 cd15 ct15 : Value}
    {f16 : Addr} {od16 an16 : Option Addr} {sl16 : Array (Option Value)} {oc16 kV16 dc16 pm16 cd16 ct16 : Value}
    {f17 : Addr} {od17 an17 : Option Addr} {sl17 : Array (Option Value)} {oc17 kV17 dc17 pm17 cd17 ct17 : Value}
    {f18 : Addr} {od18 an18 : Option Addr} {sl18 : Array (Option Value)} {oc18 kV18 dc18 pm18 cd18 ct18 : Value}
    {f19 : Addr} {od19 an19 : Option Addr} {sl19 : Array (Option Value)} {oc19 kV19 dc19 pm19 cd19 ct19 : Value}
    {f20 : Addr} {od20 an20 : Option Addr} {sl20 : Array (Option Value)} {oc20 kV20 dc20 pm20 cd20 ct20 : Value}
    {f21 : Addr} {od21 an21 : Option Addr} {sl21 : Array (Option Value)} {oc21 kV21 dc21 pm21 cd21 ct21 : Value}
    {f22 : Addr} {od22 an22 : Option Addr} {sl22 : Array (Option Value)} {oc22 kV22 dc22 pm22 cd22 ct22 : Value}
    {f23 : Addr} {od23 an23 : Option Addr} {sl23 : Array (Option Value)} {oc23 kV23 dc23 pm23 cd23 ct23 : Value}
    {f24 : Addr} {od24 an24 : Option Addr} {sl24 : Array (Option Value)} {oc24 kV24 dc24 pm24 cd24 ct24 : Value}
    {f25 : Addr} {od25 an25 : Option Addr} {sl25 : Array (Option Value)} {oc25 kV25 dc25 pm25 cd25 ct25 : Value}
    {f26 : Addr} {od26 an26 : Option Addr} {sl26 : Array (Option Value)} {oc26 kV26 dc26 pm26 cd26 ct26 : Value}
    {f27 : Addr} {od27 an27 : Option Addr} {sl27 : Array (Option Value)} {oc27 kV27 dc27 pm27 cd27 ct27 : Value}
    {f28 : Addr} {od28 an28 : Option Addr} {sl28 : Array (Option Value)} {oc28 kV28 dc28 pm28 cd28 ct28 : Value}
    {f29 : Addr} {od29 an29 : Option Addr} {sl29 : Array (Option Value)} {oc29 kV29 dc29 pm29 cd29 ct29 : Value}
    {f30 : Addr} {od30 an30 : Option Addr} {sl30 : Array (Option Value)} {oc30 kV30 dc30 pm30 cd30 ct30 : Value}
    {f31 : Addr} {od31 an31 : Option Addr} {sl31 : Array (Option Value)} {oc31 kV31 dc31 pm31 cd31 ct31 : Value}
    {f32 : Addr} {od32 an32 : Option Addr} {sl32 : Array (Option Value)} {oc32 kV32 dc32 pm32 cd32 ct32 : Value}
    {f33 : Addr} {od33 an33 : Option Addr} {sl33 : Array (Option Value)} {oc33 kV33 dc33 pm33 cd33 ct33 : Value}
    {f34 : Addr} {od34 an34 : Option Addr} {sl34 : Array (Option Value)} {oc34 kV34 dc34 pm34 cd34 ct34 : Value}
    {f35 : Addr} {od35 an35 : Option Addr} {sl35 : Array (Option Value)} {oc35 kV35 dc35 pm35 cd35 ct35 : Value}
    {f36 : Addr} {od36 an36 : Option Addr} {sl36 : Array (Option Value)} {oc36 kV36 dc36 pm36 cd36 ct36 : Value}
    {f37 : Addr} {od37 an37 : Option Addr} {sl37 : Array (Option Value)} {oc37 kV37 dc37 pm37 cd37 ct37 : Value}
    {f38 : Addr} {od38 an38 : Option Addr} {sl38 : Array (Option Value)} {oc38 kV38 dc38 pm38 cd38 ct38 : Value}
    {f39 : Addr} {od39 an39 : Option Addr} {sl39 : Array (Option Value)} {oc39 kV39 dc39 pm39 cd39 ct39 : Value}
    {f40 : Addr} {od40 an40 : Option Addr} {sl40 : Array (Option Value)} {oc40 kV40 dc40 pm40 cd40 ct40 : Value}
    {f41 : Addr} {od41 an41 : Option Addr} {sl41 : Array (Option Value)} {oc41 kV41 dc41 pm41 cd41 ct41 : Value}
    {f42 : Addr} {od42 an42 : Option Addr} {sl42 : Array (Option Value)} {oc42 kV42 dc42 pm42 cd42 ct42 : Value}
    {f43 : Addr} {od43 an43 : Option Addr} {sl43 : Array (Option Value)} {oc43 kV43 dc43 pm43 cd43 ct43 : Value}
    {f44 : Addr} {od44 an44 : Option Addr} {sl44 : Array (Option Value)} {oc44 kV44 dc44 pm44 cd44 ct44 : Value}
    {f45 : Addr} {od45 an45 : Option Addr} {sl45 : Array (Option Value)} {oc45 kV45 dc45 pm45 cd45 ct45 : Value}
    {f46 : Addr} {od46 an46 : Option Addr} {sl46 : Array (Option Value)} {oc46 kV46 dc46 pm46 cd46 ct46 : Value}
    {f47 : Addr} {od47 an47 : Option Addr} {sl47 : Array (Option Value)} {oc47 kV47 dc47 pm47 cd47 ct47 : Value}
    {f48 : Addr} {od48 an48 : Option Addr} {sl48 : Array (Option Value)} {oc48 kV48 dc48 pm48 cd48 ct48 : Value}
    {f49 : Addr} {od49 an49 : Option Addr} {sl49 : Array (Option Value)} {oc49 kV49 dc49 pm49 cd49 ct49 : Value}
    {f50 : Addr} {od50 an50 : Option Addr} {sl50 : Array (Option Value)} {oc50 kV50 dc50 pm50 cd50 ct50 : Value}
    {f51 : Addr} {od51 an51 : Option Addr} {sl51 : Array (Option Value)} {oc51 kV51 dc51 pm51 cd51 ct51 : Value}
    {f52 : Addr} {od52 an52 : Option Addr} {sl52 : Array (Option Value)} {oc52 kV52 dc52 pm52 cd52 ct52 : Value}
    {t_FIGURES : Tok}
    {t_LETTERS : Tok}
    {t_LONGEST_NAME : Tok}
    {t_MOST_FIGURES : Tok}
    {t_MOST_LEGS : Tok}
    (x_HallError : PySem.W.nsIn K mainGlobals "HallError" = some (some (.ref C_HallError)))
    (x_NoName : PySem.W.nsIn K mainGlobals "NoName" = some (some (.ref C_NoName)))
    (x_NoAmount : PySem.W.nsIn K mainGlobals "NoAmount" = some (some (.ref C_NoAmount)))
    (x_NoLeg : PySem.W.nsIn K mainGlobals "NoLeg" = some (some (.ref C_NoLeg)))
    (x_NotWaiting : PySem.W.nsIn K mainGlobals "NotWaiting" = some (some (.ref C_NotWaiting)))
    (x_Twice : PySem.W.nsIn K mainGlobals "Twice" = some (some (.ref C_Twice)))
    (x_TooLittle : PySem.W.nsIn K mainGlobals "TooLittle" = some (some (.ref C_TooLittle)))
    (x_NotNow : PySem.W.nsIn K mainGlobals "NotNow" = some (some (.ref C_NotNow)))
    (x_NotForetold : PySem.W.nsIn K mainGlobals "NotForetold" = some (some (.ref C_NotForetold)))
    (x_NoRow : PySem.W.nsIn K mainGlobals "NoRow" = some (some (.ref C_NoRow)))
    (x_NoBack : PySem.W.nsIn K mainGlobals "NoBack" = some (some (.ref C_NoBack)))
    (x_Lay : PySem.W.nsIn K mainGlobals "Lay" = some (some (.ref C_Lay)))
    (x_Take : PySem.W.nsIn K mainGlobals "Take" = some (some (.ref C_Take)))
    (x_Line : PySem.W.nsIn K mainGlobals "Line" = some (some (.ref C_Line)))
    (x_Offer : PySem.W.nsIn K mainGlobals "Offer" = some (some (.ref C_Offer)))
    (x_Off : PySem.W.nsIn K mainGlobals "Off" = some (some (.ref C_Off)))
    (x_Put : PySem.W.nsIn K mainGlobals "Put" = some (some (.ref C_Put)))
    (x_Bell : PySem.W.nsIn K mainGlobals "Bell" = some (some (.ref C_Bell)))
    (x_READERS : PySem.W.nsIn K mainGlobals "READERS" = some (some (.ref C_READERS)))
    (x_lay_in : PySem.W.nsIn K mainGlobals "lay_in" = some (some (.ref C_lay_in)))
    (x_take_in : PySem.W.nsIn K mainGlobals "take_in" = some (some (.ref C_take_in)))
    (x_line_in : PySem.W.nsIn K mainGlobals "line_in" = some (some (.ref C_line_in)))
    (x_offer_in : PySem.W.nsIn K mainGlobals "offer_in" = some (some (.ref C_offer_in)))
    (x_off_in : PySem.W.nsIn K mainGlobals "off_in" = some (some (.ref C_off_in)))
    (x_put_in : PySem.W.nsIn K mainGlobals "put_in" = some (some (.ref C_put_in)))
    (x_bell_in : PySem.W.nsIn K mainGlobals "bell_in" = some (some (.ref C_bell_in)))
    (a1 : PySem.W.nsIn K mainGlobals "_law_signs" = some (some (.ref f1))) (l1 : K.lookup f1 = some ⟨oc1, od1, .func (PySem.W.fnOf "_law_signs" "_law_signs" (defArgs s__law_signs) (defBody s__law_signs) (defScope s__law_signs) .none kV1 dc1 pm1 an1 cd1 ct1), sl1⟩) (c1 : PySem.W.codeIn K cd1 "_law_signs" = true) (k1 : PySem.W.keepIn K (.ref f1) = true)
    (a2 : PySem.W.nsIn K mainGlobals "_law_words" = some (some (.ref f2))) (l2 : K.lookup f2 = some ⟨oc2, od2, .func (PySem.W.fnOf "_law_words" "_law_words" (defArgs s__law_words) (defBody s__law_words) (defScope s__law_words) .none kV2 dc2 pm2 an2 cd2 ct2), sl2⟩) (c2 : PySem.W.codeIn K cd2 "_law_words" = true) (k2 : PySem.W.keepIn K (.ref f2) = true)
    (a3 : PySem.W.nsIn K mainGlobals "_law_spoiled" = some (some (.ref f3))) (l3 : K.lookup f3 = some ⟨oc3, od3, .func (PySem.W.fnOf "_law_spoiled" "_law_spoiled" (defArgs s__law_spoiled) (defBody s__law_spoiled) (defScope s__law_spoiled) .none kV3 dc3 pm3 an3 cd3 ct3), sl3⟩) (c3 : PySem.W.codeIn K cd3 "_law_spoiled" = true) (k3 : PySem.W.keepIn K (.ref f3) = true)
    (a4 : PySem.W.nsIn K mainGlobals "check_row" = some (some (.ref f4))) (l4 : K.lookup f4 = some ⟨oc4, od4, .func (PySem.W.fnOf "check_row" "check_row" (defArgs s_check_row) (defBody s_check_row) (defScope s_check_row) .none kV4 dc4 pm4 an4 cd4 ct4), sl4⟩) (c4 : PySem.W.codeIn K cd4 "check_row" = true) (k4 : PySem.W.keepIn K (.ref f4) = true)
    (a5 : PySem.W.nsIn K mainGlobals "words_of" = some (some (.ref f5))) (l5 : K.lookup f5 = some ⟨oc5, od5, .func (PySem.W.fnOf "words_of" "words_of" (defArgs s_words_of) (defBody s_words_of) (defScope s_words_of) .none kV5 dc5 pm5 an5 cd5 ct5), sl5⟩) (c5 : PySem.W.codeIn K cd5 "words_of" = true) (k5 : PySem.W.keepIn K (.ref f5) = true)
    (a6 : PySem.W.findIn K (.ref C_Lay) "__init__" = some (some (.ref f6))) (l6 : K.lookup f6 = some ⟨oc6, od6, .func (PySem.W.fnOf "__init__" "Lay.__init__" (defArgs s_Lay__init) (defBody s_Lay__init) (defScope s_Lay__init) .none kV6 dc6 pm6 an6 cd6 ct6), sl6⟩) (c6 : PySem.W.codeIn K cd6 "Lay.__init__" = true) (k6 : PySem.W.keepIn K (.ref f6) = true)
    (a7 : PySem.W.nsIn K mainGlobals "is_name" = some (some (.ref f7))) (l7 : K.lookup f7 = some ⟨oc7, od7, .func (PySem.W.fnOf "is_name" "is_name" (defArgs s_is_name) (defBody s_is_name) (defScope s_is_name) .none kV7 dc7 pm7 an7 cd7 ct7), sl7⟩) (c7 : PySem.W.codeIn K cd7 "is_name" = true) (k7 : PySem.W.keepIn K (.ref f7) = true)
    (a8 : PySem.W.nsIn K mainGlobals "is_shelf" = some (some (.ref f8))) (l8 : K.lookup f8 = some ⟨oc8, od8, .func (PySem.W.fnOf "is_shelf" "is_shelf" (defArgs s_is_shelf) (defBody s_is_shelf) (defScope s_is_shelf) .none kV8 dc8 pm8 an8 cd8 ct8), sl8⟩) (c8 : PySem.W.codeIn K cd8 "is_shelf" = true) (k8 : PySem.W.keepIn K (.ref f8) = true)
    (a9 : PySem.W.nsIn K mainGlobals "shelf_in" = some (some (.ref f9))) (l9 : K.lookup f9 = some ⟨oc9, od9, .func (PySem.W.fnOf "shelf_in" "shelf_in" (defArgs s_shelf_in) (defBody s_shelf_in) (defScope s_shelf_in) .none kV9 dc9 pm9 an9 cd9 ct9), sl9⟩) (c9 : PySem.W.codeIn K cd9 "shelf_in" = true) (k9 : PySem.W.keepIn K (.ref f9) = true)
    (a10 : PySem.W.nsIn K mainGlobals "number_in" = some (some (.ref f10))) (l10 : K.lookup f10 = some ⟨oc10, od10, .func (PySem.W.fnOf "number_in" "number_in" (defArgs s_number_in) (defBody s_number_in) (defScope s_number_in) .none kV10 dc10 pm10 an10 cd10 ct10), sl10⟩) (c10 : PySem.W.codeIn K cd10 "number_in" = true) (k10 : PySem.W.keepIn K (.ref f10) = true)
    (a11 : PySem.W.nsIn K mainGlobals "is_whole" = some (some (.ref f11))) (l11 : K.lookup f11 = some ⟨oc11, od11, .func (PySem.W.fnOf "is_whole" "is_whole" (defArgs s_is_whole) (defBody s_is_whole) (defScope s_is_whole) .none kV11 dc11 pm11 an11 cd11 ct11), sl11⟩) (c11 : PySem.W.codeIn K cd11 "is_whole" = true) (k11 : PySem.W.keepIn K (.ref f11) = true)
    (a12 : PySem.W.nsIn K mainGlobals "is_amount" = some (some (.ref f12))) (l12 : K.lookup f12 = some ⟨oc12, od12, .func (PySem.W.fnOf "is_amount" "is_amount" (defArgs s_is_amount) (defBody s_is_amount) (defScope s_is_amount) .none kV12 dc12 pm12 an12 cd12 ct12), sl12⟩) (c12 : PySem.W.codeIn K cd12 "is_amount" = true) (k12 : PySem.W.keepIn K (.ref f12) = true)
    (a13 : PySem.W.nsIn K mainGlobals "amount_in" = some (some (.ref f13))) (l13 : K.lookup f13 = some ⟨oc13, od13, .func (PySem.W.fnOf "amount_in" "amount_in" (defArgs s_amount_in) (defBody s_amount_in) (defScope s_amount_in) .none kV13 dc13 pm13 an13 cd13 ct13), sl13⟩) (c13 : PySem.W.codeIn K cd13 "amount_in" = true) (k13 : PySem.W.keepIn K (.ref f13) = true)
    (a14 : PySem.W.nsIn K mainGlobals "lay_in" = some (some (.ref f14))) (l14 : K.lookup f14 = some ⟨oc14, od14, .func (PySem.W.fnOf "lay_in" "lay_in" (defArgs s_lay_in) (defBody s_lay_in) (defScope s_lay_in) .none kV14 dc14 pm14 an14 cd14 ct14), sl14⟩) (c14 : PySem.W.codeIn K cd14 "lay_in" = true) (k14 : PySem.W.keepIn K (.ref f14) = true)
    (a15 : PySem.W.findIn K (.ref C_Take) "__init__" = some (some (.ref f15))) (l15 : K.lookup f15 = some ⟨oc15, od15, .func (PySem.W.fnOf "__init__" "Take.__init__" (defArgs s_Take__init) (defBody s_Take__init) (defScope s_Take__init) .none kV15 dc15 pm15 an15 cd15 ct15), sl15⟩) (c15 : PySem.W.codeIn K cd15 "Take.__init__" = true) (k15 : PySem.W.keepIn K (.ref f15) = true)
    (a16 : PySem.W.nsIn K mainGlobals "take_in" = some (some (.ref f16))) (l16 : K.lookup f16 = some ⟨oc16, od16, .func (PySem.W.fnOf "take_in" "take_in" (defArgs s_take_in) (defBody s_take_in) (defScope s_take_in) .none kV16 dc16 pm16 an16 cd16 ct16), sl16⟩) (c16 : PySem.W.codeIn K cd16 "take_in" = true) (k16 : PySem.W.keepIn K (.ref f16) = true)
    (a17 : PySem.W.findIn K (.ref C_Line) "__init__" = some (some (.ref f17))) (l17 : K.lookup f17 = some ⟨oc17, od17, .func (PySem.W.fnOf "__init__" "Line.__init__" (defArgs s_Line__init) (defBody s_Line__init) (defScope s_Line__init) .none kV17 dc17 pm17 an17 cd17 ct17), sl17⟩) (c17 : PySem.W.codeIn K cd17 "Line.__init__" = true) (k17 : PySem.W.keepIn K (.ref f17) = true)
    (a18 : PySem.W.nsIn K mainGlobals "line_in" = some (some (.ref f18))) (l18 : K.lookup f18 = some ⟨oc18, od18, .func (PySem.W.fnOf "line_in" "line_in" (defArgs s_line_in) (defBody s_line_in) (defScope s_line_in) .none kV18 dc18 pm18 an18 cd18 ct18), sl18⟩) (c18 : PySem.W.codeIn K cd18 "line_in" = true) (k18 : PySem.W.keepIn K (.ref f18) = true)
    (a19 : PySem.W.findIn K (.ref C_Offer) "__init__" = some (some (.ref f19))) (l19 : K.lookup f19 = some ⟨oc19, od19, .func (PySem.W.fnOf "__init__" "Offer.__init__" (defArgs s_Offer__init) (defBody s_Offer__init) (defScope s_Offer__init) .none kV19 dc19 pm19 an19 cd19 ct19), sl19⟩) (c19 : PySem.W.codeIn K cd19 "Offer.__init__" = true) (k19 : PySem.W.keepIn K (.ref f19) = true)
    (a20 : PySem.W.nsIn K mainGlobals "leg_in" = some (some (.ref f20))) (l20 : K.lookup f20 = some ⟨oc20, od20, .func (PySem.W.fnOf "leg_in" "leg_in" (defArgs s_leg_in) (defBody s_leg_in) (defScope s_leg_in) .none kV20 dc20 pm20 an20 cd20 ct20), sl20⟩) (c20 : PySem.W.codeIn K cd20 "leg_in" = true) (k20 : PySem.W.keepIn K (.ref f20) = true)
    (a21 : PySem.W.nsIn K mainGlobals "is_leg" = some (some (.ref f21))) (l21 : K.lookup f21 = some ⟨oc21, od21, .func (PySem.W.fnOf "is_leg" "is_leg" (defArgs s_is_leg) (defBody s_is_leg) (defScope s_is_leg) .none kV21 dc21 pm21 an21 cd21 ct21), sl21⟩) (c21 : PySem.W.codeIn K cd21 "is_leg" = true) (k21 : PySem.W.keepIn K (.ref f21) = true)
    (a22 : PySem.W.nsIn K mainGlobals "are_legs" = some (some (.ref f22))) (l22 : K.lookup f22 = some ⟨oc22, od22, .func (PySem.W.fnOf "are_legs" "are_legs" (defArgs s_are_legs) (defBody s_are_legs) (defScope s_are_legs) .none kV22 dc22 pm22 an22 cd22 ct22), sl22⟩) (c22 : PySem.W.codeIn K cd22 "are_legs" = true) (k22 : PySem.W.keepIn K (.ref f22) = true)
    (a23 : PySem.W.nsIn K mainGlobals "deal_of" = some (some (.ref f23))) (l23 : K.lookup f23 = some ⟨oc23, od23, .func (PySem.W.fnOf "deal_of" "deal_of" (defArgs s_deal_of) (defBody s_deal_of) (defScope s_deal_of) .none kV23 dc23 pm23 an23 cd23 ct23), sl23⟩) (c23 : PySem.W.codeIn K cd23 "deal_of" = true) (k23 : PySem.W.keepIn K (.ref f23) = true)
    (a24 : PySem.W.nsIn K mainGlobals "name_in" = some (some (.ref f24))) (l24 : K.lookup f24 = some ⟨oc24, od24, .func (PySem.W.fnOf "name_in" "name_in" (defArgs s_name_in) (defBody s_name_in) (defScope s_name_in) .none kV24 dc24 pm24 an24 cd24 ct24), sl24⟩) (c24 : PySem.W.codeIn K cd24 "name_in" = true) (k24 : PySem.W.keepIn K (.ref f24) = true)
    (a25 : PySem.W.nsIn K mainGlobals "offer_in" = some (some (.ref f25))) (l25 : K.lookup f25 = some ⟨oc25, od25, .func (PySem.W.fnOf "offer_in" "offer_in" (defArgs s_offer_in) (defBody s_offer_in) (defScope s_offer_in) .none kV25 dc25 pm25 an25 cd25 ct25), sl25⟩) (c25 : PySem.W.codeIn K cd25 "offer_in" = true) (k25 : PySem.W.keepIn K (.ref f25) = true)
    (a26 : PySem.W.findIn K (.ref C_Off) "__init__" = some (some (.ref f26))) (l26 : K.lookup f26 = some ⟨oc26, od26, .func (PySem.W.fnOf "__init__" "Off.__init__" (defArgs s_Off__init) (defBody s_Off__init) (defScope s_Off__init) .none kV26 dc26 pm26 an26 cd26 ct26), sl26⟩) (c26 : PySem.W.codeIn K cd26 "Off.__init__" = true) (k26 : PySem.W.keepIn K (.ref f26) = true)
    (a27 : PySem.W.nsIn K mainGlobals "off_in" = some (some (.ref f27))) (l27 : K.lookup f27 = some ⟨oc27, od27, .func (PySem.W.fnOf "off_in" "off_in" (defArgs s_off_in) (defBody s_off_in) (defScope s_off_in) .none kV27 dc27 pm27 an27 cd27 ct27), sl27⟩) (c27 : PySem.W.codeIn K cd27 "off_in" = true) (k27 : PySem.W.keepIn K (.ref f27) = true)
    (a28 : PySem.W.findIn K (.ref C_Put) "__init__" = some (some (.ref f28))) (l28 : K.lookup f28 = some ⟨oc28, od28, .func (PySem.W.fnOf "__init__" "Put.__init__" (defArgs s_Put__init) (defBody s_Put__init) (defScope s_Put__init) .none kV28 dc28 pm28 an28 cd28 ct28), sl28⟩) (c28 : PySem.W.codeIn K cd28 "Put.__init__" = true) (k28 : PySem.W.keepIn K (.ref f28) = true)
    (a29 : PySem.W.nsIn K mainGlobals "put_in" = some (some (.ref f29))) (l29 : K.lookup f29 = some ⟨oc29, od29, .func (PySem.W.fnOf "put_in" "put_in" (defArgs s_put_in) (defBody s_put_in) (defScope s_put_in) .none kV29 dc29 pm29 an29 cd29 ct29), sl29⟩) (c29 : PySem.W.codeIn K cd29 "put_in" = true) (k29 : PySem.W.keepIn K (.ref f29) = true)
    (a30 : PySem.W.nsIn K mainGlobals "bell_in" = some (some (.ref f30))) (l30 : K.lookup f30 = some ⟨oc30, od30, .func (PySem.W.fnOf "bell_in" "bell_in" (defArgs s_bell_in) (defBody s_bell_in) (defScope s_bell_in) .none kV30 dc30 pm30 an30 cd30 ct30), sl30⟩) (c30 : PySem.W.codeIn K cd30 "bell_in" = true) (k30 : PySem.W.keepIn K (.ref f30) = true)
    (a31 : PySem.W.nsIn K mainGlobals "read" = some (some (.ref f31))) (l31 : K.lookup f31 = some ⟨oc31, od31, .func (PySem.W.fnOf "read" "read" (defArgs s_read) (defBody s_read) (defScope s_read) .none kV31 dc31 pm31 an31 cd31 ct31), sl31⟩) (c31 : PySem.W.codeIn K cd31 "read" = true) (k31 : PySem.W.keepIn K (.ref f31) = true)
    (a32 : PySem.W.nsIn K mainGlobals "_law_told" = some (some (.ref f32))) (l32 : K.lookup f32 = some ⟨oc32, od32, .func (PySem.W.fnOf "_law_told" "_law_told" (defArgs s__law_told) (defBody s__law_told) (defScope s__law_told) .none kV32 dc32 pm32 an32 cd32 ct32), sl32⟩) (c32 : PySem.W.codeIn K cd32 "_law_told" = true) (k32 : PySem.W.keepIn K (.ref f32) = true)
    (a33 : PySem.W.nsIn K mainGlobals "_law_word" = some (some (.ref f33))) (l33 : K.lookup f33 = some ⟨oc33, od33, .func (PySem.W.fnOf "_law_word" "_law_word" (defArgs s__law_word) (defBody s__law_word) (defScope s__law_word) .none kV33 dc33 pm33 an33 cd33 ct33), sl33⟩) (c33 : PySem.W.codeIn K cd33 "_law_word" = true) (k33 : PySem.W.keepIn K (.ref f33) = true)
    (a34 : PySem.W.nsIn K mainGlobals "_law_figures" = some (some (.ref f34))) (l34 : K.lookup f34 = some ⟨oc34, od34, .func (PySem.W.fnOf "_law_figures" "_law_figures" (defArgs s__law_figures) (defBody s__law_figures) (defScope s__law_figures) .none kV34 dc34 pm34 an34 cd34 ct34), sl34⟩) (c34 : PySem.W.codeIn K cd34 "_law_figures" = true) (k34 : PySem.W.keepIn K (.ref f34) = true)
    (a35 : PySem.W.nsIn K mainGlobals "_law_is_leg" = some (some (.ref f35))) (l35 : K.lookup f35 = some ⟨oc35, od35, .func (PySem.W.fnOf "_law_is_leg" "_law_is_leg" (defArgs s__law_is_leg) (defBody s__law_is_leg) (defScope s__law_is_leg) .none kV35 dc35 pm35 an35 cd35 ct35), sl35⟩) (c35 : PySem.W.codeIn K cd35 "_law_is_leg" = true) (k35 : PySem.W.keepIn K (.ref f35) = true)
    (a36 : PySem.W.nsIn K mainGlobals "_law_is_deal" = some (some (.ref f36))) (l36 : K.lookup f36 = some ⟨oc36, od36, .func (PySem.W.fnOf "_law_is_deal" "_law_is_deal" (defArgs s__law_is_deal) (defBody s__law_is_deal) (defScope s__law_is_deal) .none kV36 dc36 pm36 an36 cd36 ct36), sl36⟩) (c36 : PySem.W.codeIn K cd36 "_law_is_deal" = true) (k36 : PySem.W.keepIn K (.ref f36) = true)
    (a37 : PySem.W.nsIn K mainGlobals "_law_good" = some (some (.ref f37))) (l37 : K.lookup f37 = some ⟨oc37, od37, .func (PySem.W.fnOf "_law_good" "_law_good" (defArgs s__law_good) (defBody s__law_good) (defScope s__law_good) .none kV37 dc37 pm37 an37 cd37 ct37), sl37⟩) (c37 : PySem.W.codeIn K cd37 "_law_good" = true) (k37 : PySem.W.keepIn K (.ref f37) = true)
    (a38 : PySem.W.nsIn K mainGlobals "_law_cell_at" = some (some (.ref f38))) (l38 : K.lookup f38 = some ⟨oc38, od38, .func (PySem.W.fnOf "_law_cell_at" "_law_cell_at" (defArgs s__law_cell_at) (defBody s__law_cell_at) (defScope s__law_cell_at) .none kV38 dc38 pm38 an38 cd38 ct38), sl38⟩) (c38 : PySem.W.codeIn K cd38 "_law_cell_at" = true) (k38 : PySem.W.keepIn K (.ref f38) = true)
    (a39 : PySem.W.nsIn K mainGlobals "_law_amount" = some (some (.ref f39))) (l39 : K.lookup f39 = some ⟨oc39, od39, .func (PySem.W.fnOf "_law_amount" "_law_amount" (defArgs s__law_amount) (defBody s__law_amount) (defScope s__law_amount) .none kV39 dc39 pm39 an39 cd39 ct39), sl39⟩) (c39 : PySem.W.codeIn K cd39 "_law_amount" = true) (k39 : PySem.W.keepIn K (.ref f39) = true)
    (a40 : PySem.W.nsIn K mainGlobals "_law_name" = some (some (.ref f40))) (l40 : K.lookup f40 = some ⟨oc40, od40, .func (PySem.W.fnOf "_law_name" "_law_name" (defArgs s__law_name) (defBody s__law_name) (defScope s__law_name) .none kV40 dc40 pm40 an40 cd40 ct40), sl40⟩) (c40 : PySem.W.codeIn K cd40 "_law_name" = true) (k40 : PySem.W.keepIn K (.ref f40) = true)
    (a41 : PySem.W.nsIn K mainGlobals "_law_leg" = some (some (.ref f41))) (l41 : K.lookup f41 = some ⟨oc41, od41, .func (PySem.W.fnOf "_law_leg" "_law_leg" (defArgs s__law_leg) (defBody s__law_leg) (defScope s__law_leg) .none kV41 dc41 pm41 an41 cd41 ct41), sl41⟩) (c41 : PySem.W.codeIn K cd41 "_law_leg" = true) (k41 : PySem.W.keepIn K (.ref f41) = true)
    (a42 : PySem.W.nsIn K mainGlobals "_law_leg_text" = some (some (.ref f42))) (l42 : K.lookup f42 = some ⟨oc42, od42, .func (PySem.W.fnOf "_law_leg_text" "_law_leg_text" (defArgs s__law_leg_text) (defBody s__law_leg_text) (defScope s__law_leg_text) .none kV42 dc42 pm42 an42 cd42 ct42), sl42⟩) (c42 : PySem.W.codeIn K cd42 "_law_leg_text" = true) (k42 : PySem.W.keepIn K (.ref f42) = true)
    (a43 : PySem.W.nsIn K mainGlobals "_law_made" = some (some (.ref f43))) (l43 : K.lookup f43 = some ⟨oc43, od43, .func (PySem.W.fnOf "_law_made" "_law_made" (defArgs s__law_made) (defBody s__law_made) (defScope s__law_made) .none kV43 dc43 pm43 an43 cd43 ct43), sl43⟩) (c43 : PySem.W.codeIn K cd43 "_law_made" = true) (k43 : PySem.W.keepIn K (.ref f43) = true)
    (a44 : PySem.W.findIn K (.ref C_Bell) "row" = some (some (.ref f44))) (l44 : K.lookup f44 = some ⟨oc44, od44, .func (PySem.W.fnOf "row" "Bell.row" (defArgs s_Bell__row) (defBody s_Bell__row) (defScope s_Bell__row) .none kV44 dc44 pm44 an44 cd44 ct44), sl44⟩) (c44 : PySem.W.codeIn K cd44 "Bell.row" = true) (k44 : PySem.W.keepIn K (.ref f44) = true)
    (a45 : PySem.W.nsIn K mainGlobals "spaced" = some (some (.ref f45))) (l45 : K.lookup f45 = some ⟨oc45, od45, .func (PySem.W.fnOf "spaced" "spaced" (defArgs s_spaced) (defBody s_spaced) (defScope s_spaced) .none kV45 dc45 pm45 an45 cd45 ct45), sl45⟩) (c45 : PySem.W.codeIn K cd45 "spaced" = true) (k45 : PySem.W.keepIn K (.ref f45) = true)
    (a46 : PySem.W.findIn K (.ref C_Lay) "row" = some (some (.ref f46))) (l46 : K.lookup f46 = some ⟨oc46, od46, .func (PySem.W.fnOf "row" "Lay.row" (defArgs s_Lay__row) (defBody s_Lay__row) (defScope s_Lay__row) .none kV46 dc46 pm46 an46 cd46 ct46), sl46⟩) (c46 : PySem.W.codeIn K cd46 "Lay.row" = true) (k46 : PySem.W.keepIn K (.ref f46) = true)
    (a47 : PySem.W.findIn K (.ref C_Take) "row" = some (some (.ref f47))) (l47 : K.lookup f47 = some ⟨oc47, od47, .func (PySem.W.fnOf "row" "Take.row" (defArgs s_Take__row) (defBody s_Take__row) (defScope s_Take__row) .none kV47 dc47 pm47 an47 cd47 ct47), sl47⟩) (c47 : PySem.W.codeIn K cd47 "Take.row" = true) (k47 : PySem.W.keepIn K (.ref f47) = true)
    (a48 : PySem.W.findIn K (.ref C_Line) "row" = some (some (.ref f48))) (l48 : K.lookup f48 = some ⟨oc48, od48, .func (PySem.W.fnOf "row" "Line.row" (defArgs s_Line__row) (defBody s_Line__row) (defScope s_Line__row) .none kV48 dc48 pm48 an48 cd48 ct48), sl48⟩) (c48 : PySem.W.codeIn K cd48 "Line.row" = true) (k48 : PySem.W.keepIn K (.ref f48) = true)
    (a49 : PySem.W.findIn K (.ref C_Put) "row" = some (some (.ref f49))) (l49 : K.lookup f49 = some ⟨oc49, od49, .func (PySem.W.fnOf "row" "Put.row" (defArgs s_Put__row) (defBody s_Put__row) (defScope s_Put__row) .none kV49 dc49 pm49 an49 cd49 ct49), sl49⟩) (c49 : PySem.W.codeIn K cd49 "Put.row" = true) (k49 : PySem.W.keepIn K (.ref f49) = true)
    (a50 : PySem.W.findIn K (.ref C_Off) "row" = some (some (.ref f50))) (l50 : K.lookup f50 = some ⟨oc50, od50, .func (PySem.W.fnOf "row" "Off.row" (defArgs s_Off__row) (defBody s_Off__row) (defScope s_Off__row) .none kV50 dc50 pm50 an50 cd50 ct50), sl50⟩) (c50 : PySem.W.codeIn K cd50 "Off.row" = true) (k50 : PySem.W.keepIn K (.ref f50) = true)
    (a51 : PySem.W.findIn K (.ref C_Offer) "row" = some (some (.ref f51))) (l51 : K.lookup f51 = some ⟨oc51, od51, .func (PySem.W.fnOf "row" "Offer.row" (defArgs s_Offer__row) (defBody s_Offer__row) (defScope s_Offer__row) .none kV51 dc51 pm51 an51 cd51 ct51), sl51⟩) (c51 : PySem.W.codeIn K cd51 "Offer.row" = true) (k51 : PySem.W.keepIn K (.ref f51) = true)
    (a52 : PySem.W.nsIn K mainGlobals "law" = some (some (.ref f52))) (l52 : K.lookup f52 = some ⟨oc52, od52, .func (PySem.W.fnOf "law" "law" (defArgs s_law) (defBody s_law) (defScope s_law) .none kV52 dc52 pm52 an52 cd52 ct52), sl52⟩) (c52 : PySem.W.codeIn K cd52 "law" = true) (k52 : PySem.W.keepIn K (.ref f52) = true)
    (z_ValueError : PySem.W.nsIn K mainGlobals "ValueError" = some none)
    (z_all : PySem.W.nsIn K mainGlobals "all" = some none)
    (z_bool : PySem.W.nsIn K mainGlobals "bool" = some none)
    (z_int : PySem.W.nsIn K mainGlobals "int" = some none)
    (z_isinstance : PySem.W.nsIn K mainGlobals "isinstance" = some none)
    (z_len : PySem.W.nsIn K mainGlobals "len" = some none)
    (z_list : PySem.W.nsIn K mainGlobals "list" = some none)
    (z_min : PySem.W.nsIn K mainGlobals "min" = some none)
    (z_range : PySem.W.nsIn K mainGlobals "range" = some none)
    (z_str : PySem.W.nsIn K mainGlobals "str" = some none)
    (z_tuple : PySem.W.nsIn K mainGlobals "tuple" = some none)
    (g_FIGURES : PySem.W.nsIn K mainGlobals "FIGURES" = some (some (.str "0123456789" t_FIGURES)))
    (g_LETTERS : PySem.W.nsIn K mainGlobals "LETTERS" = some (some (.str "abcdefghijklmnopqrstuvwxyz" t_LETTERS)))
    (g_LONGEST_NAME : PySem.W.nsIn K mainGlobals "LONGEST_NAME" = some (some (.int 8 t_LONGEST_NAME)))
    (g_MOST_FIGURES : PySem.W.nsIn K mainGlobals "MOST_FIGURES" = some (some (.int 60 t_MOST_FIGURES)))
    (g_MOST_LEGS : PySem.W.nsIn K mainGlobals "MOST_LEGS" = some (some (.int 8 t_MOST_LEGS)))
    (y_q_NoName : PySem.W.excIn K C_NoName [.type "ValueError", .type "Exception", .type "BaseException", .type "object"] "ValueError.__new__" = true)
    (y_q_NoLeg : PySem.W.excIn K C_NoLeg [.type "ValueError", .type "Exception", .type "BaseException", .type "object"] "ValueError.__new__" = true)
    (y_q_NoRow : PySem.W.excIn K C_NoRow [.type "ValueError", .type "Exception", .type "BaseException", .type "object"] "ValueError.__new__" = true)
    (y_mk_Lay : Mk K C_Lay f6)
    (y_cl_Lay : Cls K C_Lay)
    (y_na_Lay_shelf : PySem.W.findIn K (.ref C_Lay) "shelf" = some none)
    (y_na_Lay_amount : PySem.W.findIn K (.ref C_Lay) "amount" = some none)
    (y_mk_Take : Mk K C_Take f15)
    (y_cl_Take : Cls K C_Take)
    (y_na_Take_shelf : PySem.W.findIn K (.ref C_Take) "shelf" = some none)
    (y_na_Take_amount : PySem.W.findIn K (.ref C_Take) "amount" = some none)
    (y_mk_Line : Mk K C_Line f17)
    (y_cl_Line : Cls K C_Line)
    (y_na_Line_shelf : PySem.W.findIn K (.ref C_Line) "shelf" = some none)
    (y_na_Line_line : PySem.W.findIn K (.ref C_Line) "line" = some none)
    (y_mk_Offer : Mk K C_Offer f19)
    (y_cl_Offer : Cls K C_Offer)
    (y_na_Offer_deal : PySem.W.findIn K (.ref C_Offer) "deal" = some none)
    (y_mk_Off : Mk K C_Off f26)
    (y_cl_Off : Cls K C_Off)
    (y_na_Off_name : PySem.W.findIn K (.ref C_Off) "name" = some none)
    (y_mk_Put : Mk K C_Put f28)
    (y_cl_Put : Cls K C_Put)
    (y_na_Put_shelf : PySem.W.findIn K (.ref C_Put) "shelf" = some none)
    (y_na_Put_name : PySem.W.findIn K (.ref C_Put) "name" = some none)
    (y_na_Put_place : PySem.W.findIn K (.ref C_Put) "place" = some none)
    (y_mk0_Bell : Mk0 K C_Bell)
    (y_cl_Bell : Cls K C_Bell)
    (y_kd_READERS : KDict K w.params C_READERS)
    (y_r_lay : PySem.W.nsIn K C_READERS "lay" = some (some (.ref C_lay_in)))
    (y_r_take : PySem.W.nsIn K C_READERS "take" = some (some (.ref C_take_in)))
    (y_r_line : PySem.W.nsIn K C_READERS "line" = some (some (.ref C_line_in)))
    (y_r_deal : PySem.W.nsIn K C_READERS "deal" = some (some (.ref C_offer_in)))
    (y_r_off : PySem.W.nsIn K C_READERS "off" = some (some (.ref C_off_in)))
    (y_r_put : PySem.W.nsIn K C_READERS "put" = some (some (.ref C_put_in)))
    (y_r_bell : PySem.W.nsIn K C_READERS "bell" = some (some (.ref C_bell_in)))
    (y_me_Lay_row : Meth K C_Lay "row" f46)
    (y_me_Take_row : Meth K C_Take "row" f47)
    (y_me_Line_row : Meth K C_Line "row" f48)
    (y_me_Offer_row : Meth K C_Offer "row" f51)
    (y_me_Off_row : Meth K C_Off "row" f50)
    (y_me_Put_row : Meth K C_Put "row" f49)
    (y_me_Bell_row : Meth K C_Bell "row" f44)
    (y_e_NoRow : ExK K C_NoRow)
    (y_m_NoRow : PySem.W.exmOne K (.ref C_NoRow) (.ref C_HallError) = some true)
    (y_i_NoRow : PySem.W.kitOne K (.ref C_NoRow) (.ref C_NoRow) = some true)
    (y_v_NoRow : PySem.W.kitOne K (.ref C_NoRow) (.type "ValueError") = some true)
    (y_o1_NoRow : PySem.W.kitAny K (.ref C_NoRow) [.ref C_NoName, .ref C_NoAmount, .ref C_NoLeg, .ref C_NotWaiting] = some false)
    (y_o2_NoRow : PySem.W.kitAny K (.ref C_NoRow) [.ref C_Twice, .ref C_TooLittle, .ref C_NotNow, .ref C_NotForetold, .ref C_NoBack] = some false)
    (y_rk_READERS : ∃ es n, K.lookup C_READERS = some ⟨.type "dict", none, .dict es n, #[]⟩ ∧ keysOf es.toList = ([Str.ofString "lay", Str.ofString "take", Str.ofString "line", Str.ofString "deal", Str.ofString "off", Str.ofString "put", Str.ofString "bell"] : List Str).map some ∧ es.toList.any (·.refKey) = false) :
    ∃ fd : FuncData, (∀ (s : Shared) (v : Value), BindsTo s fd ⟨[v], []⟩ [("script", v)]) ∧ ∀ base : Heap, K.In base → base.Ns mainGlobals mg → FnOk l.prog w K mg base CX0 9 fa fd ["script"] (spLaw K) := by
  have e := hfa.symm.trans (PySem.W.mg_of X G a52)
  cases e
  have T : Txt w K mg ⟨C_HallError, C_NoName, C_NoAmount, C_NoLeg, C_NotWaiting, C_Twice, C_TooLittle, C_NotNow, C_NotForetold, C_NoRow, C_NoBack, C_Lay, C_Take, C_Line, C_Offer, C_Off, C_Put, C_Bell, C_READERS, C_lay_in, C_take_in, C_line_in, C_offer_in, C_off_in, C_put_in, C_bell_in, f6, f15, f17, f19, f26, f28, f46, f47, f48, f51, f50, f49, f44⟩ := ⟨PySem.W.mg_none_of X G z_ValueError, PySem.W.mg_none_of X G z_all, PySem.W.mg_none_of X G z_bool, PySem.W.mg_none_of X G z_int, PySem.W.mg_none_of X G z_isinstance, PySem.W.mg_none_of X G z_len, PySem.W.mg_none_of X G z_list, PySem.W.mg_none_of X G z_min, PySem.W.mg_none_of X G z_range, PySem.W.mg_none_of X G z_str, PySem.W.mg_none_of X G z_tuple, ⟨_, PySem.W.mg_of X G g_FIGURES⟩, ⟨_, PySem.W.mg_of X G g_LETTERS⟩, ⟨_, PySem.W.mg_of X G g_LONGEST_NAME⟩, ⟨_, PySem.W.mg_of X G g_MOST_FIGURES⟩, ⟨_, PySem.W.mg_of X G g_MOST_LEGS⟩, PySem.W.mg_of X G x_HallError, PySem.W.mg_of X G x_NoName, PySem.W.mg_of X G x_NoAmount, PySem.W.mg_of X G x_NoLeg, PySem.W.mg_of X G x_NotWaiting, PySem.W.mg_of X G x_Twice, PySem.W.mg_of X G x_TooLittle, PySem.W.mg_of X G x_NotNow, PySem.W.mg_of X G x_NotForetold, PySem.W.mg_of X G x_NoRow, PySem.W.mg_of X G x_NoBack, PySem.W.mg_of X G x_Lay, PySem.W.mg_of X G x_Take, PySem.W.mg_of X G x_Line, PySem.W.mg_of X G x_Offer, PySem.W.mg_of X G x_Off, PySem.W.mg_of X G x_Put, PySem.W.mg_of X G x_Bell, PySem.W.mg_of X G x_READERS, PySem.W.mg_of X G x_lay_in, PySem.W.mg_of X G x_take_in, PySem.W.mg_of X G x_line_in, PySem.W.mg_of X G x_offer_in, PySem.W.mg_of X G x_off_in, PySem.W.mg_of X G x_put_in, PySem.W.mg_of X G x_bell_in, y_q_NoName, y_q_NoLeg, y_q_NoRow, y_mk_Lay, y_cl_Lay, y_na_Lay_shelf, y_na_Lay_amount, y_mk_Take, y_cl_Take, y_na_Take_shelf, y_na_Take_amount, y_mk_Line, y_cl_Line, y_na_Line_shelf, y_na_Line_line, y_mk_Offer, y_cl_Offer, y_na_Offer_deal, y_mk_Off, y_cl_Off, y_na_Off_name, y_mk_Put, y_cl_Put, y_na_Put_shelf, y_na_Put_name, y_na_Put_place, y_mk0_Bell, y_cl_Bell, y_kd_READERS, y_r_lay, y_r_take, y_r_line, y_r_deal, y_r_off, y_r_put, y_r_bell, y_me_Lay_row, y_me_Take_row, y_me_Line_row, y_me_Offer_row, y_me_Off_row, y_me_Put_row, y_me_Bell_row, y_e_NoRow, y_m_NoRow, y_i_NoRow, y_v_NoRow, y_o1_NoRow, y_o2_NoRow, y_rk_READERS⟩
  have D__law_signs : Dfn K mg "_law_signs" s__law_signs ["text", "place", "sign", "way"] := ⟨_, _, fun_mk (st := s__law_signs) l1 c1 k1, PySem.W.mg_of X G a1, (fun_mk (st := s__law_signs) l1 c1 k1).binds fun _ _ _ _ _ _ us hl => match us, hl with | [_, _, _, _], _ => rfl⟩
  have D__law_words : Dfn K mg "_law_words" s__law_words ["text", "place", "rest", "way"] := ⟨_, _, fun_mk (st := s__law_words) l2 c2 k2, PySem.W.mg_of X G a2, (fun_mk (st := s__law_words) l2 c2 k2).binds fun _ _ _ _ _ _ us hl => match us, hl with | [_, _, _, _], _ => rfl⟩
  have D__law_spoiled : Dfn K mg "_law_spoiled" s__law_spoiled ["text", "cell"] := ⟨_, _, fun_mk (st := s__law_spoiled) l3 c3 k3, PySem.W.mg_of X G a3, (fun_mk (st := s__law_spoiled) l3 c3 k3).binds fun _ _ _ _ _ _ us hl => match us, hl with | [_, _], _ => rfl⟩
  have D_check_row : Dfn K mg "check_row" s_check_row ["right"] := ⟨_, _, fun_mk (st := s_check_row) l4 c4 k4, PySem.W.mg_of X G a4, (fun_mk (st := s_check_row) l4 c4 k4).binds fun _ _ _ _ _ _ us hl => match us, hl with | [_], _ => rfl⟩
  have D_words_of : Dfn K mg "words_of" s_words_of ["row"] := ⟨_, _, fun_mk (st := s_words_of) l5 c5 k5, PySem.W.mg_of X G a5, (fun_mk (st := s_words_of) l5 c5 k5).binds fun _ _ _ _ _ _ us hl => match us, hl with | [_], _ => rfl⟩
  have D_Lay__init : DfnM K "__init__" "Lay.__init__" s_Lay__init ["self", "shelf", "amount"] f6 := ⟨_, fun_mk (st := s_Lay__init) l6 c6 k6, (fun_mk (st := s_Lay__init) l6 c6 k6).binds fun _ _ _ _ _ _ us hl => match us, hl with | [_, _, _], _ => rfl⟩
  have D_is_name : Dfn K mg "is_name" s_is_name ["thing"] := ⟨_, _, fun_mk (st := s_is_name) l7 c7 k7, PySem.W.mg_of X G a7, (fun_mk (st := s_is_name) l7 c7 k7).binds fun _ _ _ _ _ _ us hl => match us, hl with | [_], _ => rfl⟩
  have D_is_shelf : Dfn K mg "is_shelf" s_is_shelf ["thing"] := ⟨_, _, fun_mk (st := s_is_shelf) l8 c8 k8, PySem.W.mg_of X G a8, (fun_mk (st := s_is_shelf) l8 c8 k8).binds fun _ _ _ _ _ _ us hl => match us, hl with | [_], _ => rfl⟩
  have D_shelf_in : Dfn K mg "shelf_in" s_shelf_in ["house", "ware"] := ⟨_, _, fun_mk (st := s_shelf_in) l9 c9 k9, PySem.W.mg_of X G a9, (fun_mk (st := s_shelf_in) l9 c9 k9).binds fun _ _ _ _ _ _ us hl => match us, hl with | [_, _], _ => rfl⟩
  have D_number_in : Dfn K mg "number_in" s_number_in ["word"] := ⟨_, _, fun_mk (st := s_number_in) l10 c10 k10, PySem.W.mg_of X G a10, (fun_mk (st := s_number_in) l10 c10 k10).binds fun _ _ _ _ _ _ us hl => match us, hl with | [_], _ => rfl⟩
  have D_is_whole : Dfn K mg "is_whole" s_is_whole ["thing"] := ⟨_, _, fun_mk (st := s_is_whole) l11 c11 k11, PySem.W.mg_of X G a11, (fun_mk (st := s_is_whole) l11 c11 k11).binds fun _ _ _ _ _ _ us hl => match us, hl with | [_], _ => rfl⟩
  have D_is_amount : Dfn K mg "is_amount" s_is_amount ["thing"] := ⟨_, _, fun_mk (st := s_is_amount) l12 c12 k12, PySem.W.mg_of X G a12, (fun_mk (st := s_is_amount) l12 c12 k12).binds fun _ _ _ _ _ _ us hl => match us, hl with | [_], _ => rfl⟩
  have D_amount_in : Dfn K mg "amount_in" s_amount_in ["word"] := ⟨_, _, fun_mk (st := s_amount_in) l13 c13 k13, PySem.W.mg_of X G a13, (fun_mk (st := s_amount_in) l13 c13 k13).binds fun _ _ _ _ _ _ us hl => match us, hl with | [_], _ => rfl⟩
  have D_lay_in : Dfn K mg "lay_in" s_lay_in ["words"] := ⟨_, _, fun_mk (st := s_lay_in) l14 c14 k14, PySem.W.mg_of X G a14, (fun_mk (st := s_lay_in) l14 c14 k14).binds fun _ _ _ _ _ _ us hl => match us, hl with | [_], _ => rfl⟩
  have D_Take__init : DfnM K "__init__" "Take.__init__" s_Take__init ["self", "shelf", "amount"] f15 := ⟨_, fun_mk (st := s_Take__init) l15 c15 k15, (fun_mk (st := s_Take__init) l15 c15 k15).binds fun _ _ _ _ _ _ us hl => match us, hl with | [_, _, _], _ => rfl⟩
  have D_take_in : Dfn K mg "take_in" s_take_in ["words"] := ⟨_, _, fun_mk (st := s_take_in) l16 c16 k16, PySem.W.mg_of X G a16, (fun_mk (st := s_take_in) l16 c16 k16).binds fun _ _ _ _ _ _ us hl => match us, hl with | [_], _ => rfl⟩
  have D_Line__init : DfnM K "__init__" "Line.__init__" s_Line__init ["self", "shelf", "line"] f17 := ⟨_, fun_mk (st := s_Line__init) l17 c17 k17, (fun_mk (st := s_Line__init) l17 c17 k17).binds fun _ _ _ _ _ _ us hl => match us, hl with | [_, _, _], _ => rfl⟩
  have D_line_in : Dfn K mg "line_in" s_line_in ["words"] := ⟨_, _, fun_mk (st := s_line_in) l18 c18 k18, PySem.W.mg_of X G a18, (fun_mk (st := s_line_in) l18 c18 k18).binds fun _ _ _ _ _ _ us hl => match us, hl with | [_], _ => rfl⟩
  have D_Offer__init : DfnM K "__init__" "Offer.__init__" s_Offer__init ["self", "deal"] f19 := ⟨_, fun_mk (st := s_Offer__init) l19 c19 k19, (fun_mk (st := s_Offer__init) l19 c19 k19).binds fun _ _ _ _ _ _ us hl => match us, hl with | [_, _], _ => rfl⟩
  have D_leg_in : Dfn K mg "leg_in" s_leg_in ["text"] := ⟨_, _, fun_mk (st := s_leg_in) l20 c20 k20, PySem.W.mg_of X G a20, (fun_mk (st := s_leg_in) l20 c20 k20).binds fun _ _ _ _ _ _ us hl => match us, hl with | [_], _ => rfl⟩
  have D_is_leg : Dfn K mg "is_leg" s_is_leg ["thing"] := ⟨_, _, fun_mk (st := s_is_leg) l21 c21 k21, PySem.W.mg_of X G a21, (fun_mk (st := s_is_leg) l21 c21 k21).binds fun _ _ _ _ _ _ us hl => match us, hl with | [_], _ => rfl⟩
  have D_are_legs : Dfn K mg "are_legs" s_are_legs ["thing"] := ⟨_, _, fun_mk (st := s_are_legs) l22 c22 k22, PySem.W.mg_of X G a22, (fun_mk (st := s_are_legs) l22 c22 k22).binds fun _ _ _ _ _ _ us hl => match us, hl with | [_], _ => rfl⟩
  have D_deal_of : Dfn K mg "deal_of" s_deal_of ["name", "legs"] := ⟨_, _, fun_mk (st := s_deal_of) l23 c23 k23, PySem.W.mg_of X G a23, (fun_mk (st := s_deal_of) l23 c23 k23).binds fun _ _ _ _ _ _ us hl => match us, hl with | [_, _], _ => rfl⟩
  have D_name_in : Dfn K mg "name_in" s_name_in ["word"] := ⟨_, _, fun_mk (st := s_name_in) l24 c24 k24, PySem.W.mg_of X G a24, (fun_mk (st := s_name_in) l24 c24 k24).binds fun _ _ _ _ _ _ us hl => match us, hl with | [_], _ => rfl⟩
  have D_offer_in : Dfn K mg "offer_in" s_offer_in ["words"] := ⟨_, _, fun_mk (st := s_offer_in) l25 c25 k25, PySem.W.mg_of X G a25, (fun_mk (st := s_offer_in) l25 c25 k25).binds fun _ _ _ _ _ _ us hl => match us, hl with | [_], _ => rfl⟩
  have D_Off__init : DfnM K "__init__" "Off.__init__" s_Off__init ["self", "name"] f26 := ⟨_, fun_mk (st := s_Off__init) l26 c26 k26, (fun_mk (st := s_Off__init) l26 c26 k26).binds fun _ _ _ _ _ _ us hl => match us, hl with | [_, _], _ => rfl⟩
  have D_off_in : Dfn K mg "off_in" s_off_in ["words"] := ⟨_, _, fun_mk (st := s_off_in) l27 c27 k27, PySem.W.mg_of X G a27, (fun_mk (st := s_off_in) l27 c27 k27).binds fun _ _ _ _ _ _ us hl => match us, hl with | [_], _ => rfl⟩
  have D_Put__init : DfnM K "__init__" "Put.__init__" s_Put__init ["self", "shelf", "name", "place"] f28 := ⟨_, fun_mk (st := s_Put__init) l28 c28 k28, (fun_mk (st := s_Put__init) l28 c28 k28).binds fun _ _ _ _ _ _ us hl => match us, hl with | [_, _, _, _], _ => rfl⟩
  have D_put_in : Dfn K mg "put_in" s_put_in ["words"] := ⟨_, _, fun_mk (st := s_put_in) l29 c29 k29, PySem.W.mg_of X G a29, (fun_mk (st := s_put_in) l29 c29 k29).binds fun _ _ _ _ _ _ us hl => match us, hl with | [_], _ => rfl⟩
  have D_bell_in : Dfn K mg "bell_in" s_bell_in ["words"] := ⟨_, _, fun_mk (st := s_bell_in) l30 c30 k30, PySem.W.mg_of X G a30, (fun_mk (st := s_bell_in) l30 c30 k30).binds fun _ _ _ _ _ _ us hl => match us, hl with | [_], _ => rfl⟩
  have D_read : Dfn K mg "read" s_read ["row"] := ⟨_, _, fun_mk (st := s_read) l31 c31 k31, PySem.W.mg_of X G a31, (fun_mk (st := s_read) l31 c31 k31).binds fun _ _ _ _ _ _ us hl => match us, hl with | [_], _ => rfl⟩
  have D__law_told : Dfn K mg "_law_told" s__law_told ["row"] := ⟨_, _, fun_mk (st := s__law_told) l32 c32 k32, PySem.W.mg_of X G a32, (fun_mk (st := s__law_told) l32 c32 k32).binds fun _ _ _ _ _ _ us hl => match us, hl with | [_], _ => rfl⟩
  have D__law_word : Dfn K mg "_law_word" s__law_word ["word"] := ⟨_, _, fun_mk (st := s__law_word) l33 c33 k33, PySem.W.mg_of X G a33, (fun_mk (st := s__law_word) l33 c33 k33).binds fun _ _ _ _ _ _ us hl => match us, hl with | [_], _ => rfl⟩
  have D__law_figures : Dfn K mg "_law_figures" s__law_figures ["word", "bottom"] := ⟨_, _, fun_mk (st := s__law_figures) l34 c34 k34, PySem.W.mg_of X G a34, (fun_mk (st := s__law_figures) l34 c34 k34).binds fun _ _ _ _ _ _ us hl => match us, hl with | [_, _], _ => rfl⟩
  have D__law_is_leg : Dfn K mg "_law_is_leg" s__law_is_leg ["text"] := ⟨_, _, fun_mk (st := s__law_is_leg) l35 c35 k35, PySem.W.mg_of X G a35, (fun_mk (st := s__law_is_leg) l35 c35 k35).binds fun _ _ _ _ _ _ us hl => match us, hl with | [_], _ => rfl⟩
  have D__law_is_deal : Dfn K mg "_law_is_deal" s__law_is_deal ["words"] := ⟨_, _, fun_mk (st := s__law_is_deal) l36 c36 k36, PySem.W.mg_of X G a36, (fun_mk (st := s__law_is_deal) l36 c36 k36).binds fun _ _ _ _ _ _ us hl => match us, hl with | [_], _ => rfl⟩
  have D__law_good : Dfn K mg "_law_good" s__law_good ["row"] := ⟨_, _, fun_mk (st := s__law_good) l37 c37 k37, PySem.W.mg_of X G a37, (fun_mk (st := s__law_good) l37 c37 k37).binds fun _ _ _ _ _ _ us hl => match us, hl with | [_], _ => rfl⟩
  have D__law_cell_at : Dfn K mg "_law_cell_at" s__law_cell_at ["script", "k"] := ⟨_, _, fun_mk (st := s__law_cell_at) l38 c38 k38, PySem.W.mg_of X G a38, (fun_mk (st := s__law_cell_at) l38 c38 k38).binds fun _ _ _ _ _ _ us hl => match us, hl with | [_, _], _ => rfl⟩
  have D__law_amount : Dfn K mg "_law_amount" s__law_amount ["cell"] := ⟨_, _, fun_mk (st := s__law_amount) l39 c39 k39, PySem.W.mg_of X G a39, (fun_mk (st := s__law_amount) l39 c39 k39).binds fun _ _ _ _ _ _ us hl => match us, hl with | [_], _ => rfl⟩
  have D__law_name : Dfn K mg "_law_name" s__law_name ["cell"] := ⟨_, _, fun_mk (st := s__law_name) l40 c40 k40, PySem.W.mg_of X G a40, (fun_mk (st := s__law_name) l40 c40 k40).binds fun _ _ _ _ _ _ us hl => match us, hl with | [_], _ => rfl⟩
  have D__law_leg : Dfn K mg "_law_leg" s__law_leg ["cell"] := ⟨_, _, fun_mk (st := s__law_leg) l41 c41 k41, PySem.W.mg_of X G a41, (fun_mk (st := s__law_leg) l41 c41 k41).binds fun _ _ _ _ _ _ us hl => match us, hl with | [_], _ => rfl⟩
  have D__law_leg_text : Dfn K mg "_law_leg_text" s__law_leg_text ["leg"] := ⟨_, _, fun_mk (st := s__law_leg_text) l42 c42 k42, PySem.W.mg_of X G a42, (fun_mk (st := s__law_leg_text) l42 c42 k42).binds fun _ _ _ _ _ _ us hl => match us, hl with | [_], _ => rfl⟩
  have D__law_made : Dfn K mg "_law_made" s__law_made ["head", "one", "two"] := ⟨_, _, fun_mk (st := s__law_made) l43 c43 k43, PySem.W.mg_of X G a43, (fun_mk (st := s__law_made) l43 c43 k43).binds fun _ _ _ _ _ _ us hl => match us, hl with | [_, _, _], _ => rfl⟩
  have D_Bell__row : DfnM K "row" "Bell.row" s_Bell__row ["self"] f44 := ⟨_, fun_mk (st := s_Bell__row) l44 c44 k44, (fun_mk (st := s_Bell__row) l44 c44 k44).binds fun _ _ _ _ _ _ us hl => match us, hl with | [_], _ => rfl⟩
  have D_spaced : Dfn K mg "spaced" s_spaced ["words"] := ⟨_, _, fun_mk (st := s_spaced) l45 c45 k45, PySem.W.mg_of X G a45, (fun_mk (st := s_spaced) l45 c45 k45).binds fun _ _ _ _ _ _ us hl => match us, hl with | [_], _ => rfl⟩
  have D_Lay__row : DfnM K "row" "Lay.row" s_Lay__row ["self"] f46 := ⟨_, fun_mk (st := s_Lay__row) l46 c46 k46, (fun_mk (st := s_Lay__row) l46 c46 k46).binds fun _ _ _ _ _ _ us hl => match us, hl with | [_], _ => rfl⟩
  have D_Take__row : DfnM K "row" "Take.row" s_Take__row ["self"] f47 := ⟨_, fun_mk (st := s_Take__row) l47 c47 k47, (fun_mk (st := s_Take__row) l47 c47 k47).binds fun _ _ _ _ _ _ us hl => match us, hl with | [_], _ => rfl⟩
  have D_Line__row : DfnM K "row" "Line.row" s_Line__row ["self"] f48 := ⟨_, fun_mk (st := s_Line__row) l48 c48 k48, (fun_mk (st := s_Line__row) l48 c48 k48).binds fun _ _ _ _ _ _ us hl => match us, hl with | [_], _ => rfl⟩
  have D_Put__row : DfnM K "row" "Put.row" s_Put__row ["self"] f49 := ⟨_, fun_mk (st := s_Put__row) l49 c49 k49, (fun_mk (st := s_Put__row) l49 c49 k49).binds fun _ _ _ _ _ _ us hl => match us, hl with | [_], _ => rfl⟩
  have D_Off__row : DfnM K "row" "Off.row" s_Off__row ["self"] f50 := ⟨_, fun_mk (st := s_Off__row) l50 c50 k50, (fun_mk (st := s_Off__row) l50 c50 k50).binds fun _ _ _ _ _ _ us hl => match us, hl with | [_], _ => rfl⟩
  have D_Offer__row : DfnM K "row" "Offer.row" s_Offer__row ["self"] f51 := ⟨_, fun_mk (st := s_Offer__row) l51 c51 k51, (fun_mk (st := s_Offer__row) l51 c51 k51).binds fun _ _ _ _ _ _ us hl => match us, hl with | [_], _ => rfl⟩
  refine ⟨PySem.W.fnOf "law" "law" (defArgs s_law) (defBody s_law) (defScope s_law) .none kV52 dc52 pm52 an52 cd52 ct52, fun s v => .of_eq rfl, fun base _ _ => ?_⟩
  have H__law_signs := ok__law_signs (P := l.prog) (w := w) (base := base) T D__law_signs 
  have H__law_words := ok__law_words (P := l.prog) (w := w) (base := base) T D__law_words 
  have H__law_spoiled := ok__law_spoiled (P := l.prog) (w := w) (base := base) T D__law_spoiled H__law_signs H__law_words
  have H_check_row := ok_check_row (P := l.prog) (w := w) (base := base) T D_check_row 
  have H_words_of := ok_words_of (P := l.prog) (w := w) (base := base) T D_words_of H_check_row
  have H_Lay__init := ok_Lay__init (P := l.prog) (w := w) (base := base) T D_Lay__init 
  have H_is_name := ok_is_name (P := l.prog) (w := w) (base := base) T D_is_name 
  have H_is_shelf := ok_is_shelf (P := l.prog) (w := w) (base := base) T D_is_shelf H_is_name
  have H_shelf_in := ok_shelf_in (P := l.prog) (w := w) (base := base) T D_shelf_in H_check_row H_is_shelf
  have H_number_in := ok_number_in (P := l.prog) (w := w) (base := base) T D_number_in H_check_row
  have H_is_whole := ok_is_whole (P := l.prog) (w := w) (base := base) T D_is_whole 
  have H_is_amount := ok_is_amount (P := l.prog) (w := w) (base := base) T D_is_amount H_is_whole
  have H_amount_in := ok_amount_in (P := l.prog) (w := w) (base := base) T D_amount_in H_check_row H_number_in H_is_amount
  have H_lay_in := ok_lay_in (P := l.prog) (w := w) (base := base) T D_lay_in H_check_row H_Lay__init H_shelf_in H_amount_in
  have H_Take__init := ok_Take__init (P := l.prog) (w := w) (base := base) T D_Take__init 
  have H_take_in := ok_take_in (P := l.prog) (w := w) (base := base) T D_take_in H_check_row H_shelf_in H_amount_in H_Take__init
  have H_Line__init := ok_Line__init (P := l.prog) (w := w) (base := base) T D_Line__init 
  have H_line_in := ok_line_in (P := l.prog) (w := w) (base := base) T D_line_in H_check_row H_shelf_in H_number_in H_Line__init
  have H_Offer__init := ok_Offer__init (P := l.prog) (w := w) (base := base) T D_Offer__init 
  have H_leg_in := ok_leg_in (P := l.prog) (w := w) (base := base) T D_leg_in H_check_row H_number_in
  have H_is_leg := ok_is_leg (P := l.prog) (w := w) (base := base) T D_is_leg H_is_name H_is_amount
  have H_are_legs := ok_are_legs (P := l.prog) (w := w) (base := base) T D_are_legs H_is_leg
  have H_deal_of := ok_deal_of (P := l.prog) (w := w) (base := base) T D_deal_of H_is_name H_are_legs
  have H_name_in := ok_name_in (P := l.prog) (w := w) (base := base) T D_name_in H_check_row H_is_name
  have H_offer_in := ok_offer_in (P := l.prog) (w := w) (base := base) T D_offer_in H_check_row H_Offer__init H_leg_in H_are_legs H_deal_of H_name_in
  have H_Off__init := ok_Off__init (P := l.prog) (w := w) (base := base) T D_Off__init 
  have H_off_in := ok_off_in (P := l.prog) (w := w) (base := base) T D_off_in H_check_row H_name_in H_Off__init
  have H_Put__init := ok_Put__init (P := l.prog) (w := w) (base := base) T D_Put__init 
  have H_put_in := ok_put_in (P := l.prog) (w := w) (base := base) T D_put_in H_check_row H_shelf_in H_number_in H_name_in H_Put__init
  have H_bell_in := ok_bell_in (P := l.prog) (w := w) (base := base) T D_bell_in H_check_row
  have H_read := ok_read (P := l.prog) (w := w) (base := base) T D_read H_check_row H_words_of H_lay_in H_take_in H_line_in H_offer_in H_off_in H_put_in H_bell_in
  have H__law_told := ok__law_told (P := l.prog) (w := w) (base := base) T D__law_told H_read
  have H__law_word := ok__law_word (P := l.prog) (w := w) (base := base) T D__law_word 
  have H__law_figures := ok__law_figures (P := l.prog) (w := w) (base := base) T D__law_figures 
  have H__law_is_leg := ok__law_is_leg (P := l.prog) (w := w) (base := base) T D__law_is_leg H__law_word H__law_figures
  have H__law_is_deal := ok__law_is_deal (P := l.prog) (w := w) (base := base) T D__law_is_deal H__law_word H__law_is_leg
  have H__law_good := ok__law_good (P := l.prog) (w := w) (base := base) T D__law_good H__law_word H__law_figures H__law_is_deal
  have H__law_cell_at := ok__law_cell_at (P := l.prog) (w := w) (base := base) T D__law_cell_at 
  have H__law_amount := ok__law_amount (P := l.prog) (w := w) (base := base) T D__law_amount 
  have H__law_name := ok__law_name (P := l.prog) (w := w) (base := base) T D__law_name 
  have H__law_leg := ok__law_leg (P := l.prog) (w := w) (base := base) T D__law_leg H__law_amount H__law_name
  have H__law_leg_text := ok__law_leg_text (P := l.prog) (w := w) (base := base) T D__law_leg_text 
  have H__law_made := ok__law_made (P := l.prog) (w := w) (base := base) T D__law_made H__law_amount H__law_name H__law_leg H__law_leg_text
  have H_Bell__row := ok_Bell__row (P := l.prog) (w := w) (base := base) T D_Bell__row 
  have H_spaced := ok_spaced (P := l.prog) (w := w) (base := base) T D_spaced 
  have H_Lay__row := ok_Lay__row (P := l.prog) (w := w) (base := base) T D_Lay__row H_spaced
  have H_Take__row := ok_Take__row (P := l.prog) (w := w) (base := base) T D_Take__row H_spaced
  have H_Line__row := ok_Line__row (P := l.prog) (w := w) (base := base) T D_Line__row H_spaced
  have H_Put__row := ok_Put__row (P := l.prog) (w := w) (base := base) T D_Put__row H_spaced
  have H_Off__row := ok_Off__row (P := l.prog) (w := w) (base := base) T D_Off__row H_spaced
  have H_Offer__row := ok_Offer__row (P := l.prog) (w := w) (base := base) T D_Offer__row H_spaced
  exact ok_law (fun_mk (st := s_law) l52 c52 k52) T H__law_spoiled H__law_told H__law_good H__law_cell_at H__law_made H_Bell__row H_Lay__row H_Take__row H_Line__row H_Put__row H_Off__row H_Offer__row
theorem walk {l : PySem.W.OpenLaw} {q : Program} {loose : List Str} {XP : (Str → Option Value) → Heap → Prop} {YP : World → Heap → Prop} {d : DefRec} {K : Params → PySem.W.Frag} (hn : l.most = some 63) (hdf : d.params.defaults = [])
    (hY : ∀ (w : World) (h : Heap), YP w h → (K w.params).In h)
    (F : ∀ (w : World) (mg : Str → Option Value) (fa : Addr) (h : Heap), (K w.params).In h → h.Ns mainGlobals mg → mg d.name = some (.ref fa) →
      ∃ fd : FuncData, (∀ (s : Shared) (u : Value), BindsTo s fd ⟨[u], []⟩ [("script", u)]) ∧ ∀ base : Heap, (K w.params).In base → base.Ns mainGlobals mg → FnOk l.prog w (K w.params) mg base CX0 9 fa fd ["script"] (spLaw (K w.params))) :
    PySem.W.WalkO q loose XP YP l.row.toRowW d [] (fun f vs => PySem.call f vs) :=
  L2.walk_of (n := 63) (k := 9) (x := "script") (CX := fun _ => CX0) (sp := fun w => spLaw (K w.params)) hn (by decide) hdf ⟨rfl, by decide, by decide⟩ hY F (fun _ _ a ns hl _ hS => ⟨a, ns, rfl, hS, hl, fun _ => rfl⟩) fun _ _ _ _ _ z => z
end K62
def PySem.W.Fast.tw10058535021403468870 : Nat := 0
def PySem.W.Fast.tw10213426697422850700 : Nat := 0
def PySem.W.Fast.tw10241095483584822645 : Nat := 0
def PySem.W.Fast.tw10353786610164301865 : Nat := 0
def PySem.W.Fast.tw10374174028433164112 : Nat := 0
def PySem.W.Fast.tw10454573609091084946 : Nat := 0
def PySem.W.Fast.tw10462998833331540176 : Nat := 0
def PySem.W.Fast.tw10473141333352600129 : Nat := 0
def PySem.W.Fast.tw10569434892065659773 : Nat := 0
def PySem.W.Fast.tw10596506978206749615 : Nat := 0
def PySem.W.Fast.tw10666698192610445879 : Nat := 0
def PySem.W.Fast.tw10725404561948946686 : Nat := 0
def PySem.W.Fast.tw10743549917828827999 : Nat := 0
def PySem.W.Fast.tw10791568930919517983 : Nat := 0
def PySem.W.Fast.tw11030986931919438354 : Nat := 0
def PySem.W.Fast.tw11112979083448316671 : Nat := 0
def PySem.W.Fast.tw11123760896469191923 : Nat := 0
def PySem.W.Fast.tw1116064731006801594 : Nat := 0
def PySem.W.Fast.tw11254978145848921619 : Nat := 0
def PySem.W.Fast.tw11268026041698359880 : Nat := 0
def PySem.W.Fast.tw11307735148009986694 : Nat := 0
def PySem.W.Fast.tw1144171373958225278 : Nat := 0
def PySem.W.Fast.tw11442197333542620814 : Nat := 0
def PySem.W.Fast.tw11472304274157564591 : Nat := 0
def PySem.W.Fast.tw11488024336849141834 : Nat := 0
def PySem.W.Fast.tw11559990767296403395 : Nat := 0
def PySem.W.Fast.tw116132892517303817 : Nat := 0
def PySem.W.Fast.tw11711696326897255175 : Nat := 0
def PySem.W.Fast.tw1174686878091584536 : Nat := 0
def PySem.W.Fast.tw11784423743424639381 : Nat := 0
def PySem.W.Fast.tw1186498295860272952 : Nat := 0
def PySem.W.Fast.tw11867307510551095109 : Nat := 0
def PySem.W.Fast.tw1190927382987343046 : Nat := 0
def PySem.W.Fast.tw11963636067150926620 : Nat := 0
def PySem.W.Fast.tw12030596794679908890 : Nat := 0
def PySem.W.Fast.tw12094315910321393721 : Nat := 0
def PySem.W.Fast.tw12098751390343650881 : Nat := 0
def PySem.W.Fast.tw12133781020343803827 : Nat := 0
def PySem.W.Fast.tw12164067298661294030 : Nat := 0
def PySem.W.Fast.tw12205690757310247022 : Nat := 0
def PySem.W.Fast.tw12253252128102905390 : Nat := 0
def PySem.W.Fast.tw12315993746894666145 : Nat := 0
def PySem.W.Fast.tw12430273378204070929 : Nat := 0
def PySem.W.Fast.tw1246908082915049862 : Nat := 0
def PySem.W.Fast.tw12494219000590088135 : Nat := 0
def PySem.W.Fast.tw12614729221870840311 : Nat := 0
def PySem.W.Fast.tw12648439360427320593 : Nat := 0
def PySem.W.Fast.tw12669502249830450534 : Nat := 0
def PySem.W.Fast.tw12712501190264678662 : Nat := 0
def PySem.W.Fast.tw1274741492073560892 : Nat := 0
def PySem.W.Fast.tw12854981700440401737 : Nat := 0
def PySem.W.Fast.tw12860771890963193409 : Nat := 0
def PySem.W.Fast.tw12936573398679103823 : Nat := 0
def PySem.W.Fast.tw12959406715456918129 : Nat := 0
def PySem.W.Fast.tw12967334181117864157 : Nat := 0
def PySem.W.Fast.tw12979534324830373774 : Nat := 0
def PySem.W.Fast.tw13035718949402062415 : Nat := 0
def PySem.W.Fast.tw13058027769406125406 : Nat := 0
def PySem.W.Fast.tw13136283878602951654 : Nat := 0
def PySem.W.Fast.tw13147229195620316866 : Nat := 0
def PySem.W.Fast.tw13168717197992193422 : Nat := 0
def PySem.W.Fast.tw13169878594121211758 : Nat := 0
def PySem.W.Fast.tw13236903434816755492 : Nat := 0
def PySem.W.Fast.tw13347115806699340711 : Nat := 0
def PySem.W.Fast.tw13364739784294072975 : Nat := 0
def PySem.W.Fast.tw133927329837239912 : Nat := 0
def PySem.W.Fast.tw13461919863440568246 : Nat := 0
def PySem.W.Fast.tw13583607597682359809 : Nat := 0
def PySem.W.Fast.tw1369078643016033790 : Nat := 0
def PySem.W.Fast.tw13712420161039383896 : Nat := 0
def PySem.W.Fast.tw13727480380383254793 : Nat := 0
def PySem.W.Fast.tw13790596143027179567 : Nat := 0
def PySem.W.Fast.tw13857357315686601060 : Nat := 0
def PySem.W.Fast.tw1394008209449597872 : Nat := 0
def PySem.W.Fast.tw13974405759829421931 : Nat := 0
def PySem.W.Fast.tw14045430233717310152 : Nat := 0
def PySem.W.Fast.tw14160521904031227973 : Nat := 0
def PySem.W.Fast.tw1420386580290122847 : Nat := 0
def PySem.W.Fast.tw14241794894409746882 : Nat := 0
def PySem.W.Fast.tw14275781754486246865 : Nat := 0
def PySem.W.Fast.tw14377436557427467911 : Nat := 0
def PySem.W.Fast.tw14637444419473564224 : Nat := 0
def PySem.W.Fast.tw1467493533781545901 : Nat := 0
def PySem.W.Fast.tw14678317121839604091 : Nat := 0
def PySem.W.Fast.tw14762975900964230713 : Nat := 0
def PySem.W.Fast.tw14889181411658152856 : Nat := 0
def PySem.W.Fast.tw14915493962906380712 : Nat := 0
def PySem.W.Fast.tw14923217499657211783 : Nat := 0
def PySem.W.Fast.tw14940445996149819390 : Nat := 0
def PySem.W.Fast.tw15108906554325685711 : Nat := 0
def PySem.W.Fast.tw1539136878016265271 : Nat := 0
def PySem.W.Fast.tw15499828867222218388 : Nat := 0
def PySem.W.Fast.tw15559926052806859054 : Nat := 0
def PySem.W.Fast.tw15573381073564047774 : Nat := 0
def PySem.W.Fast.tw15624966525582873026 : Nat := 0
def PySem.W.Fast.tw1564664646547492635 : Nat := 0
def PySem.W.Fast.tw1567786496901572620 : Nat := 0
def PySem.W.Fast.tw15698319772538731667 : Nat := 0
def PySem.W.Fast.tw15701017520611955209 : Nat := 0
def PySem.W.Fast.tw15727230845904194815 : Nat := 0
def PySem.W.Fast.tw15791365907353734966 : Nat := 0
def PySem.W.Fast.tw15819045983940208621 : Nat := 0
def PySem.W.Fast.tw15836471420989186995 : Nat := 0
def PySem.W.Fast.tw1594126194168870357 : Nat := 0
def PySem.W.Fast.tw16034976291235704904 : Nat := 0
def PySem.W.Fast.tw16121834670157827897 : Nat := 0
def PySem.W.Fast.tw1619808708204583584 : Nat := 0
def PySem.W.Fast.tw16224284804941728190 : Nat := 0
def PySem.W.Fast.tw16310113502209472765 : Nat := 0
def PySem.W.Fast.tw16362090746528099305 : Nat := 0
def PySem.W.Fast.tw16438632715070226719 : Nat := 0
def PySem.W.Fast.tw16568507337267507378 : Nat := 0
def PySem.W.Fast.tw16743070356251707634 : Nat := 0
def PySem.W.Fast.tw16806565754594153718 : Nat := 0
def PySem.W.Fast.tw16818277213280005938 : Nat := 0
def PySem.W.Fast.tw1686413561343917124 : Nat := 0
def PySem.W.Fast.tw16888984988377110569 : Nat := 0
def PySem.W.Fast.tw16968012518321789574 : Nat := 0
def PySem.W.Fast.tw16983112705859068150 : Nat := 0
def PySem.W.Fast.tw16996301066876311074 : Nat := 0
def PySem.W.Fast.tw17380804128510887359 : Nat := 0
def PySem.W.Fast.tw17397923895347670749 : Nat := 0
def PySem.W.Fast.tw17494872466018648352 : Nat := 0
def PySem.W.Fast.tw17521473705545630397 : Nat := 0
def PySem.W.Fast.tw17566856865911160735 : Nat := 0
def PySem.W.Fast.tw17574407193151033540 : Nat := 0
def PySem.W.Fast.tw17578501776728618826 : Nat := 0
def PySem.W.Fast.tw17589603115146657366 : Nat := 0
def PySem.W.Fast.tw17623290166096293578 : Nat := 0
def PySem.W.Fast.tw17639771232009332571 : Nat := 0
def PySem.W.Fast.tw17643757364135109472 : Nat := 0
def PySem.W.Fast.tw17645932640192296700 : Nat := 0
def PySem.W.Fast.tw17705565326562982223 : Nat := 0
def PySem.W.Fast.tw17793924658408845512 : Nat := 0
def PySem.W.Fast.tw17896878924527345985 : Nat := 0
def PySem.W.Fast.tw1791976917731314995 : Nat := 0
def PySem.W.Fast.tw17950561695482162083 : Nat := 0
def PySem.W.Fast.tw18033651029428225694 : Nat := 0
def PySem.W.Fast.tw1808396842259271691 : Nat := 0
def PySem.W.Fast.tw18160311298749787630 : Nat := 0
def PySem.W.Fast.tw18168951366899948199 : Nat := 0
def PySem.W.Fast.tw18409036143748476981 : Nat := 0
def PySem.W.Fast.tw18426655941585256877 : Nat := 0
def PySem.W.Fast.tw1896035810381083085 : Nat := 0
def PySem.W.Fast.tw1920194530515486482 : Nat := 0
def PySem.W.Fast.tw1956184151438187630 : Nat := 0
def PySem.W.Fast.tw196300983418976627 : Nat := 0
def PySem.W.Fast.tw2027705962517792545 : Nat := 0
def PySem.W.Fast.tw2254485971134515537 : Nat := 0
def PySem.W.Fast.tw2275614764783450915 : Nat := 0
def PySem.W.Fast.tw2290599263692272387 : Nat := 0
def PySem.W.Fast.tw2291103957152747472 : Nat := 0
def PySem.W.Fast.tw2308446514213376394 : Nat := 0
def PySem.W.Fast.tw2332138679901046637 : Nat := 0
def PySem.W.Fast.tw2453687563217989903 : Nat := 0
def PySem.W.Fast.tw2516301112699564767 : Nat := 0
def PySem.W.Fast.tw2519396419179920761 : Nat := 0
def PySem.W.Fast.tw2573324137477756557 : Nat := 0
def PySem.W.Fast.tw2689522810485130970 : Nat := 0
def PySem.W.Fast.tw2777821668445199578 : Nat := 0
def PySem.W.Fast.tw287740106938663894 : Nat := 0
def PySem.W.Fast.tw2899710116242039734 : Nat := 0
def PySem.W.Fast.tw298311130476228389 : Nat := 0
def PySem.W.Fast.tw3027718234430852227 : Nat := 0
def PySem.W.Fast.tw3037945672547911678 : Nat := 0
def PySem.W.Fast.tw3212680057245150298 : Nat := 0
def PySem.W.Fast.tw3238017699227479106 : Nat := 0
def PySem.W.Fast.tw3247720391750372729 : Nat := 0
def PySem.W.Fast.tw3296368905486224608 : Nat := 0
def PySem.W.Fast.tw3348519481315639967 : Nat := 0
def PySem.W.Fast.tw3404576724998881571 : Nat := 0
def PySem.W.Fast.tw34662612202404599 : Nat := 0
def PySem.W.Fast.tw3497946610407825324 : Nat := 0
def PySem.W.Fast.tw3516731812819510226 : Nat := 0
def PySem.W.Fast.tw3563852464464543634 : Nat := 0
def PySem.W.Fast.tw359854447185872746 : Nat := 0
def PySem.W.Fast.tw3680421007902271086 : Nat := 0
def PySem.W.Fast.tw3920702093485718587 : Nat := 0
def PySem.W.Fast.tw3990964202438126167 : Nat := 0
def PySem.W.Fast.tw402315209018852644 : Nat := 0
def PySem.W.Fast.tw4073235793097774204 : Nat := 0
def PySem.W.Fast.tw4201497516583512990 : Nat := 0
def PySem.W.Fast.tw4212599279157349271 : Nat := 0
def PySem.W.Fast.tw4267249831464028890 : Nat := 0
def PySem.W.Fast.tw4269205170617457419 : Nat := 0
def PySem.W.Fast.tw4270892384661086331 : Nat := 0
def PySem.W.Fast.tw4280781342232009259 : Nat := 0
def PySem.W.Fast.tw4316597665554724239 : Nat := 0
def PySem.W.Fast.tw4400037400059704742 : Nat := 0
def PySem.W.Fast.tw4454416508807468515 : Nat := 0
def PySem.W.Fast.tw4541247634646248599 : Nat := 0
def PySem.W.Fast.tw4564770239384223847 : Nat := 0
def PySem.W.Fast.tw4569423450479222844 : Nat := 0
def PySem.W.Fast.tw466560891909127019 : Nat := 0
def PySem.W.Fast.tw4718182738715921999 : Nat := 0
def PySem.W.Fast.tw4731214394539525710 : Nat := 0
def PySem.W.Fast.tw4737720046587310149 : Nat := 0
def PySem.W.Fast.tw479519594835307190 : Nat := 0
def PySem.W.Fast.tw4828702088989323732 : Nat := 0
def PySem.W.Fast.tw4834038221900115482 : Nat := 0
def PySem.W.Fast.tw4841310126973972622 : Nat := 0
def PySem.W.Fast.tw4858173650941625316 : Nat := 0
def PySem.W.Fast.tw4946259657621705614 : Nat := 0
def PySem.W.Fast.tw5013094416807351382 : Nat := 0
def PySem.W.Fast.tw5089168319653500249 : Nat := 0
def PySem.W.Fast.tw5235221545817663839 : Nat := 0
def PySem.W.Fast.tw5311655685326120563 : Nat := 0
def PySem.W.Fast.tw5331172412366409136 : Nat := 0
def PySem.W.Fast.tw5439090826097501170 : Nat := 0
def PySem.W.Fast.tw5587888011650040157 : Nat := 0
def PySem.W.Fast.tw5597450880021063955 : Nat := 0
def PySem.W.Fast.tw58814805909442725 : Nat := 0
def PySem.W.Fast.tw5900569714575904844 : Nat := 0
def PySem.W.Fast.tw5964078395285550409 : Nat := 0
def PySem.W.Fast.tw5992766752148224966 : Nat := 0
def PySem.W.Fast.tw6085224336664957195 : Nat := 0
def PySem.W.Fast.tw6223990912386477267 : Nat := 0
def PySem.W.Fast.tw6423635815747984989 : Nat := 0
def PySem.W.Fast.tw6556323314170780860 : Nat := 0
def PySem.W.Fast.tw6633918730118160090 : Nat := 0
def PySem.W.Fast.tw668505170798095585 : Nat := 0
def PySem.W.Fast.tw6721119101611654829 : Nat := 0
def PySem.W.Fast.tw6750252773496165912 : Nat := 0
def PySem.W.Fast.tw675848948930912494 : Nat := 0
def PySem.W.Fast.tw6840927458132289353 : Nat := 0
def PySem.W.Fast.tw6892652403288803481 : Nat := 0
def PySem.W.Fast.tw6945874685444795011 : Nat := 0
def PySem.W.Fast.tw6968291213327781455 : Nat := 0
def PySem.W.Fast.tw701410969474767904 : Nat := 0
def PySem.W.Fast.tw7075559884682637229 : Nat := 0
def PySem.W.Fast.tw7234624960593063841 : Nat := 0
def PySem.W.Fast.tw730467621459790933 : Nat := 0
def PySem.W.Fast.tw7572955749150506199 : Nat := 0
def PySem.W.Fast.tw7675128939295079448 : Nat := 0
def PySem.W.Fast.tw7715801541762902783 : Nat := 0
def PySem.W.Fast.tw7742106519852186931 : Nat := 0
def PySem.W.Fast.tw7926813900225873687 : Nat := 0
def PySem.W.Fast.tw8045811224101118142 : Nat := 0
def PySem.W.Fast.tw8052939104376444412 : Nat := 0
def PySem.W.Fast.tw8180159069641562584 : Nat := 0
def PySem.W.Fast.tw8198990154466126573 : Nat := 0
def PySem.W.Fast.tw833939949312373461 : Nat := 0
def PySem.W.Fast.tw8344958391625979210 : Nat := 0
def PySem.W.Fast.tw8371892795709570266 : Nat := 0
def PySem.W.Fast.tw848285751477596945 : Nat := 0
def PySem.W.Fast.tw849901121240796506 : Nat := 0
def PySem.W.Fast.tw8520723134876747442 : Nat := 0
def PySem.W.Fast.tw8600724145866246750 : Nat := 0
def PySem.W.Fast.tw8602016103439555211 : Nat := 0
def PySem.W.Fast.tw8636113654168445725 : Nat := 0
def PySem.W.Fast.tw8708122384650651921 : Nat := 0
def PySem.W.Fast.tw8745269057534012143 : Nat := 0
def PySem.W.Fast.tw8773862215302245194 : Nat := 0
def PySem.W.Fast.tw8795889500472135774 : Nat := 0
def PySem.W.Fast.tw8810751641819423323 : Nat := 0
def PySem.W.Fast.tw8881836246386665503 : Nat := 0
def PySem.W.Fast.tw8892552735820836602 : Nat := 0
def PySem.W.Fast.tw8901561795210364687 : Nat := 0
def PySem.W.Fast.tw89246627372021731 : Nat := 0
def PySem.W.Fast.tw9044221588429960010 : Nat := 0
def PySem.W.Fast.tw9085982482502370477 : Nat := 0
def PySem.W.Fast.tw9139725058679306755 : Nat := 0
def PySem.W.Fast.tw922848376383289838 : Nat := 0
def PySem.W.Fast.tw927157919877518411 : Nat := 0
def PySem.W.Fast.tw9279986736197886956 : Nat := 0
def PySem.W.Fast.tw9282757613209709449 : Nat := 0
def PySem.W.Fast.tw9294436042837684720 : Nat := 0
def PySem.W.Fast.tw9303368172123374662 : Nat := 0
def PySem.W.Fast.tw936287689674404445 : Nat := 0
def PySem.W.Fast.tw9483415289898878890 : Nat := 0
def PySem.W.Fast.tw9496416702063602819 : Nat := 0
def PySem.W.Fast.tw9579549775616727964 : Nat := 0
def PySem.W.Fast.tw9849236153805004156 : Nat := 0
def PySem.W.Fast.tw9906323246279547043 : Nat := 0
def PySem.W.Fast.tw9920544751868556815 : Nat := 0
def PySem.W.Fast.tw9985785247792963950 : Nat := 0
open PySem PySem.W PyProof.Rows
set_option maxRecDepth 100000 in
set_option maxHeartbeats 0 in
theorem PySem.Challenge.cw_dealknot_k62_rows_refused_holds : PySem.Challenge.rw_dealknot_k62_rows_refused.Holds := by
  w_on; o_law; k_head; (case hw => w_witness2)
  k_fill
  refine K62.walk (l := PySem.Challenge.rw_dealknot_k62_rows_refused) rfl rfl (fun w h Y => PySem.W.kIn_of Y) ?F
  case F =>
    intro w mg fa h KX G hmg
    refine' K62.all_mk KX G hmg ?x_HallError ?x_NoName ?x_NoAmount ?x_NoLeg ?x_NotWaiting ?x_Twice ?x_TooLittle ?x_NotNow ?x_NotForetold ?x_NoRow ?x_NoBack ?x_Lay ?x_Take ?x_Line ?x_Offer ?x_Off ?x_Put ?x_Bell ?x_READERS ?x_lay_in ?x_take_in ?x_line_in ?x_offer_in ?x_off_in ?x_put_in ?x_bell_in ?a1 ?l1 ?c1 ?k1 ?a2 ?l2 ?c2 ?k2 ?a3 ?l3 ?c3 ?k3 ?a4 ?l4 ?c4 ?k4 ?a5 ?l5 ?c5 ?k5 ?a6 ?l6 ?c6 ?k6 ?a7 ?l7 ?c7 ?k7 ?a8 ?l8 ?c8 ?k8 ?a9 ?l9 ?c9 ?k9 ?a10 ?l10 ?c10 ?k10 ?a11 ?l11 ?c11 ?k11 ?a12 ?l12 ?c12 ?k12 ?a13 ?l13 ?c13 ?k13 ?a14 ?l14 ?c14 ?k14 ?a15 ?l15 ?c15 ?k15 ?a16 ?l16 ?c16 ?k16 ?a17 ?l17 ?c17 ?k17 ?a18 ?l18 ?c18 ?k18 ?a19 ?l19 ?c19 ?k19 ?a20 ?l20 ?c20 ?k20 ?a21 ?l21 ?c21 ?k21 ?a22 ?l22 ?c22 ?k22 ?a23 ?l23 ?c23 ?k23 ?a24 ?l24 ?c24 ?k24 ?a25 ?l25 ?c25 ?k25 ?a26 ?l26 ?c26 ?k26 ?a27 ?l27 ?c27 ?k27 ?a28 ?l28 ?c28 ?k28 ?a29 ?l29 ?c29 ?k29 ?a30 ?l30 ?c30 ?k30 ?a31 ?l31 ?c31 ?k31 ?a32 ?l32 ?c32 ?k32 ?a33 ?l33 ?c33 ?k33 ?a34 ?l34 ?c34 ?k34 ?a35 ?l35 ?c35 ?k35 ?a36 ?l36 ?c36 ?k36 ?a37 ?l37 ?c37 ?k37 ?a38 ?l38 ?c38 ?k38 ?a39 ?l39 ?c39 ?k39 ?a40 ?l40 ?c40 ?k40 ?a41 ?l41 ?c41 ?k41 ?a42 ?l42 ?c42 ?k42 ?a43 ?l43 ?c43 ?k43 ?a44 ?l44 ?c44 ?k44 ?a45 ?l45 ?c45 ?k45 ?a46 ?l46 ?c46 ?k46 ?a47 ?l47 ?c47 ?k47 ?a48 ?l48 ?c48 ?k48 ?a49 ?l49 ?c49 ?k49 ?a50 ?l50 ?c50 ?k50 ?a51 ?l51 ?c51 ?k51 ?a52 ?l52 ?c52 ?k52 ?z_ValueError ?z_all ?z_bool ?z_int ?z_isinstance ?z_len ?z_list ?z_min ?z_range ?z_str ?z_tuple ?g_FIGURES ?g_LETTERS ?g_LONGEST_NAME ?g_MOST_FIGURES ?g_MOST_LEGS ?y_q_NoName ?y_q_NoLeg ?y_q_NoRow ?y_mk_Lay ?y_cl_Lay ?y_na_Lay_shelf ?y_na_Lay_amount ?y_mk_Take ?y_cl_Take ?y_na_Take_shelf ?y_na_Take_amount ?y_mk_Line ?y_cl_Line ?y_na_Line_shelf ?y_na_Line_line ?y_mk_Offer ?y_cl_Offer ?y_na_Offer_deal ?y_mk_Off ?y_cl_Off ?y_na_Off_name ?y_mk_Put ?y_cl_Put ?y_na_Put_shelf ?y_na_Put_name ?y_na_Put_place ?y_mk0_Bell ?y_cl_Bell ?y_kd_READERS ?y_r_lay ?y_r_take ?y_r_line ?y_r_deal ?y_r_off ?y_r_put ?y_r_bell ?y_me_Lay_row ?y_me_Take_row ?y_me_Line_row ?y_me_Offer_row ?y_me_Off_row ?y_me_Put_row ?y_me_Bell_row ?y_e_NoRow ?y_m_NoRow ?y_i_NoRow ?y_v_NoRow ?y_o1_NoRow ?y_o2_NoRow ?y_rk_READERS
    (case x_HallError => k_is)
    (case x_NoName => k_is)
    (case x_NoAmount => k_is)
    (case x_NoLeg => k_is)
    (case x_NotWaiting => k_is)
    (case x_Twice => k_is)
    (case x_TooLittle => k_is)
    (case x_NotNow => k_is)
    (case x_NotForetold => k_is)
    (case x_NoRow => k_is)
    (case x_NoBack => k_is)
    (case x_Lay => k_is)
    (case x_Take => k_is)
    (case x_Line => k_is)
    (case x_Offer => k_is)
    (case x_Off => k_is)
    (case x_Put => k_is)
    (case x_Bell => k_is)
    (case x_READERS => k_is)
    (case x_lay_in => k_is)
    (case x_take_in => k_is)
    (case x_line_in => k_is)
    (case x_offer_in => k_is)
    (case x_off_in => k_is)
    (case x_put_in => k_is)
    (case x_bell_in => k_is)
    (case a1 => k_is)
    (case l1 => k_is)
    (case c1 => k_is)
    (case k1 => k_is)
    (case a2 => k_is)
    (case l2 => k_is)
    (case c2 => k_is)
    (case k2 => k_is)
    (case a3 => k_is)
    (case l3 => k_is)
    (case c3 => k_is)
    (case k3 => k_is)
    (case a4 => k_is)
    (case l4 => k_is)
    (case c4 => k_is)
    (case k4 => k_is)
    (case a5 => k_is)
    (case l5 => k_is)
    (case c5 => k_is)
    (case k5 => k_is)
    (case a6 => k_is)
    (case l6 => k_is)
    (case c6 => k_is)
    (case k6 => k_is)
    (case a7 => k_is)
    (case l7 => k_is)
    (case c7 => k_is)
    (case k7 => k_is)
    (case a8 => k_is)
    (case l8 => k_is)
    (case c8 => k_is)
    (case k8 => k_is)
    (case a9 => k_is)
    (case l9 => k_is)
    (case c9 => k_is)
    (case k9 => k_is)
    (case a10 => k_is)
    (case l10 => k_is)
    (case c10 => k_is)
    (case k10 => k_is)
    (case a11 => k_is)
    (case l11 => k_is)
    (case c11 => k_is)
    (case k11 => k_is)
    (case a12 => k_is)
    (case l12 => k_is)
    (case c12 => k_is)
    (case k12 => k_is)
    (case a13 => k_is)
    (case l13 => k_is)
    (case c13 => k_is)
    (case k13 => k_is)
    (case a14 => k_is)
    (case l14 => k_is)
    (case c14 => k_is)
    (case k14 => k_is)
    (case a15 => k_is)
    (case l15 => k_is)
    (case c15 => k_is)
    (case k15 => k_is)
    (case a16 => k_is)
    (case l16 => k_is)
    (case c16 => k_is)
    (case k16 => k_is)
    (case a17 => k_is)
    (case l17 => k_is)
    (case c17 => k_is)
    (case k17 => k_is)
    (case a18 => k_is)
    (case l18 => k_is)
    (case c18 => k_is)
    (case k18 => k_is)
    (case a19 => k_is)
    (case l19 => k_is)
    (case c19 => k_is)
    (case k19 => k_is)
    (case a20 => k_is)
    (case l20 => k_is)
    (case c20 => k_is)
    (case k20 => k_is)
    (case a21 => k_is)
    (case l21 => k_is)
    (case c21 => k_is)
    (case k21 => k_is)
    (case a22 => k_is)
    (case l22 => k_is)
    (case c22 => k_is)
    (case k22 => k_is)
    (case a23 => k_is)
    (case l23 => k_is)
    (case c23 => k_is)
    (case k23 => k_is)
    (case a24 => k_is)
    (case l24 => k_is)
    (case c24 => k_is)
    (case k24 => k_is)
    (case a25 => k_is)
    (case l25 => k_is)
    (case c25 => k_is)
    (case k25 => k_is)
    (case a26 => k_is)
    (case l26 => k_is)
    (case c26 => k_is)
    (case k26 => k_is)
    (case a27 => k_is)
    (case l27 => k_is)
    (case c27 => k_is)
    (case k27 => k_is)
    (case a28 => k_is)
    (case l28 => k_is)
    (case c28 => k_is)
    (case k28 => k_is)
    (case a29 => k_is)
    (case l29 => k_is)
    (case c29 => k_is)
    (case k29 => k_is)
    (case a30 => k_is)
    (case l30 => k_is)
    (case c30 => k_is)
    (case k30 => k_is)
    (case a31 => k_is)
    (case l31 => k_is)
    (case c31 => k_is)
    (case k31 => k_is)
    (case a32 => k_is)
    (case l32 => k_is)
    (case c32 => k_is)
    (case k32 => k_is)
    (case a33 => k_is)
    (case l33 => k_is)
    (case c33 => k_is)
    (case k33 => k_is)
    (case a34 => k_is)
    (case l34 => k_is)
    (case c34 => k_is)
    (case k34 => k_is)
    (case a35 => k_is)
    (case l35 => k_is)
    (case c35 => k_is)
    (case k35 => k_is)
    (case a36 => k_is)
    (case l36 => k_is)
    (case c36 => k_is)
    (case k36 => k_is)
    (case a37 => k_is)
    (case l37 => k_is)
    (case c37 => k_is)
    (case k37 => k_is)
    (case a38 => k_is)
    (case l38 => k_is)
    (case c38 => k_is)
    (case k38 => k_is)
    (case a39 => k_is)
    (case l39 => k_is)
    (case c39 => k_is)
    (case k39 => k_is)
    (case a40 => k_is)
    (case l40 => k_is)
    (case c40 => k_is)
    (case k40 => k_is)
    (case a41 => k_is)
    (case l41 => k_is)
    (case c41 => k_is)
    (case k41 => k_is)
    (case a42 => k_is)
    (case l42 => k_is)
    (case c42 => k_is)
    (case k42 => k_is)
    (case a43 => k_is)
    (case l43 => k_is)
    (case c43 => k_is)
    (case k43 => k_is)
    (case a44 => k_is)
    (case l44 => k_is)
    (case c44 => k_is)
    (case k44 => k_is)
    (case a45 => k_is)
    (case l45 => k_is)
    (case c45 => k_is)
    (case k45 => k_is)
    (case a46 => k_is)
    (case l46 => k_is)
    (case c46 => k_is)
    (case k46 => k_is)
    (case a47 => k_is)
    (case l47 => k_is)
    (case c47 => k_is)
    (case k47 => k_is)
    (case a48 => k_is)
    (case l48 => k_is)
    (case c48 => k_is)
    (case k48 => k_is)
    (case a49 => k_is)
    (case l49 => k_is)
    (case c49 => k_is)
    (case k49 => k_is)
    (case a50 => k_is)
    (case l50 => k_is)
    (case c50 => k_is)
    (case k50 => k_is)
    (case a51 => k_is)
    (case l51 => k_is)
    (case c51 => k_is)
    (case k51 => k_is)
    (case a52 => k_is)
    (case l52 => k_is)
    (case c52 => k_is)
    (case k52 => k_is)
    (case z_ValueError => k_is)
    (case z_all => k_is)
    (case z_bool => k_is)
    (case z_int => k_is)
    (case z_isinstance => k_is)
    (case z_len => k_is)
    (case z_list => k_is)
    (case z_min => k_is)
    (case z_range => k_is)
    (case z_str => k_is)
    (case z_tuple => k_is)
    (case g_FIGURES => k_is)
    (case g_LETTERS => k_is)
    (case g_LONGEST_NAME => k_is)
    (case g_MOST_FIGURES => k_is)
    (case g_MOST_LEGS => k_is)
    (case y_q_NoName => (refine' L2.exc_mk ?h1 ?h2 ?h3 ?h4 ?h5 ?h6 ?h7; (case h1 => k_is); (case h2 => exact rfl); (case h3 => exact rfl); (case h4 => exact rfl); (case h5 => (refine' L2.tail_ref ?g1 ?g2 ?g3 ?g4; (case g1 => k_is); (case g2 => (refine' L2.nsOk_mk ?a ?b; (case a => k_is); (case b => exact rfl))); (case g3 => k_is); (case g4 => exact L2.tail_base rfl))); (case h6 => (refine' L2.nsOk_mk ?a ?b; (case a => k_is); (case b => exact rfl))); (case h7 => k_is)))
    (case y_q_NoLeg => (refine' L2.exc_mk ?h1 ?h2 ?h3 ?h4 ?h5 ?h6 ?h7; (case h1 => k_is); (case h2 => exact rfl); (case h3 => exact rfl); (case h4 => exact rfl); (case h5 => (refine' L2.tail_ref ?g1 ?g2 ?g3 ?g4; (case g1 => k_is); (case g2 => (refine' L2.nsOk_mk ?a ?b; (case a => k_is); (case b => exact rfl))); (case g3 => k_is); (case g4 => exact L2.tail_base rfl))); (case h6 => (refine' L2.nsOk_mk ?a ?b; (case a => k_is); (case b => exact rfl))); (case h7 => k_is)))
    (case y_q_NoRow => (refine' L2.exc_mk ?h1 ?h2 ?h3 ?h4 ?h5 ?h6 ?h7; (case h1 => k_is); (case h2 => exact rfl); (case h3 => exact rfl); (case h4 => exact rfl); (case h5 => (refine' L2.tail_ref ?g1 ?g2 ?g3 ?g4; (case g1 => k_is); (case g2 => (refine' L2.nsOk_mk ?a ?b; (case a => k_is); (case b => exact rfl))); (case g3 => k_is); (case g4 => exact L2.tail_base rfl))); (case h6 => (refine' L2.nsOk_mk ?a ?b; (case a => k_is); (case b => exact rfl))); (case h7 => k_is)))
    (case y_mk_Lay => exact ⟨by k_is, by k_is, by k_is, by k_is⟩)
    (case y_cl_Lay => exact ⟨by k_is, by k_is, by k_is, by k_is⟩)
    (case y_na_Lay_shelf => k_is)
    (case y_na_Lay_amount => k_is)
    (case y_mk_Take => exact ⟨by k_is, by k_is, by k_is, by k_is⟩)
    (case y_cl_Take => exact ⟨by k_is, by k_is, by k_is, by k_is⟩)
    (case y_na_Take_shelf => k_is)
    (case y_na_Take_amount => k_is)
    (case y_mk_Line => exact ⟨by k_is, by k_is, by k_is, by k_is⟩)
    (case y_cl_Line => exact ⟨by k_is, by k_is, by k_is, by k_is⟩)
    (case y_na_Line_shelf => k_is)
    (case y_na_Line_line => k_is)
    (case y_mk_Offer => exact ⟨by k_is, by k_is, by k_is, by k_is⟩)
    (case y_cl_Offer => exact ⟨by k_is, by k_is, by k_is, by k_is⟩)
    (case y_na_Offer_deal => k_is)
    (case y_mk_Off => exact ⟨by k_is, by k_is, by k_is, by k_is⟩)
    (case y_cl_Off => exact ⟨by k_is, by k_is, by k_is, by k_is⟩)
    (case y_na_Off_name => k_is)
    (case y_mk_Put => exact ⟨by k_is, by k_is, by k_is, by k_is⟩)
    (case y_cl_Put => exact ⟨by k_is, by k_is, by k_is, by k_is⟩)
    (case y_na_Put_shelf => k_is)
    (case y_na_Put_name => k_is)
    (case y_na_Put_place => k_is)
    (case y_mk0_Bell => exact ⟨by k_is, by k_is, by k_is⟩)
    (case y_cl_Bell => exact ⟨by k_is, by k_is, by k_is, by k_is⟩)
    (case y_kd_READERS => exact ⟨⟨_, _, by k_is, by k_keys⟩, by decide⟩)
    (case y_r_lay => k_is)
    (case y_r_take => k_is)
    (case y_r_line => k_is)
    (case y_r_deal => k_is)
    (case y_r_off => k_is)
    (case y_r_put => k_is)
    (case y_r_bell => k_is)
    (case y_me_Lay_row => exact ⟨by k_is, by k_is, by k_is⟩)
    (case y_me_Take_row => exact ⟨by k_is, by k_is, by k_is⟩)
    (case y_me_Line_row => exact ⟨by k_is, by k_is, by k_is⟩)
    (case y_me_Offer_row => exact ⟨by k_is, by k_is, by k_is⟩)
    (case y_me_Off_row => exact ⟨by k_is, by k_is, by k_is⟩)
    (case y_me_Put_row => exact ⟨by k_is, by k_is, by k_is⟩)
    (case y_me_Bell_row => exact ⟨by k_is, by k_is, by k_is⟩)
    (case y_e_NoRow => exact ⟨by k_is, by k_is, by k_is, by k_is, by k_is, by k_is, by k_is, rfl⟩)
    (case y_m_NoRow => kts_exm)
    (case y_i_NoRow => kit_is)
    (case y_v_NoRow => kit_is)
    (case y_o1_NoRow => kit_is)
    (case y_o2_NoRow => kit_is)
    (case y_rk_READERS => exact ⟨_, _, by k_is, by rfl, by rfl⟩)
